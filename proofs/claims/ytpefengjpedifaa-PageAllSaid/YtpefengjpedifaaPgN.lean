/-
  Layer 8: two stores beside one another.
-/
import Derived.Test.YtpefengjpedifaaPgZ
import Derived.Test.YtpefengjpedifaaPgV
namespace Go.Proofs.Ytpefengjpedifaa
set_option linter.unusedSimpArgs false
set_option linter.unusedVariables false
set_option maxRecDepth 100000
open Go.RowKit

/-- All of a store lies ahead of a block. -/
def Ahead (p : Nat) (va vp : Value) (b : Nat) : Prop := p < b ∧ (∀ g, va.ownBlock = some g → g < b) ∧ ∀ g, vp.ownBlock = some g → g < b
theorem IsSto.ahead {w : World} {B p : Nat} {va vp : Value} {S : Page.St} (h : IsSto w B p va vp S) : Ahead p va vp w.heap.size := ⟨h.lt, fun g e => (h.all.lt g e).2, fun g e => (h.places.lt g e).2⟩
/-- A store behind another one stays where that is appended to. -/
theorem sto_behind {w w' : World} {B b p q : Nat} {va vp va' vp' vc vd : Value} {S T : Page.St} {m : List UInt8} (hA : Appended w B p va vp S m w' va' vp') (ha : Ahead p va vp b) (ht : IsSto w b q vc vd T) (hq : b ≤ q) : IsSto w' b q vc vd T := by
  obtain ⟨h1, h2, h3⟩ := ha
  refine ⟨(hA.block q ht.lt (by omega) (fun e => ?_) (fun e => ?_)).trans ht.heap, rowOwn ht.all fun g hg => hA.block g (ht.all.lt g hg).2 ?_ (fun e => ?_) (fun e => ?_), rowOwn ht.places fun g hg => hA.block g (ht.places.lt g hg).2 ?_ (fun e => ?_) (fun e => ?_), ht.ok⟩
  · have := h2 q e.symm
    omega
  · have := h3 q e.symm
    omega
  · have := (ht.all.lt g hg).1
    omega
  · have := (ht.all.lt g hg).1
    have := h2 g e.symm
    omega
  · have := (ht.all.lt g hg).1
    have := h3 g e.symm
    omega
  · have := (ht.places.lt g hg).1
    omega
  · have := (ht.places.lt g hg).1
    have := h2 g e.symm
    omega
  · have := (ht.places.lt g hg).1
    have := h3 g e.symm
    omega
/-- A store ahead, that has been appended to, stays where the one behind it is appended to. -/
theorem sto_before {w w' w'' : World} {B b p q : Nat} {va vp va' vp' vc vd ve vf : Value} {S T : Page.St} {m n : List UInt8} (hA : Appended w B p va vp S m w' va' vp') (ha : Ahead p va vp b) (ht : IsSto w b q vc vd T) (hq : b ≤ q) (hC : Appended w' b q vc vd T n w'' ve vf) : IsSto w'' B p va' vp' (S.append m) := by
  have hs := hA.sto
  have ht' := sto_behind hA ha ht hq
  obtain ⟨h1, h2, h3⟩ := ha
  have k1 : ∀ g, va'.ownBlock = some g → g < b ∨ w.heap.size ≤ g := by
    intro g e
    rcases hA.newA with hn | hn | hn
    · rw [hn] at e; exact .inl (h2 g e)
    · rw [hn] at e; exact .inl (h2 g e)
    · exact .inr (hn g e)
  have k2 : ∀ g, vp'.ownBlock = some g → g < b ∨ w.heap.size ≤ g := by
    intro g e
    rcases hA.newP with hn | hn | hn
    · rw [hn] at e; exact .inl (h3 g e)
    · rw [hn] at e; exact .inl (h3 g e)
    · exact .inr (hn g e)
  have hlow : ∀ g, g < b → some g ≠ vc.ownBlock ∧ some g ≠ vd.ownBlock := fun g hg => ⟨fun e => by have := (ht.all.lt g e.symm).1; omega, fun e => by have := (ht.places.lt g e.symm).1; omega⟩
  have hup : ∀ g, w.heap.size ≤ g → some g ≠ vc.ownBlock ∧ some g ≠ vd.ownBlock := fun g hg => ⟨fun e => by have := (ht.all.lt g e.symm).2; omega, fun e => by have := (ht.places.lt g e.symm).2; omega⟩
  have hql := ht.lt
  refine ⟨(hC.block p hs.lt (by omega) (hlow p h1).1 (hlow p h1).2).trans hs.heap, rowOwn hs.all fun g hg => ?_, rowOwn hs.places fun g hg => ?_, hs.ok⟩
  · rcases k1 g hg with h | h
    · exact hC.block g (hs.all.lt g hg).2 (by omega) (hlow g h).1 (hlow g h).2
    · exact hC.block g (hs.all.lt g hg).2 (by omega) (hup g h).1 (hup g h).2
  · rcases k2 g hg with h | h
    · exact hC.block g (hs.places.lt g hg).2 (by omega) (hlow g h).1 (hlow g h).2
    · exact hC.block g (hs.places.lt g hg).2 (by omega) (hup g h).1 (hup g h).2
end Go.Proofs.Ytpefengjpedifaa
