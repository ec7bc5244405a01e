import Derived.Test.YtnoeconcpgdjlaaGreatBsPgS
import Derived.Test.YtnoeconcpgdjlaaGreatBsPgU
namespace Go.Proofs.YtnoeconcpgdjlaaGreat
set_option linter.unusedSimpArgs false
set_option linter.unusedVariables false
set_option maxRecDepth 100000
open Go.RowKit
def KeepR (w w' : World) : Prop := ∀ (k : Nat) (cs : Array Value) (fr : Nat × Nat), w.heap[k]? = some (.cells cs 141 fr) -> w'.heap[k]? = w.heap[k]?
theorem KeepR.ext {a b : World} (h : Ext a b) : KeepR a b := fun i _ _ hi => h.block i (Array.getElem?_eq_some_iff.1 hi).1
theorem KeepR.but {a b : World} {p : Nat} {cs : Array Value} {t : TypeId} {fr : Nat × Nat} (h : But p a b) (hp : a.heap[p]? = some (.cells cs t fr)) (ht : t ≠ 141) : KeepR a b := fun i cs' fr' hi =>
 h.block i (Array.getElem?_eq_some_iff.1 hi).1 (fun e => by subst e; rw [hp] at hi; simp at hi; exact ht hi.2.1)
def FrRow (w : World) (v : Value) (l : List (List UInt8)) : Prop := ∃ (a : Option Addr) (c : Nat), v = .slice a l.length c /\ (∀ ad, a = some ad -> ∃ (cs : Array Value) (fr : Nat × Nat), w.heap[ad.block]? = some (.cells cs 141 fr)) ∧
 ∀ i (hi : i < l.length), ∃ b off a' n' c', a = some ⟨b, off, none⟩ /\ w.cell? ⟨b, off + i, none⟩ = some (.slice a' n' c') /\ BytesU w (.slice a' n' c') l[i]
theorem FrRow.keep {a b : World} {v : Value} {l : List (List UInt8)} (h : FrRow a v l) (hk : KeepU a b) (hr : KeepR a b) : FrRow b v l := by
 obtain ⟨ad, c, e, hb, hc⟩ := h
 refine ⟨ad, c, e, fun x hx => ?_, fun i hi => ?_⟩
 . obtain ⟨cs, fr, hq⟩ := hb x hx
   exact ⟨cs, fr, (hr _ cs fr hq).trans hq⟩
 . obtain ⟨q, off, a', n', c', e2, h1, h2⟩ := hc i hi
   obtain ⟨cs, fr, hq⟩ := hb _ e2
   exact ⟨q, off, a', n', c', e2, (World.cell?_of_block (a := ⟨q, off + i, none⟩) (hr q cs fr hq)).trans h1, h2.keep hk⟩
theorem FrRow.ext {a b : World} {v : Value} {l : List (List UInt8)} (h : FrRow a v l) (hE : Ext a b) : FrRow b v l := h.keep (KeepU.ext hE) (KeepR.ext hE)
theorem FrRow.of {w : World} {base n : Nat} {v : Value} {es : List Elem} {l : List (List UInt8)} (ho : w.ownsRow base 141 1 v n (es.map Elem.val)) (hx : es.map Elem.x = l) (hg : ∀ x ∈ es, x.Good w) : FrRow w v l := by
 subst hx
 have hs := Sl.ofOwn ho
 obtain ⟨a, c, rfl, _, _, _, hc⟩ := hs
 refine ⟨a, c, by simp, fun ad e => ?_, fun i hi => ?_⟩
 . subst e
   rcases ho.2 with ⟨h0, _⟩ | ⟨g, cap, cur, h0, _, hgb, _⟩
   . cases h0
   . injection h0 with h0
     injection h0 with h0
     subst h0
     exact ⟨_, _, hgb⟩
 . have hi' : i < es.length := by simpa using hi
   obtain ⟨b, off, e, hcell⟩ := hc i (by simpa using hi')
   refine ⟨b, off, es[i].a, es[i].n, es[i].c, e, by simpa [Elem.val] using hcell, ?_⟩
   have := hg es[i] (List.getElem_mem _)
   unfold Elem.Good at this
   simpa using this
end Go.Proofs.YtnoeconcpgdjlaaGreat
