import Derived.Test.YtnoeconcpgdjlaaGreatBsPgR
namespace Go.Proofs.YtnoeconcpgdjlaaGreat
set_option linter.unusedSimpArgs false
set_option linter.unusedVariables false
set_option maxRecDepth 100000
open Go.RowKit
def zsw (a : Option Addr) (n c : Nat) (k : Int) (o : Bool) : Value := .agg #[.slice a n c, .int .i64 k, .bool o]
def InStr (w : World) (v : Value) : Prop := ∀ ad n c, v = .slice (some ad) n c -> ∃ (cs : Array Value) (fr : Nat × Nat), w.heap[ad.block]? = some (.cells cs 9 fr)
def KeepS (w w' : World) : Prop := ∀ (k : Nat) (cs : Array Value) (fr : Nat × Nat), w.heap[k]? = some (.cells cs 9 fr) -> w'.heap[k]? = w.heap[k]?
theorem KeepS.refl (w : World) : KeepS w w := fun _ _ _ _ => rfl
theorem KeepS.trans {a b c : World} (h : KeepS a b) (k : KeepS b c) : KeepS a c := fun i cs fr hi => (k i cs fr ((h i cs fr hi).trans hi)).trans (h i cs fr hi)
theorem KeepS.ext {a b : World} (h : Ext a b) : KeepS a b := fun i _ _ hi => h.block i (Array.getElem?_eq_some_iff.1 hi).1
theorem KeepS.but {a b : World} {p : Nat} {cs : Array Value} {t : TypeId} {fr : Nat × Nat} (h : But p a b) (hp : a.heap[p]? = some (.cells cs t fr)) (ht : t ≠ 9) : KeepS a b := fun i cs' fr' hi =>
 h.block i (Array.getElem?_eq_some_iff.1 hi).1 (fun e => by subst e; rw [hp] at hi; simp at hi; exact ht hi.2.1)
def Txts (w : World) (v : Value) (l : List (List UInt8)) : Prop := Sl w v (txts l) /\ InStr w v
theorem Txts.keep {a b : World} {v : Value} {l : List (List UInt8)} (h : Txts a v l) (hk : KeepS a b) : Txts b v l := by
 obtain ⟨⟨ad, cap, rfl, h1, h2, h4, h3⟩, hb⟩ := h
 constructor
 . refine ⟨ad, cap, rfl, h1, h2, h4, fun i hi => ?_⟩
   obtain ⟨q, off, e, hc⟩ := h3 i hi
   subst e
   obtain ⟨cs, fr, hq⟩ := hb _ _ _ rfl
   exact ⟨q, off, rfl, (World.cell?_of_block (hk q cs fr hq)).trans hc⟩
 . intro ad' n c e
   obtain ⟨cs, fr, hq⟩ := hb ad' n c e
   exact ⟨cs, fr, (hk _ cs fr hq).trans hq⟩
theorem Txts.ext {a b : World} {v : Value} {l : List (List UInt8)} (h : Txts a v l) (hE : Ext a b) : Txts b v l := h.keep (KeepS.ext hE)
theorem Txts.own {w : World} {base n : Nat} {v : Value} {l : List (List UInt8)} (h : w.ownsRow base 9 1 v n (txts l)) : Txts w v l := by
 refine ⟨Sl.ofOwn h, fun ad n c e => ?_⟩
 rcases h.2 with ⟨h0, _⟩ | ⟨g, cap, cur, h0, _, hg, _⟩
 . rw [h0] at e; cases e
 . rw [h0] at e; injection e with e; injection e with e; subst e
   exact ⟨_, _, hg⟩
theorem Txts.take {w : World} {a : Option Addr} {n c : Nat} {l : List (List UInt8)} (h : Txts w (.slice a n c) l) (k : Nat) (hk : k <= n) : Txts w (.slice a k c) (l.take k) := by
 refine ⟨?_, fun ad m d e => h.2 ad n c (by injection e with e; rw [e])⟩
 have := h.1.take k hk
 unfold txts at this ⊢
 rw [List.map_take]
 exact this
theorem Txts.open {w : World} {v : Value} {l : List (List UInt8)} (h : Txts w v l) : ∃ (a : Option Addr) (cap : Nat), v = .slice a l.length cap /\ l.length <= cap /\ cap <= maxLen /\ (a = none -> cap = 0) ∧
 ∀ i (hi : i < l.length), ∃ b off, a = some ⟨b, off, none⟩ /\ w.cell? ⟨b, off + i, none⟩ = some (.string ⟨(l[i]).toArray⟩) := by
 obtain ⟨ad, cap, rfl, h1, h2, h4, h3⟩ := h.1
 refine ⟨ad, cap, by rw [txts_length], by rw [txts_length] at h1; exact h1, h2, h4, fun i hi => ?_⟩
 obtain ⟨q, off, e, hc⟩ := h3 i (by rw [txts_length]; exact hi)
 exact ⟨q, off, e, by simpa [txts] using hc⟩
def IsRef (w : World) (v : Value) (S : Page.St) : Prop := ∃ a c, v = zsw a S.l.length c S.k S.off /\ Txts w (.slice a S.l.length c) S.l
theorem IsRef.keep {a b : World} {v : Value} {S : Page.St} (h : IsRef a v S) (hk : KeepS a b) : IsRef b v S := by
 obtain ⟨x, c, e, h⟩ := h
 exact ⟨x, c, e, h.keep hk⟩
theorem IsRef.ext {a b : World} {v : Value} {S : Page.St} (h : IsRef a v S) (hE : Ext a b) : IsRef b v S := h.keep (KeepS.ext hE)
end Go.Proofs.YtnoeconcpgdjlaaGreat
