/-
  Merged: Layer 8: scripts of calls, out of what comes in.
-/
import Derived.Test.YtfgjhagfpafmoaaGreatPgW

namespace Go.Proofs.YtfgjhagfpafmoaaGreat
set_option linter.unusedSimpArgs false
set_option linter.unusedVariables false
set_option maxRecDepth 100000
open Go.ChangeShapes Go.WideShapes Go.ChangeAt Go.RowKit
/- Layer 8: scripts of calls, out of what comes in; the statements' few. -/
namespace Page
/-- A call. -/
structure Op where
  kind : Int
  n : Int
  b : List UInt8
  is : Bool
def Op.Fits (o : Op) : Prop := (-9223372036854775808 ≤ o.n ∧ o.n ≤ 9223372036854775807) ∧ o.b.length ≤ 140737488351232
def mass (l : List Op) : Nat := (l.map fun o => o.b.length + 6).sum
def few (l : List Op) : Bool := decide (l.length ≤ 60) && decide (mass l ≤ 20000)
theorem mass_take {l : List Op} {k : Nat} (hk : k < l.length) : mass (l.take (k + 1)) = mass (l.take k) + (l[k].b.length + 6) := by
  unfold mass
  rw [List.take_succ_eq_append_getElem hk]
  simp only [List.map_append, List.map_cons, List.map_nil, List.sum_append, List.sum_cons, List.sum_nil, Nat.add_zero]
theorem mass_le {l : List Op} (h : ∀ o ∈ l, o.Fits) : mass l ≤ l.length * 140737488351238 := by
  induction l with
  | nil => simp [mass]
  | cons o l ih =>
    have h1 := (h o (by simp)).2
    have h2 := ih (fun x hx => h x (by simp [hx]))
    unfold mass at h2 ⊢
    simp only [List.map_cons, List.sum_cons, List.length_cons]
    omega
theorem mass_take_le {l : List Op} (h : ∀ o ∈ l, o.Fits) (k : Nat) : mass (l.take k) ≤ k * 140737488351238 :=
  Nat.le_trans (mass_le (l := l.take k) (fun o ho => h o (List.mem_of_mem_take ho))) (Nat.mul_le_mul_right _ (List.length_take_le k l))
end Page
def OpHere (w : World) (b off : Nat) (o : Page.Op) : Prop := ∃ t : Value, w.cell? ⟨b, off, none⟩ = some (.int .i64 o.kind) ∧ w.cell? ⟨b, off + 1, none⟩ = some (.int .i64 o.n) ∧ w.cell? ⟨b, off + 2, none⟩ = some t ∧ w.cell? ⟨b, off + 3, none⟩ = some (.bool o.is) ∧ Bytes w t o.b
theorem OpHere.below {w w' : World} {b off : Nat} {o : Page.Op} (h : OpHere w b off o) (hb : Below w.heap.size w w') : OpHere w' b off o := by
  obtain ⟨t, h0, h1, h2, h3, h4⟩ := h
  exact ⟨t, cell_below h0 hb, cell_below h1 hb, cell_below h2 hb, cell_below h3 hb, h4.below hb⟩
def Ops (w : World) (v : Value) (l : List Page.Op) : Prop :=
  ∃ (a : Option Addr) (cap : Nat), v = .slice a l.length cap ∧ l.length ≤ cap ∧ cap ≤ maxLen ∧ (a = none → cap = 0) ∧ ∀ i (h : i < l.length), ∃ b off, a = some ⟨b, off, none⟩ ∧ OpHere w b (off + i * 4) l[i]
theorem Ops.below {w w' : World} {v : Value} {l : List Page.Op} (h : Ops w v l) (hb : Below w.heap.size w w') : Ops w' v l := by
  obtain ⟨a, cap, rfl, h1, h2, h4, h3⟩ := h
  refine ⟨a, cap, rfl, h1, h2, h4, fun i hi => ?_⟩
  obtain ⟨b, off, e, hc⟩ := h3 i hi
  exact ⟨b, off, e, hc.below hb⟩
theorem Ops.len {w : World} {a : Option Addr} {n c : Nat} {l : List Page.Op} (h : Ops w (.slice a n c) l) : n = l.length ∧ n ≤ c ∧ c ≤ 9223372036854775807 := by
  obtain ⟨_, _, e, h1, h2, _⟩ := h
  injection e with e1 e2 e3
  subst e3
  unfold maxLen at h2
  omega

section
variable {H : Type} {enc : TypeId × Value → H} {w : World} {base : Nat} {spare : Nat → Bool} {held : Bool}
theorem weights_all_mem {P : Program} {e : TypeId} : ∀ (q : List (DataW H × List MemPlace)) (k : Nat) (hk : k < q.length) (m : Nat), m ∈ q[k].1.weights P e → m ∈ DataW.weightsAll P e (q.map (·.1)) := by
  intro q
  induction q with
  | nil => intro k hk; exact absurd hk (by simp)
  | cons d q ih =>
    intro k hk m hm
    simp only [List.map_cons, DataW.weightsAll, List.mem_append]
    cases k with
    | zero => exact .inl hm
    | succ k => exact .inr (ih k (by simpa using hk) m (by simpa using hm))
end
end Go.Proofs.YtfgjhagfpafmoaaGreat
