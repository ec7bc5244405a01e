/-
  Layer 3, the program: rows of rows of numbers, and the iterator that goes through the numbers of one shard.
-/
import Derived.Test.YtboopfbflfimlaaVecB
import Derived.RangeFuncNested
import Derived.RangeFuncBound
import Derived.RangeFuncCalls
import Derived.RangeFuncLeaves
import Derived.RangeFuncBox
import Derived.Shelf.Abstract
import Derived.OwnWalkIn
import Derived.TacticsInMore
import Derived.LoopNIn
import Derived.LoopIn
namespace Go.Proofs.Ytboopfbflfimlaa
open Go.RowKit Go.Shelf
attribute [local go_sem] Oper.semAt_some

/-- A [][]int that reads as these. -/
def IRows (w : World) (v : Value) (ls : List (List Int)) : Prop :=
  ∃ xs : List Value, Sl w v xs ∧ xs.length = ls.length ∧ ∀ i (h : i < xs.length) (h' : i < ls.length), Ints w xs[i] ls[i]
theorem IRows.below {w w' : World} {v : Value} {ls : List (List Int)} (h : IRows w v ls) (hb : Below w.heap.size w w') : IRows w' v ls := by
  obtain ⟨xs, h1, h2, h3⟩ := h
  exact ⟨xs, h1.below hb, h2, fun i h h' => (h3 i h h').below hb⟩
theorem IRows.open {w : World} {v : Value} {ls : List (List Int)} (h : IRows w v ls) : ∃ (a : Option Addr) (cap : Nat), v = .slice a ls.length cap ∧ ls.length ≤ cap ∧ cap ≤ maxLen ∧
    ∀ i (hi : i < ls.length), ∃ b off x, a = some ⟨b, off, none⟩ ∧ w.cell? ⟨b, off + i, none⟩ = some x ∧ Ints w x ls[i] := by
  obtain ⟨xs, ⟨a, cap, rfl, h1, h2, _, h3⟩, h4, h5⟩ := h
  refine ⟨a, cap, by rw [h4], by omega, h2, fun i hi => ?_⟩
  obtain ⟨b, off, e, hc⟩ := h3 i (by omega)
  exact ⟨b, off, xs[i]'(by omega), e, hc, h5 i (by omega) hi⟩
theorem IRows.mk {w : World} (vs : List Value) (ls : List (List Int)) (e : TypeId) (n : Nat) (h1 : vs.length = n) (h2 : ls.length = n) (hn : n ≤ maxLen) (h : ∀ i (h : i < vs.length) (h' : i < ls.length), Ints w vs[i] ls[i]) :
    IRows (w.alloc (.cells vs.toArray e)) (.slice (some ⟨w.heap.size, 0, none⟩) n n) ls :=
  ⟨vs, Sl.made w vs e n h1 hn (fr := (0, 0)), by omega, fun i h3 h4 => (h i h3 h4).below (Ext.alloc w _)⟩

/-- The numbers that they have of one shard. -/
def column (ls : List (List Int)) (k : Nat) : List Int := ls.map fun r => r.getD k 0
@[simp] theorem column_length (ls : List (List Int)) (k : Nat) : (column ls k).length = ls.length := by simp [column]
theorem column_take_succ (ls : List (List Int)) (k j : Nat) (hj : j < ls.length) (hk : k < ls[j].length) : (column ls k).take (j + 1) = (column ls k).take j ++ [ls[j][k]] := by
  rw [take_succ_getD _ j (by simpa using hj)]
  simp [column, hk]

/-- What a round of a loop over them keeps: what lay ahead, and the box of the shard's number. -/
def Kept (n₀ B : Nat) (W W' : World) : Prop := Below n₀ W W' ∧ ∀ v, W.cell? ⟨B, 0, none⟩ = some v → W'.cell? ⟨B, 0, none⟩ = some v
theorem Kept.refl (n₀ B : Nat) (W : World) : Kept n₀ B W W := ⟨Below.refl _ _, fun _ h => h⟩
theorem Kept.trans {n₀ B : Nat} {a b c : World} (h : Kept n₀ B a b) (k : Kept n₀ B b c) : Kept n₀ B a c := ⟨h.1.trans k.1, fun v hv => k.2 v (h.2 v hv)⟩
theorem kept_b {n₀ B : Nat} {w : World} (hn : n₀ ≤ w.heap.size) (W : World) (l : Nat) (o o' : Obj) (hl : w.heap.size ≤ l) (h : W.heap[l]? = some o) (h1 : o.isCells = false) (h2 : o.isWalk = false) : Kept n₀ B W (W.putObj l o') :=
  ⟨belowK_b hn W l o o' hl h h1 h2, fun v hv => cell_kept hv (grownBy_putObj' W l o') (fun r e => by cases e; exact ⟨o, h, h1⟩)⟩

theorem ext_two' (w : World) (x y : Obj) : Ext w ((w.alloc x).alloc y) := (Ext.alloc _ _).trans (Ext.alloc _ _)

end Go.Proofs.Ytboopfbflfimlaa
