/-
  Rows of rows of numbers, read. No function of the program.
-/
import Derived.Test.YtpfodkgncachiaaPackWrite
namespace Go.Proofs.Ytpfodkgncachiaa
set_option linter.unusedSimpArgs false
set_option linter.unusedVariables false
open Go.RowKit

/-- A [][]int that reads as these. -/
def IRows (w : World) (v : Value) (ls : List (List Int)) : Prop :=
  ∃ xs : List Value, Sl w v xs ∧ xs.length = ls.length ∧ ∀ i (h : i < xs.length) (h' : i < ls.length), Ints w xs[i] ls[i]
theorem IRows.below {w w' : World} {v : Value} {ls : List (List Int)} (h : IRows w v ls) (hb : Below w.heap.size w w') : IRows w' v ls := by
  obtain ⟨xs, h1, h2, h3⟩ := h
  exact ⟨xs, h1.below hb, h2, fun i h h' => (h3 i h h').below hb⟩
theorem IRows.open {w : World} {v : Value} {ls : List (List Int)} (h : IRows w v ls) : ∃ (a : Option Addr) (cap : Nat), v = .slice a ls.length cap ∧ ls.length ≤ cap ∧ cap ≤ maxLen ∧
    ∀ i (hi : i < ls.length), ∃ b off x, a = some ⟨b, off, none⟩ ∧ w.cell? ⟨b, off + i, none⟩ = some x ∧ Ints w x ls[i] := by
  obtain ⟨xs, ⟨a, cap, rfl, h1, h2, _, h3⟩, h4, h5⟩ := h
  refine ⟨a, cap, by rw [h4], by omega, h2, fun i hi => ?_⟩
  obtain ⟨b, off, e, hc⟩ := h3 i (by omega)
  exact ⟨b, off, xs[i]'(by omega), e, hc, h5 i (by omega) hi⟩
theorem IRows.mk {w : World} (vs : List Value) (ls : List (List Int)) (e : TypeId) (n : Nat) (h1 : vs.length = n) (h2 : ls.length = n) (hn : n ≤ maxLen) (h : ∀ i (h : i < vs.length) (h' : i < ls.length), Ints w vs[i] ls[i]) :
    IRows (w.alloc (.cells vs.toArray e)) (.slice (some ⟨w.heap.size, 0, none⟩) n n) ls :=
  ⟨vs, Sl.made w vs e n h1 hn (fr := (0, 0)), by omega, fun i h3 h4 => (h i h3 h4).below (Ext.alloc w _)⟩

end Go.Proofs.Ytpfodkgncachiaa
