/-
  Merged: Layer 8, the program: slices.
-/
import Derived.Test.YtfgjhagfpafmoaaGreatPgF

namespace Go.Proofs.YtfgjhagfpafmoaaGreat
set_option linter.unusedSimpArgs false
set_option linter.unusedVariables false
set_option maxRecDepth 100000
open Go.RowKit
/- Layer 8, the program: slices.BinarySearch at []int. -/
/-- The heap is as it was. -/
structure Alike (a b : World) : Prop where
  heap : b.heap = a.heap
  os : b.os = a.os
  tape : b.tape = a.tape
  output : b.output = a.output
theorem Alike.refl (a : World) : Alike a a := ⟨rfl, rfl, rfl, rfl⟩
theorem Alike.ext {a b : World} (h : Alike a b) : Ext a b := ⟨h.os, h.tape, h.output, by rw [h.heap]; exact Nat.le_refl _, fun k _ => by rw [h.heap]⟩
/-- What lay ahead is as it was, and all blocks of bytes are. -/
def BelowU (B : Nat) (a b : World) : Prop := Below B a b ∧ KeepU a b
theorem BelowU.ext {B : Nat} {a b : World} (h : Ext a b) (hB : B ≤ a.heap.size) : BelowU B a b := ⟨h.mono hB, KeepU.ext h⟩
theorem cell_below {a b : World} {q : Addr} {v : Value} (h : a.cell? q = some v) (hb : Below a.heap.size a b) : b.cell? q = some v := cell_ext h hb
end Go.Proofs.YtfgjhagfpafmoaaGreat
