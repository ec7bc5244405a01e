/-
  Layer 2, the document's own answers: a part is read.
-/
import Derived.Test.YtpfodkgncachiaaGreatPackRefRead
namespace Go.Proofs.YtpfodkgncachiaaGreat
set_option linter.unusedSimpArgs false
set_option linter.unusedVariables false
open Go.RowKit

/-- Two readers in new blocks. -/
structure TwoB (w0 w : World) (x0 x1 y0 y1 : Value) : Prop where
  g0 : w.heap[w0.heap.size]? = some (.cells #[x0, x1] 73 (0, 0))
  g1 : w.heap[w0.heap.size + 1]? = some (.cells #[y0, y1] 73 (0, 0))
  ext : Ext w0 w
theorem TwoB.first (w : World) (x0 x1 y0 y1 : Value) : TwoB w ((w.alloc (.cells #[x0, x1] 73)).alloc (.cells #[y0, y1] 73)) x0 x1 y0 y1 :=
  ⟨(heap_two w _ _).1, (heap_two w _ _).2, ext_two w _ _⟩
theorem TwoB.later {w0 w w' : World} {x0 x1 y0 y1 : Value} (h : TwoB w0 w x0 x1 y0 y1) (hb : Ext w w') : TwoB w0 w' x0 x1 y0 y1 := ⟨heap_ext h.g0 hb, heap_ext h.g1 hb, h.ext.trans hb⟩
theorem TwoB.set0 {w0 w : World} {x0 x1 y0 y1 : Value} (h : TwoB w0 w x0 x1 y0 y1) (v0 v1 : Value) : TwoB w0 ((w.setCell ⟨w0.heap.size, 0, none⟩ v0).setCell ⟨w0.heap.size, 1, none⟩ v1) v0 v1 y0 y1 where
  g0 := by
    have := heap_setCell (heap_setCell h.g0 0 v0) 1 v1
    simpa using this
  g1 := by
    rw [Below.heap_setCell _ _ _ _ (by show w0.heap.size + 1 ≠ w0.heap.size; omega), Below.heap_setCell _ _ _ _ (by show w0.heap.size + 1 ≠ w0.heap.size; omega)]
    exact h.g1
  ext := (h.ext.setCell (Nat.le_refl _) _).setCell (Nat.le_refl _) _
theorem TwoB.part0 {w0 w : World} {x0 x1 y0 y1 : Value} (h : TwoB w0 w x0 x1 y0 y1) (v0 : Value) : TwoB w0 (w.setCell ⟨w0.heap.size, 0, none⟩ v0) v0 x1 y0 y1 where
  g0 := by
    have := heap_setCell h.g0 0 v0
    simpa using this
  g1 := by
    rw [Below.heap_setCell _ _ _ _ (by show w0.heap.size + 1 ≠ w0.heap.size; omega)]
    exact h.g1
  ext := h.ext.setCell (Nat.le_refl _) _

end Go.Proofs.YtpfodkgncachiaaGreat
