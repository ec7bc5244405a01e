/-
  Layer 2, the document's own answers: a part is read, parts are written.
-/
import Derived.Test.YtjflbjlpibekhaaPackRefPart
import Derived.RegionTactic
namespace Go.Proofs.Ytjflbjlpibekhaa
open Go.RowKit

theorem heap_five (w : World) (a b c d e : Obj) : (((((w.alloc a).alloc b).alloc c).alloc d).alloc e).heap[w.heap.size]? = some a ∧ (((((w.alloc a).alloc b).alloc c).alloc d).alloc e).heap[w.heap.size + 1]? = some b ∧ (((((w.alloc a).alloc b).alloc c).alloc d).alloc e).heap[w.heap.size + 2]? = some c ∧
    (((((w.alloc a).alloc b).alloc c).alloc d).alloc e).heap[w.heap.size + 3]? = some d ∧ (((((w.alloc a).alloc b).alloc c).alloc d).alloc e).heap[w.heap.size + 4]? = some e := by
  obtain ⟨h0, h1, h2⟩ := heap_three w a b c
  have s3 : (((w.alloc a).alloc b).alloc c).heap.size = w.heap.size + 3 := by rw [World.size_alloc, World.size_alloc, World.size_alloc]
  obtain ⟨h3, h4⟩ := heap_two (((w.alloc a).alloc b).alloc c) d e
  rw [s3] at h3 h4
  have hx := ext_two (((w.alloc a).alloc b).alloc c) d e
  exact ⟨heap_ext h0 hx, heap_ext h1 hx, heap_ext h2 hx, h3, h4⟩
theorem ext_five (w : World) (a b c d e : Obj) : Ext w (((((w.alloc a).alloc b).alloc c).alloc d).alloc e) := (((ext_two w a b).trans (Ext.alloc _ c)).trans (Ext.alloc _ d)).trans (Ext.alloc _ e)

/-- Stores into the new blocks. -/
theorem ext_set {w w1 : World} (h : Ext w w1) (k o : Nat) (v : Value) : Ext w (w1.setCell ⟨w.heap.size + k, o, none⟩ v) := Below.setCell (p := ⟨w.heap.size + k, o, none⟩) h (Nat.le_add_right _ _) v
theorem ext_ten {w w1 : World} (h : Ext w w1) (o : Nat) (a0 a1 v b0 b1 c0 c1 c2 c3 c4 : Value) :
    Ext w ((((((((((w1.setCell ⟨w.heap.size, 0, none⟩ a0).setCell ⟨w.heap.size, 1, none⟩ a1).setCell ⟨w.heap.size + 1 + 1 + 1 + 1, o, none⟩ v).setCell ⟨w.heap.size + 1 + 1, 0, none⟩ b0).setCell ⟨w.heap.size + 1 + 1, 1, none⟩ b1).setCell ⟨w.heap.size + 1 + 1 + 1, 0, none⟩ c0).setCell ⟨w.heap.size + 1 + 1 + 1, 1, none⟩ c1).setCell ⟨w.heap.size + 1 + 1 + 1, 2, none⟩ c2).setCell ⟨w.heap.size + 1 + 1 + 1, 3, none⟩ c3).setCell ⟨w.heap.size + 1 + 1 + 1, 4, none⟩ c4).drew :=
  Below.drew (ext_set (ext_set (ext_set (ext_set (ext_set (ext_set (ext_set (ext_set (ext_set (ext_set h 0 0 a0) 0 1 a1) 4 o v) 2 0 b0) 2 1 b1) 3 0 c0) 3 1 c1) 3 2 c2) 3 3 c3) 3 4 c4)
theorem ext_seven {w w1 : World} (h : Ext w w1) (b0 b1 c0 c1 c2 c3 c4 : Value) :
    Ext w (((((((w1.setCell ⟨w.heap.size + 1 + 1, 0, none⟩ b0).setCell ⟨w.heap.size + 1 + 1, 1, none⟩ b1).setCell ⟨w.heap.size + 1 + 1 + 1, 0, none⟩ c0).setCell ⟨w.heap.size + 1 + 1 + 1, 1, none⟩ c1).setCell ⟨w.heap.size + 1 + 1 + 1, 2, none⟩ c2).setCell ⟨w.heap.size + 1 + 1 + 1, 3, none⟩ c3).setCell ⟨w.heap.size + 1 + 1 + 1, 4, none⟩ c4).drew :=
  Below.drew (ext_set (ext_set (ext_set (ext_set (ext_set (ext_set (ext_set h 2 0 b0) 2 1 b1) 3 0 c0) 3 1 c1) 3 2 c2) 3 3 c3) 3 4 c4)

end Go.Proofs.Ytjflbjlpibekhaa
