/-
  Merged: Rows that lie in blocks of their own, wherever: what is stored in blocks of other types leaves them as they are.
-/
import Derived.Test.YtkpcmedmiiohnaaBsVec

namespace Go.Proofs.Ytkpcmedmiiohnaa
set_option linter.unusedSimpArgs false
set_option linter.unusedVariables false
set_option maxRecDepth 100000
open Go.RowKit
/- Rows that lie in blocks of their own, wherever: what is stored in blocks of other types leaves them as they are. No function of the program. -/
def RowI (w : World) (v : Value) (l : List Int) : Prop := ∃ b n, w.ownsRow b 3 1 v n (i64s l)
theorem RowI.nil (w : World) : RowI w (.slice none 0 0) [] := ⟨0, 0, World.ownsRow_nil _ _ _ _⟩
theorem RowI.ints {w : World} {v : Value} {l : List Int} (h : RowI w v l) : Ints w v l := by
  obtain ⟨b, n, h⟩ := h
  exact Sl.ofOwn h
theorem RowI.ext {w w' : World} {v : Value} {l : List Int} (h : RowI w v l) (hE : Ext w w') : RowI w' v l := by
  obtain ⟨b, n, h⟩ := h
  exact ⟨b, n, rowExt h hE⟩
theorem RowI.but {w w' : World} {p : Nat} {v : Value} {l : List Int} {cs : Array Value} {t : TypeId} {fr : Nat × Nat} (h : RowI w v l) (hp : w.heap[p]? = some (.cells cs t fr)) (ht : t ≠ 3) (hB : But p w w') : RowI w' v l := by
  obtain ⟨b, n, h⟩ := h
  exact ⟨b, n, rowBut h (rowBeside h hp ht) hB⟩
def RowRR (w : World) (v : Value) (ls : List (List Int)) : Prop := ∃ b, OwnRR w b v ls
theorem RowRR.nil (w : World) : RowRR w (.slice none 0 0) [] := ⟨0, OwnRR.nil _ _⟩
theorem RowRR.rows {w : World} {v : Value} {ls : List (List Int)} (h : RowRR w v ls) : IRows w v ls := by
  obtain ⟨b, h⟩ := h
  exact h.rows
theorem RowRR.ext {w w' : World} {v : Value} {ls : List (List Int)} (h : RowRR w v ls) (hE : Ext w w') : RowRR w' v ls := by
  obtain ⟨b, h⟩ := h
  exact ⟨b, h.ext hE⟩
theorem RowRR.but {w w' : World} {p : Nat} {v : Value} {ls : List (List Int)} {cs : Array Value} {t : TypeId} {fr : Nat × Nat} (h : RowRR w v ls) (hp : w.heap[p]? = some (.cells cs t fr)) (ht : t ≠ 3) (ht2 : t ≠ 22) (hB : But p w w') : RowRR w' v ls := by
  obtain ⟨b, h⟩ := h
  exact ⟨b, h.but hp ht ht2 hB⟩
end Go.Proofs.Ytkpcmedmiiohnaa
