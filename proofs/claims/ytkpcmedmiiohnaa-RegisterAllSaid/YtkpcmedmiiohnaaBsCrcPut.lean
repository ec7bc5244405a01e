/-
  Merged: Layer 1, the program: Put and Cut.
-/
import Derived.Deep.DeepCutAuto
import Derived.Deep.RegionHeld3
import Derived.Laws.Cover3
import Derived.Test.YtkpcmedmiiohnaaBsCrcCode
import Derived.Test.YtkpcmedmiiohnaaBsLib

namespace Go.Proofs.Ytkpcmedmiiohnaa
set_option linter.unusedSimpArgs false
set_option linter.unusedVariables false
set_option maxRecDepth 100000
open Go.RowKit
/- Layer 1, the program: Put and Cut. -/
/-- One slice in a new slice. -/
theorem Rows.made {w : World} {v : Value} {l : List UInt8} (e : TypeId) (h : Bytes w v l) : Rows (w.alloc (.cells #[v] e)) (.slice (some ⟨w.heap.size, 0, none⟩) 1 1) [l] :=
  ⟨[v], Sl.made w [v] e 1 rfl (by simp [maxLen]), rfl, fun i h1 h2 => by
    have : i = 0 := by simpa using h1
    subst this
    exact h.below (Ext.alloc w _)⟩

end Go.Proofs.Ytkpcmedmiiohnaa
