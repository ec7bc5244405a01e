/-
  Merged: sync.
-/
import Derived.Defers
import Derived.Laws.Pointers
import Derived.Laws.LoneSync
import Derived.RegionTactic
import Derived.RegionCalls
import Derived.ChangeAlike
import Derived.Test.YtkpcmedmiiohnaaBsCrcFill

set_option linter.unusedSimpArgs false
set_option linter.unusedVariables false

namespace Go.Proofs.Ytkpcmedmiiohnaa
set_option maxRecDepth 100000
open Go.RowKit
/- sync.Once, one goroutine, over a table: the first time its function fills the table; later nothing is done. The parts are those of the guide's worked Lazy. -/
end Go.Proofs.Ytkpcmedmiiohnaa
