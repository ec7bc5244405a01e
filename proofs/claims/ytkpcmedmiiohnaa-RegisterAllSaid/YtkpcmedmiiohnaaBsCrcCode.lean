/-
  Merged: Layer 1, the program: each method's contract, over a table in a block of its own.
-/
import Derived.Test.YtkpcmedmiiohnaaBsLib
import Derived.Test.YtkpcmedmiiohnaaBsOnce

set_option linter.unusedSimpArgs false
set_option linter.unusedVariables false

namespace Go.Proofs.Ytkpcmedmiiohnaa
set_option maxRecDepth 100000
open Go.RowKit
/- Layer 1, the program: each method's contract, over a table in a block of its own. -/
end Go.Proofs.Ytkpcmedmiiohnaa
