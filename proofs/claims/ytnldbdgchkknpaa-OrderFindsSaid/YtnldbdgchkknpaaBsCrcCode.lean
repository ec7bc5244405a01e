/-
  Merged: Layer 1, the program: each method's contract, over a table in a block of its own.
-/
import Derived.Test.YtnldbdgchkknpaaBsLib
import Derived.Test.YtnldbdgchkknpaaBsOnce

set_option linter.unusedSimpArgs false
set_option linter.unusedVariables false

namespace Go.Proofs.Ytnldbdgchkknpaa
set_option maxRecDepth 100000
open Go.RowKit
/- Layer 1, the program: each method's contract, over a table in a block of its own. -/
end Go.Proofs.Ytnldbdgchkknpaa
