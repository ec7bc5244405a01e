/-
  Merged: Layer 1, the document's own answers: each call's contract.
-/
import Derived.Test.YtnldbdgchkknpaaProg
import Derived.Deep.RegionHeld3
import Derived.Deep.DeepCutAuto
import Derived.Test.YtnldbdgchkknpaaBsLib
import Derived.Test.YtnldbdgchkknpaaBsMath

set_option linter.unusedSimpArgs false
set_option linter.unusedVariables false

namespace Go.Proofs.Ytnldbdgchkknpaa
set_option maxRecDepth 100000
open Go.RowKit
/- Layer 1, the document's own answers: each call's contract. -/
end Go.Proofs.Ytnldbdgchkknpaa
