/-
  Merged: Layer 1, the document's own answers: each call's contract.
-/
import Derived.Test.YtkpcmedmiiohnaaProg
import Derived.Deep.RegionHeld3
import Derived.Deep.DeepCutAuto
import Derived.Test.YtkpcmedmiiohnaaBsLib
import Derived.Test.YtkpcmedmiiohnaaBsMath

set_option linter.unusedSimpArgs false
set_option linter.unusedVariables false

namespace Go.Proofs.Ytkpcmedmiiohnaa
set_option maxRecDepth 100000
open Go.RowKit
/- Layer 1, the document's own answers: each call's contract. -/
end Go.Proofs.Ytkpcmedmiiohnaa
