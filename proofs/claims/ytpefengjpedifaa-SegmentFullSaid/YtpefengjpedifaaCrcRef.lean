/-
  Merged: Layer 1, the document's own answers: each call's contract.
-/
import Derived.Test.YtpefengjpedifaaProg
import Derived.Deep.RegionHeld3
import Derived.Deep.DeepCutAuto
import Derived.Test.YtpefengjpedifaaBsLib
import Derived.Test.YtpefengjpedifaaBsMath

set_option linter.unusedSimpArgs false
set_option linter.unusedVariables false

namespace Go.Proofs.Ytpefengjpedifaa
set_option maxRecDepth 100000
open Go.RowKit
/- Layer 1, the document's own answers: each call's contract. -/
end Go.Proofs.Ytpefengjpedifaa
