/-
  Merged: Layer 1, the document's own answers: each call's contract.
-/
import Derived.Test.YtnfieadjjmpnkaaGreatProg
import Derived.Deep.RegionHeld3
import Derived.Deep.DeepCutAuto
import Derived.Test.YtnfieadjjmpnkaaGreatBsLib
import Derived.Test.YtnfieadjjmpnkaaGreatBsMath

set_option linter.unusedSimpArgs false
set_option linter.unusedVariables false

namespace Go.Proofs.YtnfieadjjmpnkaaGreat
set_option maxRecDepth 100000
open Go.RowKit
/- Layer 1, the document's own answers: each call's contract. -/
end Go.Proofs.YtnfieadjjmpnkaaGreat
