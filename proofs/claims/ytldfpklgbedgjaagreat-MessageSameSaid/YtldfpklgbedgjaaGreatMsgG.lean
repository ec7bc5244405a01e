/-
  Merged: Layer 7, the document: may a message be.
-/
import Derived.Test.YtldfpklgbedgjaaGreatByEnt
import Derived.Test.YtldfpklgbedgjaaGreatByTerm
import Derived.Test.YtldfpklgbedgjaaGreatMsgC

namespace Go.Proofs.YtldfpklgbedgjaaGreat
set_option linter.unusedSimpArgs false
set_option linter.unusedVariables false
set_option maxRecDepth 100000
open Go.RowKit
/- Layer 7, the document: may a message be. -/
end Go.Proofs.YtldfpklgbedgjaaGreat
