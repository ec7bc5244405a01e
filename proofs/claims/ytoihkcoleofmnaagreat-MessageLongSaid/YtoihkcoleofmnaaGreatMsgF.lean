/-
  Merged: Layer 7: are two messages one: the document's answer.
-/
import Derived.Test.YtoihkcoleofmnaaGreatMsgC

set_option linter.unusedSimpArgs false
set_option linter.unusedVariables false

/- Layer 7: are two messages one: the document's answer. -/
namespace Go.Proofs.YtoihkcoleofmnaaGreat
set_option linter.unusedSimpArgs false
set_option linter.unusedVariables false
set_option maxRecDepth 100000
open Go.RowKit

end Go.Proofs.YtoihkcoleofmnaaGreat
