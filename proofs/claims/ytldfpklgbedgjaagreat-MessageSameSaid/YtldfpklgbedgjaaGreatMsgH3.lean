/-
  Merged: Layer 7, the document: may a message be: its own way through the kinds.
-/
import Derived.Test.YtldfpklgbedgjaaGreatMsgH

namespace Go.Proofs.YtldfpklgbedgjaaGreat
set_option linter.unusedSimpArgs false
set_option linter.unusedVariables false
set_option maxRecDepth 100000
open Go.RowKit
/- Layer 7, the document: may a message be: its own way through the kinds. -/
end Go.Proofs.YtldfpklgbedgjaaGreat
