/-
  Merged: Layer 7: one field of a message stored in its block.
-/
import Derived.Test.YtldfpklgbedgjaaGreatMsgY

namespace Go.Proofs.YtldfpklgbedgjaaGreat
set_option linter.unusedSimpArgs false
set_option linter.unusedVariables false
set_option maxRecDepth 100000
open Go.RowKit
/- Layer 7: one field of a message stored in its block. -/
section
variable {ops : Array Oper} {rest : List Oper} {op : Oper} {a : Act} {w : World} {Q : Exit → Act → World → Prop}
end
end Go.Proofs.YtldfpklgbedgjaaGreat
