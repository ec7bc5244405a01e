/-
 Merged: Layer 7: a message out of what comes in.
-/
import Derived.Test.YtldfpklgbedgjaaGreatBrEnt
import Derived.Test.YtldfpklgbedgjaaGreatBrRec
import Derived.Test.YtldfpklgbedgjaaGreatBrTerm
import Derived.Test.YtldfpklgbedgjaaGreatMsgA
namespace Go.Proofs.YtldfpklgbedgjaaGreat
set_option linter.unusedSimpArgs false
set_option linter.unusedVariables false
set_option maxRecDepth 100000
open Go.ChangeShapes Go.WideShapes Go.ChangeAt Go.RowKit
section
variable {H : Type} {enc : TypeId × Value → H} {w : World} {base : Nat} {spare : Nat → Bool} {held : Bool}
end
end Go.Proofs.YtldfpklgbedgjaaGreat
