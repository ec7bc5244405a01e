/-
  Merged: Layer 2: parts, out of what comes in.
-/
import Derived.Test.YtpefengjpedifaaRows
import Derived.Test.YtpefengjpedifaaChecked
import Derived.SizedLaws
import Derived.JoinedCond
import Derived.Test.YtpefengjpedifaaBsPack

set_option linter.unusedSimpArgs false
set_option linter.unusedVariables false

namespace Go.Proofs.Ytpefengjpedifaa
open Go.ChangeShapes Go.WideShapes Go.ChangeAt Go.RowKit
/- Layer 2: parts, out of what comes in; and what the bound gives. -/
section
variable {H : Type} {enc : TypeId × Value → H} {w : World} {base : Nat} {spare : Nat → Bool} {held : Bool}

end
end Go.Proofs.Ytpefengjpedifaa
