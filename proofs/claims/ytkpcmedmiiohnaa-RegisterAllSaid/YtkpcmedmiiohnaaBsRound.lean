/-
  Merged: A range over a function whose iterator turns a block of its own between two rounds.
-/
import Derived.RangeFuncNested
import Derived.RangeFuncBound
import Derived.RangeFuncCalls
import Derived.RangeFuncLeaves
import Derived.Shelf.Abstract
import Derived.OwnWalkIn
import Derived.TacticsInMore
import Derived.LoopNIn
import Derived.LoopIn
import Derived.OrdersIn
import Derived.Test.YtkpcmedmiiohnaaBsLib

namespace Go.Proofs.Ytkpcmedmiiohnaa
set_option linter.unusedSimpArgs false
set_option linter.unusedVariables false
open Go.RowKit Go.Shelf
/- A range over a function whose iterator turns a block of its own between two rounds; and a drawn region within a round. No program. -/
section
variable {P : Program} {l n : Nat} {Q : Exit → Act → World → Prop}
variable {ops : List Oper} {a0 : Act} {w0 : World}
end

section
variable {F : Fence} {n : Nat} {P : Program}

end
end Go.Proofs.Ytkpcmedmiiohnaa
