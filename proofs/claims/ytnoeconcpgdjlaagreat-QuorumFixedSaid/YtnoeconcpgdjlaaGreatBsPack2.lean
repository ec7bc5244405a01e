import Derived.Test.YtnoeconcpgdjlaaGreatRows
import Derived.Test.YtnoeconcpgdjlaaGreatChecked
import Derived.SizedLaws
import Derived.JoinedCond
import Derived.Test.YtnoeconcpgdjlaaGreatBsPack
set_option linter.unusedSimpArgs false
set_option linter.unusedVariables false
namespace Go.Proofs.YtnoeconcpgdjlaaGreat
open Go.ChangeShapes Go.WideShapes Go.ChangeAt Go.RowKit
section
variable {H : Type} {enc : TypeId × Value -> H} {w : World} {base : Nat} {spare : Nat -> Bool} {held : Bool}
end
end Go.Proofs.YtnoeconcpgdjlaaGreat
