import Derived.Test.YtnoeconcpgdjlaaGreatRows
import Derived.Test.YtnoeconcpgdjlaaGreatBsLib
import Derived.Test.YtnoeconcpgdjlaaGreatBsPack2
import Derived.Test.YtnoeconcpgdjlaaGreatBsPgV
namespace Go.Proofs.YtnoeconcpgdjlaaGreat
set_option linter.unusedSimpArgs false
set_option linter.unusedVariables false
set_option maxRecDepth 100000
open Go.ChangeShapes Go.WideShapes Go.ChangeAt Go.RowKit
namespace Page
end Page
end Go.Proofs.YtnoeconcpgdjlaaGreat
