import Derived.Test.YtnoeconcpgdjlaaGreatProg
import Derived.Deep.RegionHeld3
import Derived.Deep.DeepCutAuto
import Derived.Test.YtnoeconcpgdjlaaGreatBsLib
import Derived.Test.YtnoeconcpgdjlaaGreatBsMath
set_option linter.unusedSimpArgs false
set_option linter.unusedVariables false
namespace Go.Proofs.YtnoeconcpgdjlaaGreat
set_option maxRecDepth 100000
open Go.RowKit
end Go.Proofs.YtnoeconcpgdjlaaGreat
