import Derived.RangeFuncBox
import Derived.Test.YtnoeconcpgdjlaaGreatBsCrcRef
import Derived.Test.YtnoeconcpgdjlaaGreatBsMath2
import Derived.Test.YtnoeconcpgdjlaaGreatBsPack
namespace Go.Proofs.YtnoeconcpgdjlaaGreat
set_option linter.unusedSimpArgs false
set_option linter.unusedVariables false
set_option maxRecDepth 100000
open Go.RowKit
def txts (l : List (List UInt8)) : List Value := l.map fun x => .string ⟨x.toArray⟩
@[simp] theorem txts_length (l : List (List UInt8)) : (txts l).length = l.length := by simp [txts]
end Go.Proofs.YtnoeconcpgdjlaaGreat
