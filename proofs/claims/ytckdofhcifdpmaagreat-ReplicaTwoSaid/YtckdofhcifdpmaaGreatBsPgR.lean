/-
  Merged: Layer 8, the document's answers: frames, the first one, Scan.
-/
import Derived.RangeFuncBox
import Derived.Test.YtckdofhcifdpmaaGreatBsCrcRef
import Derived.Test.YtckdofhcifdpmaaGreatBsMath2
import Derived.Test.YtckdofhcifdpmaaGreatBsPack

namespace Go.Proofs.YtckdofhcifdpmaaGreat
set_option linter.unusedSimpArgs false
set_option linter.unusedVariables false
set_option maxRecDepth 100000
open Go.RowKit
/- Layer 8, the document's answers: frames, the first one, Scan. -/
/-- Texts. -/
def txts (l : List (List UInt8)) : List Value := l.map fun x => .string ⟨x.toArray⟩
@[simp] theorem txts_length (l : List (List UInt8)) : (txts l).length = l.length := by simp [txts]
end Go.Proofs.YtckdofhcifdpmaaGreat
