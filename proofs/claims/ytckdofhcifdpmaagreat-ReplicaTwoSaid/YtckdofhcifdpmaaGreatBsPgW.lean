/-
  Merged: Layer 8, the statements' helpers: a row of places beside a store.
-/
import Derived.Test.YtckdofhcifdpmaaGreatRows
import Derived.Test.YtckdofhcifdpmaaGreatBsLib
import Derived.Test.YtckdofhcifdpmaaGreatBsPack2
import Derived.Test.YtckdofhcifdpmaaGreatBsPgV

namespace Go.Proofs.YtckdofhcifdpmaaGreat
set_option linter.unusedSimpArgs false
set_option linter.unusedVariables false
set_option maxRecDepth 100000
open Go.ChangeShapes Go.WideShapes Go.ChangeAt Go.RowKit
/- Layer 8, the statements' helpers: a row of places beside a store; what is read behind a crash; how long the parts of a row are. -/
namespace Page
end Page
end Go.Proofs.YtckdofhcifdpmaaGreat
