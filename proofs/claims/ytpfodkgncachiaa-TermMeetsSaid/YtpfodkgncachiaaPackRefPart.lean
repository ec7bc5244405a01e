/-
  Layer 2, the document's own answers: a part is read.
-/
import Derived.Test.YtpfodkgncachiaaPackRefRead
namespace Go.Proofs.Ytpfodkgncachiaa
set_option linter.unusedSimpArgs false
set_option linter.unusedVariables false
open Go.RowKit

end Go.Proofs.Ytpfodkgncachiaa
