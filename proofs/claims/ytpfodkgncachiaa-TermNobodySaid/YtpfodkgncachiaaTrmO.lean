/-
  Layer 6: all that order or keep: the document's own answer, whole.
-/
import Derived.Test.YtpfodkgncachiaaTrmN
namespace Go.Proofs.Ytpfodkgncachiaa
set_option linter.unusedSimpArgs false
set_option linter.unusedVariables false
set_option maxRecDepth 100000
open Go.RowKit

/-- These numbers, put one behind the other. -/
def putsOf (l : List Int) : List Int := l.foldl Term.put []
theorem puts_snoc (l : List Int) (x : Int) : putsOf (l ++ [x]) = Term.put (putsOf l) x := by unfold putsOf; rw [List.foldl_append]; rfl
theorem puts_rise (l : List Int) : Term.rises (putsOf l) := (Term.foldl_put l [] List.Pairwise.nil).1
theorem puts_len (l : List Int) : (putsOf l).length ≤ l.length := by
  have := Term.foldl_length l []
  simpa [putsOf] using this

end Go.Proofs.Ytpfodkgncachiaa
