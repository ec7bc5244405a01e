/-
  Layer 6: bytes as configurations: the document's own answer.
-/
import Derived.Test.YtpfodkgncachiaaTrmF
import Derived.Test.YtpfodkgncachiaaTrmH
namespace Go.Proofs.Ytpfodkgncachiaa
set_option linter.unusedSimpArgs false
set_option linter.unusedVariables false
set_option maxRecDepth 100000
open Go.RowKit

theorem build_confR0 (w : World) : (Instr.build 25 #[]).run Try.prog w = .ok (.agg #[.int .i64 0, .slice none 0 0, .slice none 0 0]) w := by kernel_rfl
theorem setTwo6B {w : World} {q : Nat} (v0 v1 : Value) : But q w ((w.setCell ⟨q, 0, none⟩ v0).setCell ⟨q, 1, none⟩ v1) := ((But.refl _ _).setCell 0 none v0).setCell 1 none v1
end Go.Proofs.Ytpfodkgncachiaa
