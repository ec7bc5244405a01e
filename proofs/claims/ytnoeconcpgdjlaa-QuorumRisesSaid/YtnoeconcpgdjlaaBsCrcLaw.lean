/-
  Merged: Layer 1, the statements' own small call: a sum that the document fixes.
-/
import Derived.Lib.SlBytesConst
import Derived.Test.YtnoeconcpgdjlaaBsCrcPut

set_option linter.unusedSimpArgs false
set_option linter.unusedVariables false

namespace Go.Proofs.Ytnoeconcpgdjlaa
set_option maxRecDepth 100000
open Go.RowKit
/- Layer 1, the statements' own small call: a sum that the document fixes. -/
theorem Rows.nil (w : World) : Rows w (.slice none 0 0) [] := ⟨[], ⟨none, 0, rfl, Nat.le_refl _, by simp [maxLen], fun _ => rfl, fun i hi => absurd hi (by simp)⟩, rfl, fun i h => absurd h (by simp)⟩
end Go.Proofs.Ytnoeconcpgdjlaa
