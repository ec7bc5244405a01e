/-
  Merged: Layer 8, the statements' helpers: alive.
-/
import Derived.Lib.SlBytesConst
import Derived.Test.YtckdofhcifdpmaaGreatBsPgH

namespace Go.Proofs.YtckdofhcifdpmaaGreat
set_option linter.unusedSimpArgs false
set_option linter.unusedVariables false
set_option maxRecDepth 100000
open Go.RowKit
/- Layer 8, the statements' helpers: alive. -/
theorem Appended.below {w w' : World} {B base p : Nat} {va vp va' vp' : Value} {S : Page.St} {b : List UInt8} (h : Appended w base p va vp S b w' va' vp') (hs : IsSto w base p va vp S) (hB : B ≤ base) (hp : B ≤ p) (hw : B ≤ w.heap.size) : Below B w w' :=
  ⟨h.os, h.tape, h.output, h.size, fun k hk => h.block k (by omega) (by omega) (rowLow hs.all (by omega)) (rowLow hs.places (by omega))⟩
namespace Page
end Page

end Go.Proofs.YtckdofhcifdpmaaGreat
