/-
  Merged: Layer 7, the document: a message as bytes.
-/
import Derived.Test.YtldfpklgbedgjaaGreatByEnt
import Derived.Test.YtldfpklgbedgjaaGreatByRec
import Derived.Test.YtldfpklgbedgjaaGreatByTerm
import Derived.Test.YtldfpklgbedgjaaGreatMsgI

namespace Go.Proofs.YtldfpklgbedgjaaGreat
set_option linter.unusedSimpArgs false
set_option linter.unusedVariables false
set_option maxRecDepth 100000
open Go.RowKit
/- Layer 7, the document: a message as bytes. -/
def GivesEnc7 (w : World) (m : Msg.M) (x : Ending) (w' : World) : Prop := ∃ u, x = .returned (.tuple #[u, .int .i64 (orErr 70 (Msg.right m))]) ∧ Bytes w' u (bytesOr (Msg.right m) (Msg.enc m)) ∧ Ext w w'
theorem textOf7_le {l : List UInt8} (h : l.length ≤ 60000) : (Msg.textOf l).length ≤ 60009 := by have := Msg.textOf_le (l := l) (by omega); omega

end Go.Proofs.YtldfpklgbedgjaaGreat
