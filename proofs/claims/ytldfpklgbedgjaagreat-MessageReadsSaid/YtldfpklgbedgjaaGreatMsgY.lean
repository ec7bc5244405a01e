/-
 Merged: Layer 7: what the statements take: the program's Encode, right or not.
-/
import Derived.Test.YtldfpklgbedgjaaGreatMsgX
namespace Go.Proofs.YtldfpklgbedgjaaGreat
set_option linter.unusedSimpArgs false
set_option linter.unusedVariables false
set_option maxRecDepth 100000
open Go.RowKit
theorem IsMsg.block {w : World} {v : Value} {m : Msg.M} (h : IsMsg w v m) : ∃ rt et sv dv, v = .agg (msgCells m rt et sv dv) ∧ Msg7 35 (w.alloc (.cells (msgCells m rt et sv dv) 35)) w.heap.size m rt et sv dv := by
 obtain ⟨rt, et, sv, dv, rfl, h1, h2, h3, h4⟩ := h
 exact ⟨rt, et, sv, dv, rfl, Msg7.new _ h1 h2 h3 h4⟩
end Go.Proofs.YtldfpklgbedgjaaGreat
