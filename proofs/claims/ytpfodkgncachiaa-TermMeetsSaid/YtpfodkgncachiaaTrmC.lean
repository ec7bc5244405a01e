/-
  Layer 6: which configurations may be: the document's own answer.
-/
import Derived.Test.YtpfodkgncachiaaTrmB
namespace Go.Proofs.Ytpfodkgncachiaa
set_option linter.unusedSimpArgs false
set_option linter.unusedVariables false
set_option maxRecDepth 100000
open Go.RowKit

theorem shardNot {l : List Int} (h : (l.length : Int) < 1 ∨ 3 < (l.length : Int) ∨ Term.unlike l = false) : Term.okShard l = false := by
  rw [← Bool.not_eq_true]
  intro g
  have := Term.shard_ok g
  rcases h with h | h | h
  · omega
  · omega
  · rw [this.2.2] at h; cases h
theorem shardYes {l : List Int} (h1 : ¬ (l.length : Int) < 1) (h2 : ¬ 3 < (l.length : Int)) (h3 : Term.unlike l = true) : Term.okShard l = true := by
  unfold Term.okShard
  rw [h3, Bool.and_true, decide_eq_true_eq]
  omega
/-- How many there may be, as the document asks it. -/
def odd7 (n : Int) : Bool := (n == 1 || n == 3) || (n == 5 || n == 7)
theorem odd7_eq (n : Nat) : decide (n = 1 ∨ n = 3 ∨ n = 5 ∨ n = 7) = odd7 n := by
  unfold odd7
  rw [Bool.eq_iff_iff, decide_eq_true_eq]
  simp only [Bool.or_eq_true, beq_iff_eq]
  omega

end Go.Proofs.Ytpfodkgncachiaa
