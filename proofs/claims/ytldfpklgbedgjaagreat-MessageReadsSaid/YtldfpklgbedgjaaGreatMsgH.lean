/-
 Merged: Layer 7, the document: may a message be: its own way through the kinds.
-/
import Derived.Test.YtldfpklgbedgjaaGreatMsgG
namespace Go.Proofs.YtldfpklgbedgjaaGreat
set_option linter.unusedSimpArgs false
set_option linter.unusedVariables false
set_option maxRecDepth 100000
open Go.RowKit
theorem quiet_eq (m : Msg.M) : Msg.quiet m = ((m.ballot == 0) && (m.old == 0)) := by
 rw [Bool.eq_iff_iff]
 simp only [Msg.quiet, Bool.and_eq_true, decide_eq_true_eq, beq_iff_eq]
theorem both_eq (a b : Int) : decide (a = 0 ∧ b = 0) = ((a == 0) && (b == 0)) := by
 rw [Bool.eq_iff_iff]
 simp only [Bool.and_eq_true, decide_eq_true_eq, beq_iff_eq]
theorem votes_no {m : Msg.M} (h : (m.ballot == 0) = true) : Msg.votes m = false := by
 rw [beq_iff_eq] at h
 simp [Msg.votes, h]
theorem head_no {m : Msg.M} (h : ¬ ((0 ≤ m.src ∧ m.src ≤ 15) ∧ (0 ≤ m.dst ∧ m.dst ≤ 15) ∧ (1 ≤ m.term ∧ m.term ≤ 64) ∧ (0 ≤ m.number ∧ m.number ≤ 1099511627776) ∧ 0 ≤ m.shard ∧ m.shard ≤ 7)) : Msg.right m = false := by
 unfold Msg.right Msg.headOk
 rw [decide_eq_false h]
 rfl
theorem kind_no {m : Msg.M} (h : ¬ (1 ≤ m.kind ∧ m.kind ≤ 10)) : Msg.right m = false := by
 cases h1 : Msg.right m with
 | false => rfl
 | true => exact absurd (Msg.kind_in h1) h
theorem rk1 {m : Msg.M} (h : m.kind = 1) (hh : Msg.headOk m = true) : Msg.right m = (((m.ballot == 0) && (m.old == 0)) && (!m.is && (Msg.plain m true false false && Rec.right m.reco))) := by
 unfold Msg.right Msg.kindOk
 rw [hh, Bool.true_and, if_pos (by omega), quiet_eq]
theorem rk2 {m : Msg.M} (h : m.kind = 2) (hh : Msg.headOk m = true) : Msg.right m = (((m.ballot == 0) && (m.old == 0)) && (!m.is && Msg.plain m false false false)) := by
 unfold Msg.right Msg.kindOk
 rw [hh, Bool.true_and, if_neg (by omega), if_pos (by omega), quiet_eq]
theorem rk3 {m : Msg.M} (h : m.kind = 3) (hh : Msg.headOk m = true) : Msg.right m = (((m.ballot == 0) && (m.old == 0)) && (!m.is && (((m.shard == 0) && (m.number == 0)) && (Msg.plain m false true false && Ent.right m.ent)))) := by
 unfold Msg.right Msg.kindOk
 rw [hh, Bool.true_and, if_neg (by omega), if_neg (by omega), if_pos (by omega), quiet_eq]
 rw [both_eq]
theorem rk4 {m : Msg.M} (h : m.kind = 4) (hh : Msg.headOk m = true) : Msg.right m = (((m.ballot == 0) && (m.old == 0)) && ((m.shard == 0) && Msg.plain m false false false)) := by
 unfold Msg.right Msg.kindOk
 rw [hh, Bool.true_and, if_neg (by omega), if_neg (by omega), if_neg (by omega), if_pos (by omega), quiet_eq]
 rfl
theorem rk5 {m : Msg.M} (h : m.kind = 5) (hh : Msg.headOk m = true) : Msg.right m = (((m.ballot == 0) && (m.old == 0)) && (!m.is && (((m.shard == 0) && (m.number == 0)) && Msg.plain m false false false))) := by
 unfold Msg.right Msg.kindOk
 rw [hh, Bool.true_and, if_neg (by omega), if_neg (by omega), if_neg (by omega), if_neg (by omega), if_pos (by omega), quiet_eq]
 rw [both_eq]
theorem rk6 {m : Msg.M} (h : m.kind = 6) (hh : Msg.headOk m = true) : Msg.right m = (((m.ballot == 0) && (m.old == 0)) && ((m.shard == 0) && Msg.plain m false false false)) := by
 unfold Msg.right Msg.kindOk
 rw [hh, Bool.true_and, if_neg (by omega), if_neg (by omega), if_neg (by omega), if_pos (by omega), quiet_eq]
 rfl
theorem rk7 {m : Msg.M} (h : m.kind = 7) (hh : Msg.headOk m = true) : Msg.right m = (Msg.votes m && ((m.old == 0) && (!m.is && Msg.plain m false false false))) := by
 unfold Msg.right Msg.kindOk
 rw [hh, Bool.true_and, if_neg (by omega), if_neg (by omega), if_neg (by omega), if_neg (by omega), if_neg (by omega), if_pos (by omega)]
 rfl
theorem rk9 {m : Msg.M} (h : m.kind = 9) (hh : Msg.headOk m = true) : Msg.right m = (Msg.votes m && ((m.old == 0) && (!m.is && (Msg.plain m false false true && Msg.withConf m)))) := by
 unfold Msg.right Msg.kindOk
 rw [hh, Bool.true_and, if_neg (by omega), if_neg (by omega), if_neg (by omega), if_neg (by omega), if_neg (by omega), if_neg (by omega), if_neg (by omega), if_pos (by omega)]
 rfl
theorem rk10 {m : Msg.M} (h : m.kind = 10) (hh : Msg.headOk m = true) : Msg.right m = (Msg.votes m && ((m.old == 0) && Msg.plain m false false false)) := by
 unfold Msg.right Msg.kindOk
 rw [hh, Bool.true_and, if_neg (by omega), if_neg (by omega), if_neg (by omega), if_neg (by omega), if_neg (by omega), if_neg (by omega), if_neg (by omega), if_neg (by omega), if_pos (by omega)]
 rfl
theorem rk8bad {m : Msg.M} (h : m.kind = 8) (hh : Msg.headOk m = true) (ho : ¬ (0 ≤ m.old ∧ m.old ≤ 1099511627776)) : Msg.right m = (false) := by
 unfold Msg.right Msg.kindOk
 rw [hh, Bool.true_and, if_neg (by omega), if_neg (by omega), if_neg (by omega), if_neg (by omega), if_neg (by omega), if_neg (by omega), if_pos (by omega)]
 rw [decide_eq_false ho]
 simp
theorem rk8zero {m : Msg.M} (h : m.kind = 8) (hh : Msg.headOk m = true) (ho : m.old = 0) : Msg.right m = (Msg.votes m && (!m.is && Msg.plain m false false false)) := by
 unfold Msg.right Msg.kindOk
 rw [hh, Bool.true_and, if_neg (by omega), if_neg (by omega), if_neg (by omega), if_neg (by omega), if_neg (by omega), if_neg (by omega), if_pos (by omega)]
 rw [decide_eq_true (by omega : 0 ≤ m.old ∧ m.old ≤ 1099511627776), if_pos ho]
 rfl
theorem rk8some {m : Msg.M} (h : m.kind = 8) (hh : Msg.headOk m = true) (ho : ¬ m.old = 0) (h1 : 0 ≤ m.old ∧ m.old ≤ 1099511627776) : Msg.right m = (Msg.votes m && (!m.is && (Msg.plain m false false true && Msg.withConf m))) := by
 unfold Msg.right Msg.kindOk
 rw [hh, Bool.true_and, if_neg (by omega), if_neg (by omega), if_neg (by omega), if_neg (by omega), if_neg (by omega), if_neg (by omega), if_pos (by omega)]
 rw [decide_eq_true h1, if_neg ho]
 rfl
end Go.Proofs.YtldfpklgbedgjaaGreat
