/-
 Merged: Layer 7, the program: which fields a message has.
-/
import Derived.Test.YtldfpklgbedgjaaGreatMsgA
import Derived.Test.YtldfpklgbedgjaaGreatMsgRead
namespace Go.Proofs.YtldfpklgbedgjaaGreat
set_option linter.unusedSimpArgs false
set_option linter.unusedVariables false
set_option maxRecDepth 100000
open Go.RowKit
def maskOf (k o : Int) : Int := if k = 1 then 67 else if k = 2 then 3 else if k = 3 then 4 else if k = 4 ∨ k = 6 then 34 else if k = 8 then (if o = 0 then 24 else 152) else if k = 9 then 136 else if k = 7 then 8 else if k = 10 then 40 else 0
def mask (m : Msg.M) : Int := maskOf m.kind m.old
theorem box_msg (w : World) (m : Msg.M) (rt et sv dv : Value) : (Instr.box 45 (.agg (msgCells m rt et sv dv))).run Tryz.prog w = .ok (.pointer (some ⟨w.heap.size, 0, none⟩)) (w.alloc (.cells (msgCells m rt et sv dv) 45)) := by kernel_rfl
set_option maxHeartbeats 4000000 in
theorem isBetween7_any (n a b : Int) (w : World) : Calls Tryz.prog 28 #[.int .i64 n, .int .i64 a, .int .i64 b] w fun e w' => e = .returned (.bool (decide (a ≤ n ∧ n ≤ b))) ∧ w = w' := by
 by_cases h0 : a ≤ n
 · by_cases h1 : n ≤ b
   · have e : decide (a ≤ n ∧ n ≤ b) = true := by simp [h0, h1]
     rw [e]
     clear e
     go_enter Tryz.func28, Tryz.ntmps28
     go_wp2
     go_ret
     exact ⟨rfl, rfl⟩
   · have e : decide (a ≤ n ∧ n ≤ b) = false := by simp [h1]
     rw [e]
     clear e
     go_enter Tryz.func28, Tryz.ntmps28
     go_wp2
     go_ret
     exact ⟨rfl, rfl⟩
 · have e : decide (a ≤ n ∧ n ≤ b) = false := by simp [h0]
   rw [e]
   clear e
   go_enter Tryz.func28, Tryz.ntmps28
   go_wp2
   go_ret
   exact ⟨rfl, rfl⟩
theorem isNode7_any (n : Int) (w : World) : Calls Tryz.prog 29 #[.int .i64 n] w fun e w' => e = .returned (.bool (decide (0 ≤ n ∧ n ≤ 15))) ∧ w = w' := by
 go_enter Tryz.func29, Tryz.ntmps29
 go_wp2_with fail
 refine (isBetween7_any n 0 15 _).mono ?_
 rintro e w' ⟨rfl, rfl⟩
 go_wp2_with fail
 go_ret
 exact ⟨by simp, rfl⟩
theorem kindsCases (k : Int) : k = 1 ∨ k = 2 ∨ k = 3 ∨ k = 4 ∨ k = 6 ∨ k = 8 ∨ k = 9 ∨ k = 7 ∨ k = 10 ∨ ((k == 1) = false ∧ (k == 2) = false ∧ (k == 3) = false ∧ (k == 4) = false ∧ (k == 6) = false ∧ (k == 8) = false ∧ (k == 9) = false ∧ (k == 7) = false ∧ (k == 10) = false) := by
 simp only [beq_eq_false_iff_ne]
 omega
theorem maskNone {k o : Int} (h1 : (k == 1) = false) (h2 : (k == 2) = false) (h3 : (k == 3) = false) (h4 : (k == 4) = false) (h6 : (k == 6) = false) (h8 : (k == 8) = false) (h9 : (k == 9) = false) (h7 : (k == 7) = false) (h10 : (k == 10) = false) : maskOf k o = 0 := by
 simp only [beq_eq_false_iff_ne] at h1 h2 h3 h4 h6 h7 h8 h9 h10
 simp [maskOf, h1, h2, h3, h4, h6, h7, h8, h9, h10]
theorem maskOld {o : Int} (h : (o == 0) = false) : maskOf 8 o = 152 := by
 rw [beq_eq_false_iff_ne] at h
 simp [maskOf, h]
set_option maxHeartbeats 8000000 in
theorem fieldsOf_flat (m : Msg.M) (rt et sv dv : Value) (w : World) :
 Calls Tryz.prog 30 #[.agg (msgCells m rt et sv dv)] w fun e w' => e = .returned (.int .i64 (mask m)) ∧ Ext w w' := by
 have hbx := box_msg
 have hA := MsgAt.new 45 w m rt et sv dv
 have c0 := hA.head.1
 have c18 := hA.votes.2
 have hE : Ext w (w.alloc (.cells (msgCells m rt et sv dv) 45)) := Ext.alloc _ _
 unfold mask
 generalize hM : msgCells m rt et sv dv = M at *
 generalize m.kind = k at *
 generalize m.old = o at *
 clear hM hA
 rcases kindsCases k with rfl | rfl | rfl | rfl | rfl | rfl | rfl | rfl | rfl | ⟨k1, k2, k3, k4, k6, k8, k9, k7, k10⟩
 case inr.inr.inr.inr.inr.inl =>
  cases ho : (o == 0) with
  | true =>
   rw [beq_iff_eq] at ho
   subst ho
   go_enter Tryz.func30, Tryz.ntmps30
   go_wp2_with fail
   go_ret
   exact ⟨rfl, hE⟩
  | false =>
   have HM := Lib.hid (maskOld ho)
   go_enter Tryz.func30, Tryz.ntmps30
   go_wp2_with fail
   go_ret
   exact ⟨by rw [HM.out]; rfl, hE⟩
 case inr.inr.inr.inr.inr.inr.inr.inr.inr =>
  have HM := Lib.hid (maskNone (o := o) k1 k2 k3 k4 k6 k8 k9 k7 k10)
  go_enter Tryz.func30, Tryz.ntmps30
  go_wp2_with fail
  go_ret
  exact ⟨by rw [HM.out]; rfl, hE⟩
 all_goals
  go_enter Tryz.func30, Tryz.ntmps30
  go_wp2_with fail
  go_ret
  exact ⟨rfl, hE⟩
theorem fieldsOf_any (v : Value) (m : Msg.M) (w : World) (hv : IsMsg w v m) :
 Calls Tryz.prog 30 #[v] w fun e w' => e = .returned (.int .i64 (mask m)) ∧ Ext w w' := by
 obtain ⟨rt, et, sv, dv, rfl, _⟩ := hv
 exact fieldsOf_flat m rt et sv dv w
def hasBit (h f : Int) : Bool := bits .and .i64 h f != 0
def eith (h f : Int) (r n : Bool) : Bool := cond (hasBit h f) r n
def gate (p : Bool) (x : Value) : Value := match p with
 | true => x
 | false => undef
end Go.Proofs.YtldfpklgbedgjaaGreat
