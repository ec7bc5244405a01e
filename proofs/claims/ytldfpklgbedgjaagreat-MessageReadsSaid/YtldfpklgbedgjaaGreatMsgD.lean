/-
 Merged: Layer 7, the program: may a message be.
-/
import Derived.Test.YtldfpklgbedgjaaGreatMsgC
namespace Go.Proofs.YtldfpklgbedgjaaGreat
set_option linter.unusedSimpArgs false
set_option linter.unusedVariables false
set_option maxRecDepth 100000
open Go.RowKit
def bit1 (m : Msg.M) : Bool := eith (mask m) 1 (decide (0 ≤ m.shard ∧ m.shard ≤ 7)) (m.shard == 0)
def bit2 (m : Msg.M) : Bool := eith (mask m) 2 (decide (0 ≤ m.number ∧ m.number ≤ 1099511627776)) (m.number == 0)
def bit3 (m : Msg.M) : Bool := eith (mask m) 4 (Ent.right m.ent) (Ent.alike m.ent Msg.ent0)
def bit4 (m : Msg.M) : Bool := eith (mask m) 8 (decide (1 ≤ m.ballot ∧ m.ballot ≤ 1099511627776)) (m.ballot == 0)
def bit5 (m : Msg.M) : Bool := eith (mask m) 16 (decide (0 ≤ m.old ∧ m.old ≤ 1099511627776)) (m.old == 0)
def bit6 (m : Msg.M) : Bool := eith (mask m) 32 true (!m.is)
def bit7 (m : Msg.M) : Bool := eith (mask m) 64 (Rec.right m.reco) (Rec.same m.reco Msg.rec0)
def bit8 (m : Msg.M) : Bool := eith (mask m) 128 (Term.right m.conf && (m.conf.term == m.term)) (Term.alike m.conf Msg.conf0)
def bitsAll (m : Msg.M) : Bool := ((((((bit1 m && bit2 m) && bit3 m) && bit4 m) && bit5 m) && bit6 m) && bit7 m) && bit8 m
def headBits (m : Msg.M) : Bool := decide (1 ≤ m.kind ∧ m.kind ≤ 10) && (decide (0 ≤ m.src ∧ m.src ≤ 15) && (decide (0 ≤ m.dst ∧ m.dst ≤ 15) && decide (1 ≤ m.term ∧ m.term ≤ 64)))
theorem bits8 (m : Msg.M) (M : Int) (hM : mask m = M) (x1 x2 x3 x4 x5 x6 x7 x8 : Bool) (h1 : hasBit M 1 = x1) (h2 : hasBit M 2 = x2) (h3 : hasBit M 4 = x3) (h4 : hasBit M 8 = x4) (h5 : hasBit M 16 = x5) (h6 : hasBit M 32 = x6) (h7 : hasBit M 64 = x7) (h8 : hasBit M 128 = x8) :
 bitsAll m = (((((((cond x1 (decide (0 ≤ m.shard ∧ m.shard ≤ 7)) (m.shard == 0) && cond x2 (decide (0 ≤ m.number ∧ m.number ≤ 1099511627776)) (m.number == 0)) && cond x3 (Ent.right m.ent) (Ent.alike m.ent Msg.ent0)) && cond x4 (decide (1 ≤ m.ballot ∧ m.ballot ≤ 1099511627776)) (m.ballot == 0)) && cond x5 (decide (0 ≤ m.old ∧ m.old ≤ 1099511627776)) (m.old == 0)) && cond x6 true (!m.is)) && cond x7 (Rec.right m.reco) (Rec.same m.reco Msg.rec0)) && cond x8 (Term.right m.conf && (m.conf.term == m.term)) (Term.alike m.conf Msg.conf0)) := by
 unfold bitsAll bit1 bit2 bit3 bit4 bit5 bit6 bit7 bit8 eith
 rw [hM, h1, h2, h3, h4, h5, h6, h7, h8]
theorem right_bits (m : Msg.M) : Msg.right m = (headBits m && bitsAll m) := by
 obtain ⟨k, s, d, t, sh, n, is, r, e, b, o, c⟩ := m
 by_cases hk : 1 ≤ k ∧ k ≤ 10
 · have hks : (k = 8 ∧ o = 0) ∨ (k = 8 ∧ ¬ o = 0) ∨ k = 1 ∨ k = 2 ∨ k = 3 ∨ k = 4 ∨ k = 5 ∨ k = 6 ∨ k = 7 ∨ k = 9 ∨ k = 10 := by omega
   rw [Bool.eq_iff_iff]
   rcases hks with ⟨rfl, rfl⟩ | ⟨rfl, ho⟩ | rfl | rfl | rfl | rfl | rfl | rfl | rfl | rfl | rfl
   rw [bits8 ⟨8, s, d, t, sh, n, is, r, e, b, 0, c⟩ 24 (rfl) false false false true true false false false rfl rfl rfl rfl rfl rfl rfl rfl]
   rotate_left
   rw [bits8 ⟨8, s, d, t, sh, n, is, r, e, b, o, c⟩ 152 (by simp [mask, maskOf, ho]) false false false true true false false true rfl rfl rfl rfl rfl rfl rfl rfl]
   rotate_left
   rw [bits8 ⟨1, s, d, t, sh, n, is, r, e, b, o, c⟩ 67 (rfl) true true false false false false true false rfl rfl rfl rfl rfl rfl rfl rfl]
   rotate_left
   rw [bits8 ⟨2, s, d, t, sh, n, is, r, e, b, o, c⟩ 3 (rfl) true true false false false false false false rfl rfl rfl rfl rfl rfl rfl rfl]
   rotate_left
   rw [bits8 ⟨3, s, d, t, sh, n, is, r, e, b, o, c⟩ 4 (rfl) false false true false false false false false rfl rfl rfl rfl rfl rfl rfl rfl]
   rotate_left
   rw [bits8 ⟨4, s, d, t, sh, n, is, r, e, b, o, c⟩ 34 (rfl) false true false false false true false false rfl rfl rfl rfl rfl rfl rfl rfl]
   rotate_left
   rw [bits8 ⟨5, s, d, t, sh, n, is, r, e, b, o, c⟩ 0 (rfl) false false false false false false false false rfl rfl rfl rfl rfl rfl rfl rfl]
   rotate_left
   rw [bits8 ⟨6, s, d, t, sh, n, is, r, e, b, o, c⟩ 34 (rfl) false true false false false true false false rfl rfl rfl rfl rfl rfl rfl rfl]
   rotate_left
   rw [bits8 ⟨7, s, d, t, sh, n, is, r, e, b, o, c⟩ 8 (rfl) false false false true false false false false rfl rfl rfl rfl rfl rfl rfl rfl]
   rotate_left
   rw [bits8 ⟨9, s, d, t, sh, n, is, r, e, b, o, c⟩ 136 (rfl) false false false true false false false true rfl rfl rfl rfl rfl rfl rfl rfl]
   rotate_left
   rw [bits8 ⟨10, s, d, t, sh, n, is, r, e, b, o, c⟩ 40 (rfl) false false false true false true false false rfl rfl rfl rfl rfl rfl rfl rfl]
   rotate_left
   all_goals
    unfold headBits
    simp only [cond_true, cond_false, Msg.right, Msg.headOk, Msg.kindOk, Msg.quiet, Msg.votes, Msg.plain, Msg.withConf, Bool.and_eq_true, Bool.or_eq_true, decide_eq_true_eq, beq_iff_eq, Bool.not_eq_true', if_true, reduceCtorEq, Bool.true_or, Bool.false_or, true_and, and_true, true_or, or_true, Int.reduceEq, if_false, or_self, or_false, false_or]
    try simp only [if_neg ho, Bool.and_eq_true, decide_eq_true_eq, beq_iff_eq]
    generalize (Ent.alike e Msg.ent0 = true) = P1 at *
    generalize (Rec.same r Msg.rec0 = true) = P2 at *
    generalize (Term.alike c Msg.conf0 = true) = P3 at *
    generalize (Ent.right e = true) = P4 at *
    generalize (Rec.right r = true) = P5 at *
    generalize (Term.right c = true) = P6 at *
    grind
 · have h1 : Msg.right ⟨k, s, d, t, sh, n, is, r, e, b, o, c⟩ = false := by
    cases h : Msg.right ⟨k, s, d, t, sh, n, is, r, e, b, o, c⟩ with
    | false => rfl
    | true => exact absurd (Msg.kind_in h) hk
   rw [h1]
   unfold headBits
   simp only
   rw [decide_eq_false hk]
   rfl
set_option maxHeartbeats 32000000 in
theorem right7_any (v : Value) (m : Msg.M) (w : World) (hv : IsMsg w v m) :
 Calls Tryz.prog 14 #[v] w fun e w' => e = .returned (.bool (Msg.right m)) ∧ Ext w w' := by
 have HF := Lib.hid (fun w1 u (hu : IsMsg w1 u m) => fieldsOf_any u m w1 hu)
 have HCR0 := Lib.hid (fun u w1 (hu : IsConf w1 u m.conf) => right6_any u m.conf w1 hu)
 rw [right_bits]
 obtain ⟨rt, et, sv, dv, rfl, h1, h2, h3, h4⟩ := hv
 have hbx := box_msg
 have hE1 : Ext w (w.alloc (.cells (msgCells m rt et sv dv) 45)) := Ext.alloc _ _
 have HM1 := Lib.hid (show Msg7 45 (w.alloc (.cells (msgCells m rt et sv dv) 45)) w.heap.size m rt et sv dv from ⟨MsgAt.new _ w m rt et sv dv, h1.below hE1, h2.below hE1, h3.below hE1, h4.below hE1⟩)
 clear h1 h2 h3 h4
 obtain ⟨c0, c1, c2, c3, _⟩ := HM1.out.at_.head
 unfold headBits
 cases k1 : decide (1 ≤ m.kind ∧ m.kind ≤ 10) with
 | false =>
  have K1 := Lib.hid k1
  clear k1
  go_enter Tryz.func14, Tryz.ntmps14
  go_wp2_with fail
  refine (isBetween7_any m.kind 1 10 _).mono ?_
  rw [K1.out]
  rintro e w' ⟨rfl, rfl⟩
  go_wp2_with fail
  go_ret
  exact ⟨rfl, hE1⟩
 | true =>
  have K1 := Lib.hid k1
  clear k1
  cases k2 : decide (0 ≤ m.src ∧ m.src ≤ 15) with
  | false =>
   have K2 := Lib.hid k2
   clear k2
   go_enter Tryz.func14, Tryz.ntmps14
   go_wp2_with fail
   refine (isBetween7_any m.kind 1 10 _).mono ?_
   rw [K1.out]
   rintro e w' ⟨rfl, rfl⟩
   go_wp2_with fail
   refine (isNode7_any m.src _).mono ?_
   rw [K2.out]
   rintro e w' ⟨rfl, rfl⟩
   go_wp2_with fail
   go_ret
   exact ⟨rfl, hE1⟩
  | true =>
   have K2 := Lib.hid k2
   clear k2
   cases k3 : decide (0 ≤ m.dst ∧ m.dst ≤ 15) with
   | false =>
    have K3 := Lib.hid k3
    clear k3
    go_enter Tryz.func14, Tryz.ntmps14
    go_wp2_with fail
    refine (isBetween7_any m.kind 1 10 _).mono ?_
    rw [K1.out]
    rintro e w' ⟨rfl, rfl⟩
    go_wp2_with fail
    refine (isNode7_any m.src _).mono ?_
    rw [K2.out]
    rintro e w' ⟨rfl, rfl⟩
    go_wp2_with fail
    refine (isNode7_any m.dst _).mono ?_
    rw [K3.out]
    rintro e w' ⟨rfl, rfl⟩
    go_wp2_with fail
    go_ret
    exact ⟨rfl, hE1⟩
   | true =>
    have K3 := Lib.hid k3
    clear k3
    cases k4 : decide (1 ≤ m.term ∧ m.term ≤ 64) with
    | false =>
     have K4 := Lib.hid k4
     clear k4
     go_enter Tryz.func14, Tryz.ntmps14
     go_wp2_with fail
     refine (isBetween7_any m.kind 1 10 _).mono ?_
     rw [K1.out]
     rintro e w' ⟨rfl, rfl⟩
     go_wp2_with fail
     refine (isNode7_any m.src _).mono ?_
     rw [K2.out]
     rintro e w' ⟨rfl, rfl⟩
     go_wp2_with fail
     refine (isNode7_any m.dst _).mono ?_
     rw [K3.out]
     rintro e w' ⟨rfl, rfl⟩
     go_wp2_with fail
     refine (isBetween7_any m.term 1 64 _).mono ?_
     rw [K4.out]
     rintro e w' ⟨rfl, rfl⟩
     go_wp2_with fail
     go_ret
     exact ⟨rfl, hE1⟩
    | true =>
     have K4 := Lib.hid k4
     clear k4
     have HA := Lib.hid (show bitsAll m = _ from rfl)
     simp only [Bool.true_and]
     obtain ⟨b, hb⟩ : ∃ b, b = bitsAll m := ⟨_, rfl⟩
     rw [← hb]
     have HB := Lib.hid hb
     clear hb HA
     go_enter Tryz.func14, Tryz.ntmps14
     go_wp2_with fail
     refine (isBetween7_any m.kind 1 10 _).mono ?_
     rw [K1.out]
     rintro e w' ⟨rfl, rfl⟩
     go_wp2_with fail
     refine (isNode7_any m.src _).mono ?_
     rw [K2.out]
     rintro e w' ⟨rfl, rfl⟩
     go_wp2_with fail
     refine (isNode7_any m.dst _).mono ?_
     rw [K3.out]
     rintro e w' ⟨rfl, rfl⟩
     go_wp2_with fail
     refine (isBetween7_any m.term 1 64 _).mono ?_
     rw [K4.out]
     rintro e w' ⟨rfl, rfl⟩
     clear c0 c1 c2 c3 hbx
     generalize w.alloc (.cells (msgCells m rt et sv dv) 45) = w1 at *
     generalize w.heap.size = q at *
     go_wp2_with (refine ldM (by rfl) _ rfl rfl HM1.out ?_)
     refine (HF.out _ _ HM1.out.isMsg).mono ?_
     rintro e w2 ⟨rfl, hE2⟩
     go_wp2_with fail
     have hE3 : Ext w (w2.alloc (.cells #[.int .i64 (mask m)] 69)) := hE1.trans (hE2.trans (Ext.alloc _ _))
     have HM := Lib.hid ((HM1.out.ext hE2).ext (Ext.alloc w2 (.cells #[.int .i64 (mask m)] 69)))
     have hcb := heap_alloc_new w2 (.cells #[.int .i64 (mask m)] 69)
     have HC := Lib.hid (cell_of_heap hcb 0)
     have HCB := Lib.hid (Array.getElem?_eq_some_iff.1 hcb).1
     clear hcb
     generalize w2.alloc (.cells #[.int .i64 (mask m)] 69) = w3 at *
     generalize w2.heap.size = c at *
     clear hE1 hE2 HM1 HF K1 K2 K3 K4
     obtain ⟨p1, hp1⟩ : ∃ p, p = eith (mask m) 1 (decide (0 ≤ m.shard ∧ m.shard ≤ 7)) (m.shard == 0) := ⟨_, rfl⟩
     obtain ⟨c2, hc2⟩ : ∃ p, p = eith (mask m) 2 (decide (0 ≤ m.number ∧ m.number ≤ 1099511627776)) (m.number == 0) := ⟨_, rfl⟩
     obtain ⟨c3, hc3⟩ : ∃ p, p = eith (mask m) 4 (Ent.right m.ent) (Ent.alike m.ent Msg.ent0) := ⟨_, rfl⟩
     obtain ⟨c4, hc4⟩ : ∃ p, p = eith (mask m) 8 (decide (1 ≤ m.ballot ∧ m.ballot ≤ 1099511627776)) (m.ballot == 0) := ⟨_, rfl⟩
     obtain ⟨c5, hc5⟩ : ∃ p, p = eith (mask m) 16 (decide (0 ≤ m.old ∧ m.old ≤ 1099511627776)) (m.old == 0) := ⟨_, rfl⟩
     obtain ⟨c6, hc6⟩ : ∃ p, p = eith (mask m) 32 true (!m.is) := ⟨_, rfl⟩
     obtain ⟨c7, hc7⟩ : ∃ p, p = eith (mask m) 64 (Rec.right m.reco) (Rec.same m.reco Msg.rec0) := ⟨_, rfl⟩
     obtain ⟨cr, hcr⟩ : ∃ p, p = Term.right m.conf := ⟨_, rfl⟩
     obtain ⟨cw, hcw⟩ : ∃ p, p = (cr && (m.conf.term == m.term)) := ⟨_, rfl⟩
     obtain ⟨c8, hc8⟩ : ∃ p, p = eith (mask m) 128 cw (Term.alike m.conf Msg.conf0) := ⟨_, rfl⟩
     obtain ⟨p2, hp2⟩ : ∃ p, p = (p1 && c2) := ⟨_, rfl⟩
     obtain ⟨p3, hp3⟩ : ∃ p, p = (p2 && c3) := ⟨_, rfl⟩
     obtain ⟨p4, hp4⟩ : ∃ p, p = (p3 && c4) := ⟨_, rfl⟩
     obtain ⟨p5, hp5⟩ : ∃ p, p = (p4 && c5) := ⟨_, rfl⟩
     obtain ⟨p6, hp6⟩ : ∃ p, p = (p5 && c6) := ⟨_, rfl⟩
     obtain ⟨p7, hp7⟩ : ∃ p, p = (p6 && c7) := ⟨_, rfl⟩
     obtain ⟨p8, hp8⟩ : ∃ p, p = (p7 && c8) := ⟨_, rfl⟩
     have HZ := Lib.hid (show p8 = b by rw [HB.out, hp8, hp7, hp6, hp5, hp4, hp3, hp2, hc8, hcw, hcr, hc7, hc6, hc5, hc4, hc3, hc2, hp1]; rfl)
     have HCR := Lib.hid (fun w1 hu => (hcr ▸ HCR0.out _ w1 hu : Calls Tryz.prog 36 #[.agg #[.int .i64 m.conf.term, sv, dv]] w1 fun x w' => x = .returned (.bool cr) ∧ Ext w1 w'))
     have HP1 := Lib.hid hp1
     have HP2 := Lib.hid hp2
     have HP3 := Lib.hid hp3
     have HP4 := Lib.hid hp4
     have HP5 := Lib.hid hp5
     have HP6 := Lib.hid hp6
     have HP7 := Lib.hid hp7
     have HP8 := Lib.hid hp8
     have HC2 := Lib.hid hc2
     have HC3 := Lib.hid hc3
     have HC4 := Lib.hid hc4
     have HC5 := Lib.hid hc5
     have HC6 := Lib.hid hc6
     have HC7 := Lib.hid hc7
     have HC8 := Lib.hid hc8
     have HCW := Lib.hid hcw
     clear hp1 hp2 hp3 hp4 hp5 hp6 hp7 hp8 hc2 hc3 hc4 hc5 hc6 hc7 hc8 hcw hcr HCR0 HB
     refine wp_region_facts (by kernel_rfl) Ext (fun iop v w => match iop with
      | 0 => v = .func (.func 31) #[] #[.pointer (some ⟨c, 0, none⟩)]
      | 1 => v = .pointer (some ⟨q, 4, none⟩)
      | 2 => v = .int .i64 m.shard
      | 3 => v = .bool (decide (0 ≤ m.shard ∧ m.shard ≤ 7))
      | 4 => v = .pointer (some ⟨q, 4, none⟩)
      | 5 => v = .int .i64 m.shard
      | 6 => v = .bool (m.shard == 0)
      | 7 => v = .bool p1
      | 8 => v = .bool p1
      | 9 => v = gate p1 (.func (.func 31) #[] #[.pointer (some ⟨c, 0, none⟩)])
      | 10 => v = gate p1 (.pointer (some ⟨q, 5, none⟩))
      | 11 => v = gate p1 (.int .i64 m.number)
      | 12 => v = gate p1 (.bool (decide (0 ≤ m.number ∧ m.number ≤ 1099511627776)))
      | 13 => v = gate p1 (.pointer (some ⟨q, 5, none⟩))
      | 14 => v = gate p1 (.int .i64 m.number)
      | 15 => v = gate p1 (.bool (m.number == 0))
      | 16 => v = gate p1 (.bool c2)
      | 17 => v = .bool p2
      | 18 => v = .bool p2
      | 19 => v = gate p2 (.func (.func 31) #[] #[.pointer (some ⟨c, 0, none⟩)])
      | 20 => v = gate p2 (.pointer (some ⟨q, 11, none⟩))
      | 21 => v = gate p2 (.agg #[.int .i64 m.ent.number, .int .i64 m.ent.kind, et, .int .i64 m.ent.tag, .int .i64 m.ent.term, .int .i64 m.ent.pos])
      | 22 => v = gate p2 (.bool (Ent.right m.ent))
      | 23 => v = gate p2 (.pointer (some ⟨q, 11, none⟩))
      | 24 => v = gate p2 (.agg #[.int .i64 m.ent.number, .int .i64 m.ent.kind, et, .int .i64 m.ent.tag, .int .i64 m.ent.term, .int .i64 m.ent.pos])
      | 25 => v = gate p2 (.agg #[.int .i64 0, .int .i64 0, .slice none 0 0, .int .i64 0, .int .i64 0, .int .i64 0])
      | 26 => v = gate p2 (.bool (Ent.alike m.ent Msg.ent0))
      | 27 => v = gate p2 (.bool c3)
      | 28 => v = .bool p3
      | 29 => v = .bool p3
      | 30 => v = gate p3 (.func (.func 31) #[] #[.pointer (some ⟨c, 0, none⟩)])
      | 31 => v = gate p3 (.pointer (some ⟨q, 17, none⟩))
      | 32 => v = gate p3 (.int .i64 m.ballot)
      | 33 => v = gate p3 (.bool (decide (1 ≤ m.ballot ∧ m.ballot ≤ 1099511627776)))
      | 34 => v = gate p3 (.pointer (some ⟨q, 17, none⟩))
      | 35 => v = gate p3 (.int .i64 m.ballot)
      | 36 => v = gate p3 (.bool (m.ballot == 0))
      | 37 => v = gate p3 (.bool c4)
      | 38 => v = .bool p4
      | 39 => v = .bool p4
      | 40 => v = gate p4 (.func (.func 31) #[] #[.pointer (some ⟨c, 0, none⟩)])
      | 41 => v = gate p4 (.pointer (some ⟨q, 18, none⟩))
      | 42 => v = gate p4 (.int .i64 m.old)
      | 43 => v = gate p4 (.bool (decide (0 ≤ m.old ∧ m.old ≤ 1099511627776)))
      | 44 => v = gate p4 (.pointer (some ⟨q, 18, none⟩))
      | 45 => v = gate p4 (.int .i64 m.old)
      | 46 => v = gate p4 (.bool (m.old == 0))
      | 47 => v = gate p4 (.bool c5)
      | 48 => v = .bool p5
      | 49 => v = .bool p5
      | 50 => v = gate p5 (.func (.func 31) #[] #[.pointer (some ⟨c, 0, none⟩)])
      | 51 => v = gate p5 (.pointer (some ⟨q, 6, none⟩))
      | 52 => v = gate p5 (.bool m.is)
      | 53 => v = gate p5 (.bool (!m.is))
      | 54 => v = gate p5 (.bool c6)
      | 55 => v = .bool p6
      | 56 => v = .bool p6
      | 57 => v = gate p6 (.func (.func 31) #[] #[.pointer (some ⟨c, 0, none⟩)])
      | 58 => v = gate p6 (.pointer (some ⟨q, 7, none⟩))
      | 59 => v = gate p6 (.agg #[.int .i64 m.reco.client, .int .i64 m.reco.number, rt, .string ⟨m.reco.data.toArray⟩])
      | 60 => v = gate p6 (.bool (Rec.right m.reco))
      | 61 => v = gate p6 (.pointer (some ⟨q, 7, none⟩))
      | 62 => v = gate p6 (.agg #[.int .i64 m.reco.client, .int .i64 m.reco.number, rt, .string ⟨m.reco.data.toArray⟩])
      | 63 => v = gate p6 (.agg #[.int .i64 0, .int .i64 0, .slice none 0 0, .string ⟨#[]⟩])
      | 64 => v = gate p6 (.bool (Rec.same m.reco Msg.rec0))
      | 65 => v = gate p6 (.bool c7)
      | 66 => v = .bool p7
      | 67 => v = .bool p7
      | 68 => v = gate p7 (.func (.func 31) #[] #[.pointer (some ⟨c, 0, none⟩)])
      | 69 => v = gate p7 (.pointer (some ⟨q, 19, none⟩))
      | 70 => v = gate p7 (.agg #[.int .i64 m.conf.term, sv, dv])
      | 71 => v = gate p7 (.bool cr)
      | 72 => v = gate p7 (.bool cr)
      | 73 => v = gate p7 (gate cr (.pointer (some ⟨q, 19, none⟩)))
      | 74 => v = gate p7 (gate cr (.pointer (some ⟨q, 19, none⟩)))
      | 75 => v = gate p7 (gate cr (.int .i64 m.conf.term))
      | 76 => v = gate p7 (gate cr (.pointer (some ⟨q, 3, none⟩)))
      | 77 => v = gate p7 (gate cr (.int .i64 m.term))
      | 78 => v = gate p7 (gate cr (.bool (m.conf.term == m.term)))
      | 79 => v = gate p7 (.bool cw)
      | 80 => v = gate p7 (.pointer (some ⟨q, 19, none⟩))
      | 81 => v = gate p7 (.agg #[.int .i64 m.conf.term, sv, dv])
      | 82 => v = gate p7 (.agg #[.int .i64 0, .slice none 0 0, .slice none 0 0])
      | 83 => v = gate p7 (.bool (Term.alike m.conf Msg.conf0))
      | 84 => v = gate p7 (.bool c8)
      | 85 => v = .bool p8
      | _ => v = .bool p8
      ) (by kernel_rfl) (fun _ _ _ h k => Ext.trans h k) (fun a => Ext.refl a) (Ext.drew _) ?_ ?_ ?_
     · intro iop v wa wb hF hL
       iterate 86 (rcases iop with _ | iop; exact hF)
       exact hF
     · refine Obls.cons ?_ (Obls.cons ?_ (Obls.cons ?_ (Obls.cons ?_ (Obls.cons ?_ (Obls.cons ?_ (Obls.cons ?_ (Obls.cons ?_ (Obls.cons ?_ (Obls.cons ?_ (Obls.cons ?_ (Obls.cons ?_ (Obls.cons ?_ (Obls.cons ?_ (Obls.cons ?_ (Obls.cons ?_ (Obls.cons ?_ (Obls.cons ?_ (Obls.cons ?_ (Obls.cons ?_ (Obls.cons ?_ (Obls.cons ?_ (Obls.cons ?_ (Obls.cons ?_ (Obls.cons ?_ (Obls.cons ?_ (Obls.cons ?_ (Obls.cons ?_ (Obls.cons ?_ (Obls.cons ?_ (Obls.cons ?_ (Obls.cons ?_ (Obls.cons ?_ (Obls.cons ?_ (Obls.cons ?_ (Obls.cons ?_ (Obls.cons ?_ (Obls.cons ?_ (Obls.cons ?_ (Obls.cons ?_ (Obls.cons ?_ (Obls.cons ?_ (Obls.cons ?_ (Obls.cons ?_ (Obls.cons ?_ (Obls.cons ?_ (Obls.cons ?_ (Obls.cons ?_ (Obls.cons ?_ (Obls.cons ?_ (Obls.cons ?_ (Obls.cons ?_ (Obls.cons ?_ (Obls.cons ?_ (Obls.cons ?_ (Obls.cons ?_ (Obls.cons ?_ (Obls.cons ?_ (Obls.cons ?_ (Obls.cons ?_ (Obls.cons ?_ (Obls.cons ?_ (Obls.cons ?_ (Obls.cons ?_ (Obls.cons ?_ (Obls.cons ?_ (Obls.cons ?_ (Obls.cons ?_ (Obls.cons ?_ (Obls.cons ?_ (Obls.cons ?_ (Obls.cons ?_ (Obls.cons ?_ (Obls.cons ?_ (Obls.cons ?_ (Obls.cons ?_ (Obls.cons ?_ (Obls.cons ?_ (Obls.cons ?_ (Obls.cons ?_ (Obls.cons ?_ (Obls.cons ?_ (Obls.cons ?_ (Obls.cons ?_ (Obls.cons ?_ (Obls.cons ?_ (Obls.cons ?_ (Obls.nil)))))))))))))))))))))))))))))))))))))))))))))))))))))))))))))))))))))))))))))))))))))))
       · intro ev wy hp hl hk hd
         have e4 : ev (.tmp 4) = .func (.func 31) #[] #[.pointer (some ⟨c, 0, none⟩)] := hk 4 (by decide)
         clear hk hd
         exact Yield.mv rfl ⟨Ext.refl _, e4⟩
       · intro ev wy hp hl hk hd
         have e1 : ev (.tmp 1) = .pointer (some ⟨q, 0, none⟩) := hk 1 (by decide)
         clear hk hd
         exact Yield.op (v := .pointer (some ⟨q, 4, none⟩)) (w' := wy) (by simp [execOp, go_sem, e1]) ⟨Ext.refl _, rfl⟩
       · intro ev wy hp hl hk hd
         have e31 : ev (.tmp 31) = .pointer (some ⟨q, 4, none⟩) := hk 31 (by decide)
         clear hk hd
         exact Yield.load rfl e31 (ldInt (HM.out.ext hl).at_.head.2.2.2.2.1) ⟨Ext.refl _, rfl⟩
       · intro ev wy hp hl hk hd
         have e32 : ev (.tmp 32) = .int .i64 m.shard := hk 32 (by decide)
         clear hk hd
         refine Yield.call rfl hp Tryz.func28 rfl (by kernel_rfl) ?_
         simp only [List.map_toArray, List.map_cons, List.map_nil, hp.const, e32]
         exact ((isBetween7_ext _ _ _ _)).mono fun _ _ ⟨he, hb⟩ => ⟨_, he, hb, by first | rfl | simp⟩
       · intro ev wy hp hl hk hd
         have e1 : ev (.tmp 1) = .pointer (some ⟨q, 0, none⟩) := hk 1 (by decide)
         clear hk hd
         exact Yield.op (v := .pointer (some ⟨q, 4, none⟩)) (w' := wy) (by simp [execOp, go_sem, e1]) ⟨Ext.refl _, rfl⟩
       · intro ev wy hp hl hk hd
         have e34 : ev (.tmp 34) = .pointer (some ⟨q, 4, none⟩) := hk 34 (by decide)
         clear hk hd
         exact Yield.load rfl e34 (ldInt (HM.out.ext hl).at_.head.2.2.2.2.1) ⟨Ext.refl _, rfl⟩
       · intro ev wy hp hl hk hd
         have e35 : ev (.tmp 35) = .int .i64 m.shard := hk 35 (by decide)
         clear hk hd
         exact Yield.op (v := .bool (m.shard == 0)) (w' := wy) (by simp [execOp, go_sem, e35, hp.const]) ⟨Ext.refl _, rfl⟩
       · intro ev wy hp hl hk hd
         have e30 : ev (.tmp 30) = .func (.func 31) #[] #[.pointer (some ⟨c, 0, none⟩)] := hk 30 (by decide)
         have e33 : ev (.tmp 33) = .bool (decide (0 ≤ m.shard ∧ m.shard ≤ 7)) := hk 33 (by decide)
         have e36 : ev (.tmp 36) = .bool (m.shard == 0) := hk 36 (by decide)
         clear hk hd
         refine Yield.callf rfl e30 Tryz.func31 rfl (by kernel_rfl) ?_
         simp only [List.map_toArray, List.map_cons, List.map_nil, List.append_toArray, List.cons_append, List.nil_append, hp.const, e33, e36]
         exact (either_any _ _ _ _ c _ ((hl.cell (p := ⟨c, 0, none⟩) HCB.out).trans HC.out)).mono fun e w' ⟨he, hE⟩ => ⟨_, he, hE, by rw [HP1.out]⟩
       · intro ev wy hp hl hk hd
         have e37 : ev (.tmp 37) = .bool p1 := hk 37 (by decide)
         clear hk hd
         exact Yield.mv rfl ⟨Ext.refl _, e37⟩
       · intro ev wy hp hl hk hd
         obtain hgc | hgc := p1.eq_false_or_eq_true.symm
         · subst hgc; exact ⟨fun x hx he => (by rw [show x = .bool false from hx] at he; cases he), fun _ _ _ => rfl⟩
         subst hgc
         have e4 : ev (.tmp 4) = .func (.func 31) #[] #[.pointer (some ⟨c, 0, none⟩)] := hk 4 (by decide)
         clear hk
         refine ⟨fun _ _ _ => ?_, fun _ hx hne => absurd hx hne⟩
         clear hd
         exact Yield.mv rfl ⟨Ext.refl _, e4⟩
       · intro ev wy hp hl hk hd
         obtain hgc | hgc := p1.eq_false_or_eq_true.symm
         · subst hgc; exact ⟨fun x hx he => (by rw [show x = .bool false from hx] at he; cases he), fun _ _ _ => rfl⟩
         subst hgc
         have e1 : ev (.tmp 1) = .pointer (some ⟨q, 0, none⟩) := hk 1 (by decide)
         clear hk
         refine ⟨fun _ _ _ => ?_, fun _ hx hne => absurd hx hne⟩
         clear hd
         exact Yield.op (v := .pointer (some ⟨q, 5, none⟩)) (w' := wy) (by simp [execOp, go_sem, e1]) ⟨Ext.refl _, rfl⟩
       · intro ev wy hp hl hk hd
         obtain hgc | hgc := p1.eq_false_or_eq_true.symm
         · subst hgc; exact ⟨fun x hx he => (by rw [show x = .bool false from hx] at he; cases he), fun _ _ _ => rfl⟩
         subst hgc
         have e40 : ev (.tmp 40) = .pointer (some ⟨q, 5, none⟩) := hk 40 (by decide)
         clear hk
         refine ⟨fun _ _ _ => ?_, fun _ hx hne => absurd hx hne⟩
         clear hd
         exact Yield.load rfl e40 (ldInt (HM.out.ext hl).at_.head.2.2.2.2.2.1) ⟨Ext.refl _, rfl⟩
       · intro ev wy hp hl hk hd
         obtain hgc | hgc := p1.eq_false_or_eq_true.symm
         · subst hgc; exact ⟨fun x hx he => (by rw [show x = .bool false from hx] at he; cases he), fun _ _ _ => rfl⟩
         subst hgc
         have e41 : ev (.tmp 41) = .int .i64 m.number := hk 41 (by decide)
         clear hk
         refine ⟨fun _ _ _ => ?_, fun _ hx hne => absurd hx hne⟩
         clear hd
         refine Yield.call rfl hp Tryz.func28 rfl (by kernel_rfl) ?_
         simp only [List.map_toArray, List.map_cons, List.map_nil, hp.const, e41]
         exact ((isBetween7_ext _ _ _ _)).mono fun _ _ ⟨he, hb⟩ => ⟨_, he, hb, by first | rfl | simp⟩
       · intro ev wy hp hl hk hd
         obtain hgc | hgc := p1.eq_false_or_eq_true.symm
         · subst hgc; exact ⟨fun x hx he => (by rw [show x = .bool false from hx] at he; cases he), fun _ _ _ => rfl⟩
         subst hgc
         have e1 : ev (.tmp 1) = .pointer (some ⟨q, 0, none⟩) := hk 1 (by decide)
         clear hk
         refine ⟨fun _ _ _ => ?_, fun _ hx hne => absurd hx hne⟩
         clear hd
         exact Yield.op (v := .pointer (some ⟨q, 5, none⟩)) (w' := wy) (by simp [execOp, go_sem, e1]) ⟨Ext.refl _, rfl⟩
       · intro ev wy hp hl hk hd
         obtain hgc | hgc := p1.eq_false_or_eq_true.symm
         · subst hgc; exact ⟨fun x hx he => (by rw [show x = .bool false from hx] at he; cases he), fun _ _ _ => rfl⟩
         subst hgc
         have e43 : ev (.tmp 43) = .pointer (some ⟨q, 5, none⟩) := hk 43 (by decide)
         clear hk
         refine ⟨fun _ _ _ => ?_, fun _ hx hne => absurd hx hne⟩
         clear hd
         exact Yield.load rfl e43 (ldInt (HM.out.ext hl).at_.head.2.2.2.2.2.1) ⟨Ext.refl _, rfl⟩
       · intro ev wy hp hl hk hd
         obtain hgc | hgc := p1.eq_false_or_eq_true.symm
         · subst hgc; exact ⟨fun x hx he => (by rw [show x = .bool false from hx] at he; cases he), fun _ _ _ => rfl⟩
         subst hgc
         have e44 : ev (.tmp 44) = .int .i64 m.number := hk 44 (by decide)
         clear hk
         refine ⟨fun _ _ _ => ?_, fun _ hx hne => absurd hx hne⟩
         clear hd
         exact Yield.op (v := .bool (m.number == 0)) (w' := wy) (by simp [execOp, go_sem, e44, hp.const]) ⟨Ext.refl _, rfl⟩
       · intro ev wy hp hl hk hd
         obtain hgc | hgc := p1.eq_false_or_eq_true.symm
         · subst hgc; exact ⟨fun x hx he => (by rw [show x = .bool false from hx] at he; cases he), fun _ _ _ => rfl⟩
         subst hgc
         have e39 : ev (.tmp 39) = .func (.func 31) #[] #[.pointer (some ⟨c, 0, none⟩)] := hk 39 (by decide)
         have e42 : ev (.tmp 42) = .bool (decide (0 ≤ m.number ∧ m.number ≤ 1099511627776)) := hk 42 (by decide)
         have e45 : ev (.tmp 45) = .bool (m.number == 0) := hk 45 (by decide)
         clear hk
         refine ⟨fun _ _ _ => ?_, fun _ hx hne => absurd hx hne⟩
         clear hd
         refine Yield.callf rfl e39 Tryz.func31 rfl (by kernel_rfl) ?_
         simp only [List.map_toArray, List.map_cons, List.map_nil, List.append_toArray, List.cons_append, List.nil_append, hp.const, e42, e45]
         exact (either_any _ _ _ _ c _ ((hl.cell (p := ⟨c, 0, none⟩) HCB.out).trans HC.out)).mono fun e w' ⟨he, hE⟩ => ⟨_, he, hE, by rw [HC2.out]; rfl⟩
       · intro ev wy hp hl hk hd
         have e38 : ev (.tmp 38) = .bool p1 := hk 38 (by decide)
         have e46 : ev (.tmp 46) = gate p1 (.bool c2) := hk 46 (by decide)
         clear hk hd
         obtain hgc | hgc : p1 = false ∨ p1 = true := by cases p1 <;> simp
         · subst hgc; exact Yield.pick (t := false) rfl e38 ⟨Ext.refl _, by rw [HP2.out]; exact hp.const _⟩
         · subst hgc; exact Yield.pick (t := true) rfl e38 ⟨Ext.refl _, by rw [HP2.out]; exact e46⟩
       · intro ev wy hp hl hk hd
         have e47 : ev (.tmp 47) = .bool p2 := hk 47 (by decide)
         clear hk hd
         exact Yield.mv rfl ⟨Ext.refl _, e47⟩
       · intro ev wy hp hl hk hd
         obtain hgc | hgc := p2.eq_false_or_eq_true.symm
         · subst hgc; exact ⟨fun x hx he => (by rw [show x = .bool false from hx] at he; cases he), fun _ _ _ => rfl⟩
         subst hgc
         have e4 : ev (.tmp 4) = .func (.func 31) #[] #[.pointer (some ⟨c, 0, none⟩)] := hk 4 (by decide)
         clear hk
         refine ⟨fun _ _ _ => ?_, fun _ hx hne => absurd hx hne⟩
         clear hd
         exact Yield.mv rfl ⟨Ext.refl _, e4⟩
       · intro ev wy hp hl hk hd
         obtain hgc | hgc := p2.eq_false_or_eq_true.symm
         · subst hgc; exact ⟨fun x hx he => (by rw [show x = .bool false from hx] at he; cases he), fun _ _ _ => rfl⟩
         subst hgc
         have e1 : ev (.tmp 1) = .pointer (some ⟨q, 0, none⟩) := hk 1 (by decide)
         clear hk
         refine ⟨fun _ _ _ => ?_, fun _ hx hne => absurd hx hne⟩
         clear hd
         exact Yield.op (v := .pointer (some ⟨q, 11, none⟩)) (w' := wy) (by simp [execOp, go_sem, e1]) ⟨Ext.refl _, rfl⟩
       · intro ev wy hp hl hk hd
         obtain hgc | hgc := p2.eq_false_or_eq_true.symm
         · subst hgc; exact ⟨fun x hx he => (by rw [show x = .bool false from hx] at he; cases he), fun _ _ _ => rfl⟩
         subst hgc
         have e50 : ev (.tmp 50) = .pointer (some ⟨q, 11, none⟩) := hk 50 (by decide)
         clear hk
         refine ⟨fun _ _ _ => ?_, fun _ hx hne => absurd hx hne⟩
         clear hd
         exact Yield.load rfl e50 ((HM.out.ext hl).ldEnt _ (.inl rfl)) ⟨Ext.refl _, rfl⟩
       · intro ev wy hp hl hk hd
         obtain hgc | hgc := p2.eq_false_or_eq_true.symm
         · subst hgc; exact ⟨fun x hx he => (by rw [show x = .bool false from hx] at he; cases he), fun _ _ _ => rfl⟩
         subst hgc
         have e51 : ev (.tmp 51) = .agg #[.int .i64 m.ent.number, .int .i64 m.ent.kind, et, .int .i64 m.ent.tag, .int .i64 m.ent.term, .int .i64 m.ent.pos] := hk 51 (by decide)
         clear hk
         refine ⟨fun _ _ _ => ?_, fun _ hx hne => absurd hx hne⟩
         clear hd
         refine Yield.call rfl hp Tryz.func32 rfl (by kernel_rfl) ?_
         simp only [List.map_toArray, List.map_cons, List.map_nil, e51]
         exact ((right5_any _ m.ent _ (HM.out.ext hl).isEnt)).mono fun _ _ ⟨he, hb⟩ => ⟨_, he, hb, by first | rfl | simp⟩
       · intro ev wy hp hl hk hd
         obtain hgc | hgc := p2.eq_false_or_eq_true.symm
         · subst hgc; exact ⟨fun x hx he => (by rw [show x = .bool false from hx] at he; cases he), fun _ _ _ => rfl⟩
         subst hgc
         have e1 : ev (.tmp 1) = .pointer (some ⟨q, 0, none⟩) := hk 1 (by decide)
         clear hk
         refine ⟨fun _ _ _ => ?_, fun _ hx hne => absurd hx hne⟩
         clear hd
         exact Yield.op (v := .pointer (some ⟨q, 11, none⟩)) (w' := wy) (by simp [execOp, go_sem, e1]) ⟨Ext.refl _, rfl⟩
       · intro ev wy hp hl hk hd
         obtain hgc | hgc := p2.eq_false_or_eq_true.symm
         · subst hgc; exact ⟨fun x hx he => (by rw [show x = .bool false from hx] at he; cases he), fun _ _ _ => rfl⟩
         subst hgc
         have e53 : ev (.tmp 53) = .pointer (some ⟨q, 11, none⟩) := hk 53 (by decide)
         clear hk
         refine ⟨fun _ _ _ => ?_, fun _ hx hne => absurd hx hne⟩
         clear hd
         exact Yield.load rfl e53 ((HM.out.ext hl).ldEnt _ (.inl rfl)) ⟨Ext.refl _, rfl⟩
       · intro ev wy hp hl hk hd
         obtain hgc | hgc := p2.eq_false_or_eq_true.symm
         · subst hgc; exact ⟨fun x hx he => (by rw [show x = .bool false from hx] at he; cases he), fun _ _ _ => rfl⟩
         subst hgc
         clear hk
         refine ⟨fun _ _ _ => ?_, fun _ hx hne => absurd hx hne⟩
         clear hd
         exact Yield.op (v := .agg #[.int .i64 0, .int .i64 0, .slice none 0 0, .int .i64 0, .int .i64 0, .int .i64 0]) (w' := wy) (by simp [execOp, go_sem, build_ent0]) ⟨Ext.refl _, rfl⟩
       · intro ev wy hp hl hk hd
         obtain hgc | hgc := p2.eq_false_or_eq_true.symm
         · subst hgc; exact ⟨fun x hx he => (by rw [show x = .bool false from hx] at he; cases he), fun _ _ _ => rfl⟩
         subst hgc
         have e54 : ev (.tmp 54) = .agg #[.int .i64 m.ent.number, .int .i64 m.ent.kind, et, .int .i64 m.ent.tag, .int .i64 m.ent.term, .int .i64 m.ent.pos] := hk 54 (by decide)
         have e55 : ev (.tmp 55) = .agg #[.int .i64 0, .int .i64 0, .slice none 0 0, .int .i64 0, .int .i64 0, .int .i64 0] := hk 55 (by decide)
         clear hk
         refine ⟨fun _ _ _ => ?_, fun _ hx hne => absurd hx hne⟩
         clear hd
         refine Yield.call rfl hp Tryz.func33 rfl (by kernel_rfl) ?_
         simp only [List.map_toArray, List.map_cons, List.map_nil, e54, e55]
         exact ((same5_any _ _ m.ent Msg.ent0 _ (HM.out.ext hl).isEnt (isEnt0 _))).mono fun _ _ ⟨he, hb⟩ => ⟨_, he, hb, by first | rfl | simp⟩
       · intro ev wy hp hl hk hd
         obtain hgc | hgc := p2.eq_false_or_eq_true.symm
         · subst hgc; exact ⟨fun x hx he => (by rw [show x = .bool false from hx] at he; cases he), fun _ _ _ => rfl⟩
         subst hgc
         have e49 : ev (.tmp 49) = .func (.func 31) #[] #[.pointer (some ⟨c, 0, none⟩)] := hk 49 (by decide)
         have e52 : ev (.tmp 52) = .bool (Ent.right m.ent) := hk 52 (by decide)
         have e56 : ev (.tmp 56) = .bool (Ent.alike m.ent Msg.ent0) := hk 56 (by decide)
         clear hk
         refine ⟨fun _ _ _ => ?_, fun _ hx hne => absurd hx hne⟩
         clear hd
         refine Yield.callf rfl e49 Tryz.func31 rfl (by kernel_rfl) ?_
         simp only [List.map_toArray, List.map_cons, List.map_nil, List.append_toArray, List.cons_append, List.nil_append, hp.const, e52, e56]
         exact (either_any _ _ _ _ c _ ((hl.cell (p := ⟨c, 0, none⟩) HCB.out).trans HC.out)).mono fun e w' ⟨he, hE⟩ => ⟨_, he, hE, by rw [HC3.out]; rfl⟩
       · intro ev wy hp hl hk hd
         have e48 : ev (.tmp 48) = .bool p2 := hk 48 (by decide)
         have e57 : ev (.tmp 57) = gate p2 (.bool c3) := hk 57 (by decide)
         clear hk hd
         obtain hgc | hgc : p2 = false ∨ p2 = true := by cases p2 <;> simp
         · subst hgc; exact Yield.pick (t := false) rfl e48 ⟨Ext.refl _, by rw [HP3.out]; exact hp.const _⟩
         · subst hgc; exact Yield.pick (t := true) rfl e48 ⟨Ext.refl _, by rw [HP3.out]; exact e57⟩
       · intro ev wy hp hl hk hd
         have e58 : ev (.tmp 58) = .bool p3 := hk 58 (by decide)
         clear hk hd
         exact Yield.mv rfl ⟨Ext.refl _, e58⟩
       · intro ev wy hp hl hk hd
         obtain hgc | hgc := p3.eq_false_or_eq_true.symm
         · subst hgc; exact ⟨fun x hx he => (by rw [show x = .bool false from hx] at he; cases he), fun _ _ _ => rfl⟩
         subst hgc
         have e4 : ev (.tmp 4) = .func (.func 31) #[] #[.pointer (some ⟨c, 0, none⟩)] := hk 4 (by decide)
         clear hk
         refine ⟨fun _ _ _ => ?_, fun _ hx hne => absurd hx hne⟩
         clear hd
         exact Yield.mv rfl ⟨Ext.refl _, e4⟩
       · intro ev wy hp hl hk hd
         obtain hgc | hgc := p3.eq_false_or_eq_true.symm
         · subst hgc; exact ⟨fun x hx he => (by rw [show x = .bool false from hx] at he; cases he), fun _ _ _ => rfl⟩
         subst hgc
         have e1 : ev (.tmp 1) = .pointer (some ⟨q, 0, none⟩) := hk 1 (by decide)
         clear hk
         refine ⟨fun _ _ _ => ?_, fun _ hx hne => absurd hx hne⟩
         clear hd
         exact Yield.op (v := .pointer (some ⟨q, 17, none⟩)) (w' := wy) (by simp [execOp, go_sem, e1]) ⟨Ext.refl _, rfl⟩
       · intro ev wy hp hl hk hd
         obtain hgc | hgc := p3.eq_false_or_eq_true.symm
         · subst hgc; exact ⟨fun x hx he => (by rw [show x = .bool false from hx] at he; cases he), fun _ _ _ => rfl⟩
         subst hgc
         have e61 : ev (.tmp 61) = .pointer (some ⟨q, 17, none⟩) := hk 61 (by decide)
         clear hk
         refine ⟨fun _ _ _ => ?_, fun _ hx hne => absurd hx hne⟩
         clear hd
         exact Yield.load rfl e61 (ldInt (HM.out.ext hl).at_.votes.1) ⟨Ext.refl _, rfl⟩
       · intro ev wy hp hl hk hd
         obtain hgc | hgc := p3.eq_false_or_eq_true.symm
         · subst hgc; exact ⟨fun x hx he => (by rw [show x = .bool false from hx] at he; cases he), fun _ _ _ => rfl⟩
         subst hgc
         have e62 : ev (.tmp 62) = .int .i64 m.ballot := hk 62 (by decide)
         clear hk
         refine ⟨fun _ _ _ => ?_, fun _ hx hne => absurd hx hne⟩
         clear hd
         refine Yield.call rfl hp Tryz.func28 rfl (by kernel_rfl) ?_
         simp only [List.map_toArray, List.map_cons, List.map_nil, hp.const, e62]
         exact ((isBetween7_ext _ _ _ _)).mono fun _ _ ⟨he, hb⟩ => ⟨_, he, hb, by first | rfl | simp⟩
       · intro ev wy hp hl hk hd
         obtain hgc | hgc := p3.eq_false_or_eq_true.symm
         · subst hgc; exact ⟨fun x hx he => (by rw [show x = .bool false from hx] at he; cases he), fun _ _ _ => rfl⟩
         subst hgc
         have e1 : ev (.tmp 1) = .pointer (some ⟨q, 0, none⟩) := hk 1 (by decide)
         clear hk
         refine ⟨fun _ _ _ => ?_, fun _ hx hne => absurd hx hne⟩
         clear hd
         exact Yield.op (v := .pointer (some ⟨q, 17, none⟩)) (w' := wy) (by simp [execOp, go_sem, e1]) ⟨Ext.refl _, rfl⟩
       · intro ev wy hp hl hk hd
         obtain hgc | hgc := p3.eq_false_or_eq_true.symm
         · subst hgc; exact ⟨fun x hx he => (by rw [show x = .bool false from hx] at he; cases he), fun _ _ _ => rfl⟩
         subst hgc
         have e64 : ev (.tmp 64) = .pointer (some ⟨q, 17, none⟩) := hk 64 (by decide)
         clear hk
         refine ⟨fun _ _ _ => ?_, fun _ hx hne => absurd hx hne⟩
         clear hd
         exact Yield.load rfl e64 (ldInt (HM.out.ext hl).at_.votes.1) ⟨Ext.refl _, rfl⟩
       · intro ev wy hp hl hk hd
         obtain hgc | hgc := p3.eq_false_or_eq_true.symm
         · subst hgc; exact ⟨fun x hx he => (by rw [show x = .bool false from hx] at he; cases he), fun _ _ _ => rfl⟩
         subst hgc
         have e65 : ev (.tmp 65) = .int .i64 m.ballot := hk 65 (by decide)
         clear hk
         refine ⟨fun _ _ _ => ?_, fun _ hx hne => absurd hx hne⟩
         clear hd
         exact Yield.op (v := .bool (m.ballot == 0)) (w' := wy) (by simp [execOp, go_sem, e65, hp.const]) ⟨Ext.refl _, rfl⟩
       · intro ev wy hp hl hk hd
         obtain hgc | hgc := p3.eq_false_or_eq_true.symm
         · subst hgc; exact ⟨fun x hx he => (by rw [show x = .bool false from hx] at he; cases he), fun _ _ _ => rfl⟩
         subst hgc
         have e60 : ev (.tmp 60) = .func (.func 31) #[] #[.pointer (some ⟨c, 0, none⟩)] := hk 60 (by decide)
         have e63 : ev (.tmp 63) = .bool (decide (1 ≤ m.ballot ∧ m.ballot ≤ 1099511627776)) := hk 63 (by decide)
         have e66 : ev (.tmp 66) = .bool (m.ballot == 0) := hk 66 (by decide)
         clear hk
         refine ⟨fun _ _ _ => ?_, fun _ hx hne => absurd hx hne⟩
         clear hd
         refine Yield.callf rfl e60 Tryz.func31 rfl (by kernel_rfl) ?_
         simp only [List.map_toArray, List.map_cons, List.map_nil, List.append_toArray, List.cons_append, List.nil_append, hp.const, e63, e66]
         exact (either_any _ _ _ _ c _ ((hl.cell (p := ⟨c, 0, none⟩) HCB.out).trans HC.out)).mono fun e w' ⟨he, hE⟩ => ⟨_, he, hE, by rw [HC4.out]; rfl⟩
       · intro ev wy hp hl hk hd
         have e59 : ev (.tmp 59) = .bool p3 := hk 59 (by decide)
         have e67 : ev (.tmp 67) = gate p3 (.bool c4) := hk 67 (by decide)
         clear hk hd
         obtain hgc | hgc : p3 = false ∨ p3 = true := by cases p3 <;> simp
         · subst hgc; exact Yield.pick (t := false) rfl e59 ⟨Ext.refl _, by rw [HP4.out]; exact hp.const _⟩
         · subst hgc; exact Yield.pick (t := true) rfl e59 ⟨Ext.refl _, by rw [HP4.out]; exact e67⟩
       · intro ev wy hp hl hk hd
         have e68 : ev (.tmp 68) = .bool p4 := hk 68 (by decide)
         clear hk hd
         exact Yield.mv rfl ⟨Ext.refl _, e68⟩
       · intro ev wy hp hl hk hd
         obtain hgc | hgc := p4.eq_false_or_eq_true.symm
         · subst hgc; exact ⟨fun x hx he => (by rw [show x = .bool false from hx] at he; cases he), fun _ _ _ => rfl⟩
         subst hgc
         have e4 : ev (.tmp 4) = .func (.func 31) #[] #[.pointer (some ⟨c, 0, none⟩)] := hk 4 (by decide)
         clear hk
         refine ⟨fun _ _ _ => ?_, fun _ hx hne => absurd hx hne⟩
         clear hd
         exact Yield.mv rfl ⟨Ext.refl _, e4⟩
       · intro ev wy hp hl hk hd
         obtain hgc | hgc := p4.eq_false_or_eq_true.symm
         · subst hgc; exact ⟨fun x hx he => (by rw [show x = .bool false from hx] at he; cases he), fun _ _ _ => rfl⟩
         subst hgc
         have e1 : ev (.tmp 1) = .pointer (some ⟨q, 0, none⟩) := hk 1 (by decide)
         clear hk
         refine ⟨fun _ _ _ => ?_, fun _ hx hne => absurd hx hne⟩
         clear hd
         exact Yield.op (v := .pointer (some ⟨q, 18, none⟩)) (w' := wy) (by simp [execOp, go_sem, e1]) ⟨Ext.refl _, rfl⟩
       · intro ev wy hp hl hk hd
         obtain hgc | hgc := p4.eq_false_or_eq_true.symm
         · subst hgc; exact ⟨fun x hx he => (by rw [show x = .bool false from hx] at he; cases he), fun _ _ _ => rfl⟩
         subst hgc
         have e71 : ev (.tmp 71) = .pointer (some ⟨q, 18, none⟩) := hk 71 (by decide)
         clear hk
         refine ⟨fun _ _ _ => ?_, fun _ hx hne => absurd hx hne⟩
         clear hd
         exact Yield.load rfl e71 (ldInt (HM.out.ext hl).at_.votes.2) ⟨Ext.refl _, rfl⟩
       · intro ev wy hp hl hk hd
         obtain hgc | hgc := p4.eq_false_or_eq_true.symm
         · subst hgc; exact ⟨fun x hx he => (by rw [show x = .bool false from hx] at he; cases he), fun _ _ _ => rfl⟩
         subst hgc
         have e72 : ev (.tmp 72) = .int .i64 m.old := hk 72 (by decide)
         clear hk
         refine ⟨fun _ _ _ => ?_, fun _ hx hne => absurd hx hne⟩
         clear hd
         refine Yield.call rfl hp Tryz.func28 rfl (by kernel_rfl) ?_
         simp only [List.map_toArray, List.map_cons, List.map_nil, hp.const, e72]
         exact ((isBetween7_ext _ _ _ _)).mono fun _ _ ⟨he, hb⟩ => ⟨_, he, hb, by first | rfl | simp⟩
       · intro ev wy hp hl hk hd
         obtain hgc | hgc := p4.eq_false_or_eq_true.symm
         · subst hgc; exact ⟨fun x hx he => (by rw [show x = .bool false from hx] at he; cases he), fun _ _ _ => rfl⟩
         subst hgc
         have e1 : ev (.tmp 1) = .pointer (some ⟨q, 0, none⟩) := hk 1 (by decide)
         clear hk
         refine ⟨fun _ _ _ => ?_, fun _ hx hne => absurd hx hne⟩
         clear hd
         exact Yield.op (v := .pointer (some ⟨q, 18, none⟩)) (w' := wy) (by simp [execOp, go_sem, e1]) ⟨Ext.refl _, rfl⟩
       · intro ev wy hp hl hk hd
         obtain hgc | hgc := p4.eq_false_or_eq_true.symm
         · subst hgc; exact ⟨fun x hx he => (by rw [show x = .bool false from hx] at he; cases he), fun _ _ _ => rfl⟩
         subst hgc
         have e74 : ev (.tmp 74) = .pointer (some ⟨q, 18, none⟩) := hk 74 (by decide)
         clear hk
         refine ⟨fun _ _ _ => ?_, fun _ hx hne => absurd hx hne⟩
         clear hd
         exact Yield.load rfl e74 (ldInt (HM.out.ext hl).at_.votes.2) ⟨Ext.refl _, rfl⟩
       · intro ev wy hp hl hk hd
         obtain hgc | hgc := p4.eq_false_or_eq_true.symm
         · subst hgc; exact ⟨fun x hx he => (by rw [show x = .bool false from hx] at he; cases he), fun _ _ _ => rfl⟩
         subst hgc
         have e75 : ev (.tmp 75) = .int .i64 m.old := hk 75 (by decide)
         clear hk
         refine ⟨fun _ _ _ => ?_, fun _ hx hne => absurd hx hne⟩
         clear hd
         exact Yield.op (v := .bool (m.old == 0)) (w' := wy) (by simp [execOp, go_sem, e75, hp.const]) ⟨Ext.refl _, rfl⟩
       · intro ev wy hp hl hk hd
         obtain hgc | hgc := p4.eq_false_or_eq_true.symm
         · subst hgc; exact ⟨fun x hx he => (by rw [show x = .bool false from hx] at he; cases he), fun _ _ _ => rfl⟩
         subst hgc
         have e70 : ev (.tmp 70) = .func (.func 31) #[] #[.pointer (some ⟨c, 0, none⟩)] := hk 70 (by decide)
         have e73 : ev (.tmp 73) = .bool (decide (0 ≤ m.old ∧ m.old ≤ 1099511627776)) := hk 73 (by decide)
         have e76 : ev (.tmp 76) = .bool (m.old == 0) := hk 76 (by decide)
         clear hk
         refine ⟨fun _ _ _ => ?_, fun _ hx hne => absurd hx hne⟩
         clear hd
         refine Yield.callf rfl e70 Tryz.func31 rfl (by kernel_rfl) ?_
         simp only [List.map_toArray, List.map_cons, List.map_nil, List.append_toArray, List.cons_append, List.nil_append, hp.const, e73, e76]
         exact (either_any _ _ _ _ c _ ((hl.cell (p := ⟨c, 0, none⟩) HCB.out).trans HC.out)).mono fun e w' ⟨he, hE⟩ => ⟨_, he, hE, by rw [HC5.out]; rfl⟩
       · intro ev wy hp hl hk hd
         have e69 : ev (.tmp 69) = .bool p4 := hk 69 (by decide)
         have e77 : ev (.tmp 77) = gate p4 (.bool c5) := hk 77 (by decide)
         clear hk hd
         obtain hgc | hgc : p4 = false ∨ p4 = true := by cases p4 <;> simp
         · subst hgc; exact Yield.pick (t := false) rfl e69 ⟨Ext.refl _, by rw [HP5.out]; exact hp.const _⟩
         · subst hgc; exact Yield.pick (t := true) rfl e69 ⟨Ext.refl _, by rw [HP5.out]; exact e77⟩
       · intro ev wy hp hl hk hd
         have e78 : ev (.tmp 78) = .bool p5 := hk 78 (by decide)
         clear hk hd
         exact Yield.mv rfl ⟨Ext.refl _, e78⟩
       · intro ev wy hp hl hk hd
         obtain hgc | hgc := p5.eq_false_or_eq_true.symm
         · subst hgc; exact ⟨fun x hx he => (by rw [show x = .bool false from hx] at he; cases he), fun _ _ _ => rfl⟩
         subst hgc
         have e4 : ev (.tmp 4) = .func (.func 31) #[] #[.pointer (some ⟨c, 0, none⟩)] := hk 4 (by decide)
         clear hk
         refine ⟨fun _ _ _ => ?_, fun _ hx hne => absurd hx hne⟩
         clear hd
         exact Yield.mv rfl ⟨Ext.refl _, e4⟩
       · intro ev wy hp hl hk hd
         obtain hgc | hgc := p5.eq_false_or_eq_true.symm
         · subst hgc; exact ⟨fun x hx he => (by rw [show x = .bool false from hx] at he; cases he), fun _ _ _ => rfl⟩
         subst hgc
         have e1 : ev (.tmp 1) = .pointer (some ⟨q, 0, none⟩) := hk 1 (by decide)
         clear hk
         refine ⟨fun _ _ _ => ?_, fun _ hx hne => absurd hx hne⟩
         clear hd
         exact Yield.op (v := .pointer (some ⟨q, 6, none⟩)) (w' := wy) (by simp [execOp, go_sem, e1]) ⟨Ext.refl _, rfl⟩
       · intro ev wy hp hl hk hd
         obtain hgc | hgc := p5.eq_false_or_eq_true.symm
         · subst hgc; exact ⟨fun x hx he => (by rw [show x = .bool false from hx] at he; cases he), fun _ _ _ => rfl⟩
         subst hgc
         have e81 : ev (.tmp 81) = .pointer (some ⟨q, 6, none⟩) := hk 81 (by decide)
         clear hk
         refine ⟨fun _ _ _ => ?_, fun _ hx hne => absurd hx hne⟩
         clear hd
         exact Yield.load rfl e81 (ldBool (HM.out.ext hl).at_.head.2.2.2.2.2.2) ⟨Ext.refl _, rfl⟩
       · intro ev wy hp hl hk hd
         obtain hgc | hgc := p5.eq_false_or_eq_true.symm
         · subst hgc; exact ⟨fun x hx he => (by rw [show x = .bool false from hx] at he; cases he), fun _ _ _ => rfl⟩
         subst hgc
         have e82 : ev (.tmp 82) = .bool m.is := hk 82 (by decide)
         clear hk
         refine ⟨fun _ _ _ => ?_, fun _ hx hne => absurd hx hne⟩
         clear hd
         exact Yield.op (v := .bool (!m.is)) (w' := wy) (by simp [execOp, go_sem, e82]) ⟨Ext.refl _, rfl⟩
       · intro ev wy hp hl hk hd
         obtain hgc | hgc := p5.eq_false_or_eq_true.symm
         · subst hgc; exact ⟨fun x hx he => (by rw [show x = .bool false from hx] at he; cases he), fun _ _ _ => rfl⟩
         subst hgc
         have e80 : ev (.tmp 80) = .func (.func 31) #[] #[.pointer (some ⟨c, 0, none⟩)] := hk 80 (by decide)
         have e83 : ev (.tmp 83) = .bool (!m.is) := hk 83 (by decide)
         clear hk
         refine ⟨fun _ _ _ => ?_, fun _ hx hne => absurd hx hne⟩
         clear hd
         refine Yield.callf rfl e80 Tryz.func31 rfl (by kernel_rfl) ?_
         simp only [List.map_toArray, List.map_cons, List.map_nil, List.append_toArray, List.cons_append, List.nil_append, hp.const, e83]
         exact (either_any _ _ _ _ c _ ((hl.cell (p := ⟨c, 0, none⟩) HCB.out).trans HC.out)).mono fun e w' ⟨he, hE⟩ => ⟨_, he, hE, by rw [HC6.out]; rfl⟩
       · intro ev wy hp hl hk hd
         have e79 : ev (.tmp 79) = .bool p5 := hk 79 (by decide)
         have e84 : ev (.tmp 84) = gate p5 (.bool c6) := hk 84 (by decide)
         clear hk hd
         obtain hgc | hgc : p5 = false ∨ p5 = true := by cases p5 <;> simp
         · subst hgc; exact Yield.pick (t := false) rfl e79 ⟨Ext.refl _, by rw [HP6.out]; exact hp.const _⟩
         · subst hgc; exact Yield.pick (t := true) rfl e79 ⟨Ext.refl _, by rw [HP6.out]; exact e84⟩
       · intro ev wy hp hl hk hd
         have e85 : ev (.tmp 85) = .bool p6 := hk 85 (by decide)
         clear hk hd
         exact Yield.mv rfl ⟨Ext.refl _, e85⟩
       · intro ev wy hp hl hk hd
         obtain hgc | hgc := p6.eq_false_or_eq_true.symm
         · subst hgc; exact ⟨fun x hx he => (by rw [show x = .bool false from hx] at he; cases he), fun _ _ _ => rfl⟩
         subst hgc
         have e4 : ev (.tmp 4) = .func (.func 31) #[] #[.pointer (some ⟨c, 0, none⟩)] := hk 4 (by decide)
         clear hk
         refine ⟨fun _ _ _ => ?_, fun _ hx hne => absurd hx hne⟩
         clear hd
         exact Yield.mv rfl ⟨Ext.refl _, e4⟩
       · intro ev wy hp hl hk hd
         obtain hgc | hgc := p6.eq_false_or_eq_true.symm
         · subst hgc; exact ⟨fun x hx he => (by rw [show x = .bool false from hx] at he; cases he), fun _ _ _ => rfl⟩
         subst hgc
         have e1 : ev (.tmp 1) = .pointer (some ⟨q, 0, none⟩) := hk 1 (by decide)
         clear hk
         refine ⟨fun _ _ _ => ?_, fun _ hx hne => absurd hx hne⟩
         clear hd
         exact Yield.op (v := .pointer (some ⟨q, 7, none⟩)) (w' := wy) (by simp [execOp, go_sem, e1]) ⟨Ext.refl _, rfl⟩
       · intro ev wy hp hl hk hd
         obtain hgc | hgc := p6.eq_false_or_eq_true.symm
         · subst hgc; exact ⟨fun x hx he => (by rw [show x = .bool false from hx] at he; cases he), fun _ _ _ => rfl⟩
         subst hgc
         have e88 : ev (.tmp 88) = .pointer (some ⟨q, 7, none⟩) := hk 88 (by decide)
         clear hk
         refine ⟨fun _ _ _ => ?_, fun _ hx hne => absurd hx hne⟩
         clear hd
         exact Yield.load rfl e88 (HM.out.ext hl).ldRec ⟨Ext.refl _, rfl⟩
       · intro ev wy hp hl hk hd
         obtain hgc | hgc := p6.eq_false_or_eq_true.symm
         · subst hgc; exact ⟨fun x hx he => (by rw [show x = .bool false from hx] at he; cases he), fun _ _ _ => rfl⟩
         subst hgc
         have e89 : ev (.tmp 89) = .agg #[.int .i64 m.reco.client, .int .i64 m.reco.number, rt, .string ⟨m.reco.data.toArray⟩] := hk 89 (by decide)
         clear hk
         refine ⟨fun _ _ _ => ?_, fun _ hx hne => absurd hx hne⟩
         clear hd
         refine Yield.call rfl hp Tryz.func34 rfl (by kernel_rfl) ?_
         simp only [List.map_toArray, List.map_cons, List.map_nil, e89]
         exact ((right4_any _ m.reco _ (HM.out.ext hl).isRec)).mono fun _ _ ⟨he, hb⟩ => ⟨_, he, hb, by first | rfl | simp⟩
       · intro ev wy hp hl hk hd
         obtain hgc | hgc := p6.eq_false_or_eq_true.symm
         · subst hgc; exact ⟨fun x hx he => (by rw [show x = .bool false from hx] at he; cases he), fun _ _ _ => rfl⟩
         subst hgc
         have e1 : ev (.tmp 1) = .pointer (some ⟨q, 0, none⟩) := hk 1 (by decide)
         clear hk
         refine ⟨fun _ _ _ => ?_, fun _ hx hne => absurd hx hne⟩
         clear hd
         exact Yield.op (v := .pointer (some ⟨q, 7, none⟩)) (w' := wy) (by simp [execOp, go_sem, e1]) ⟨Ext.refl _, rfl⟩
       · intro ev wy hp hl hk hd
         obtain hgc | hgc := p6.eq_false_or_eq_true.symm
         · subst hgc; exact ⟨fun x hx he => (by rw [show x = .bool false from hx] at he; cases he), fun _ _ _ => rfl⟩
         subst hgc
         have e91 : ev (.tmp 91) = .pointer (some ⟨q, 7, none⟩) := hk 91 (by decide)
         clear hk
         refine ⟨fun _ _ _ => ?_, fun _ hx hne => absurd hx hne⟩
         clear hd
         exact Yield.load rfl e91 (HM.out.ext hl).ldRec ⟨Ext.refl _, rfl⟩
       · intro ev wy hp hl hk hd
         obtain hgc | hgc := p6.eq_false_or_eq_true.symm
         · subst hgc; exact ⟨fun x hx he => (by rw [show x = .bool false from hx] at he; cases he), fun _ _ _ => rfl⟩
         subst hgc
         clear hk
         refine ⟨fun _ _ _ => ?_, fun _ hx hne => absurd hx hne⟩
         clear hd
         exact Yield.op (v := .agg #[.int .i64 0, .int .i64 0, .slice none 0 0, .string ⟨#[]⟩]) (w' := wy) (by simp [execOp, go_sem, build_rec0]) ⟨Ext.refl _, rfl⟩
       · intro ev wy hp hl hk hd
         obtain hgc | hgc := p6.eq_false_or_eq_true.symm
         · subst hgc; exact ⟨fun x hx he => (by rw [show x = .bool false from hx] at he; cases he), fun _ _ _ => rfl⟩
         subst hgc
         have e92 : ev (.tmp 92) = .agg #[.int .i64 m.reco.client, .int .i64 m.reco.number, rt, .string ⟨m.reco.data.toArray⟩] := hk 92 (by decide)
         have e93 : ev (.tmp 93) = .agg #[.int .i64 0, .int .i64 0, .slice none 0 0, .string ⟨#[]⟩] := hk 93 (by decide)
         clear hk
         refine ⟨fun _ _ _ => ?_, fun _ hx hne => absurd hx hne⟩
         clear hd
         refine Yield.call rfl hp Tryz.func35 rfl (by kernel_rfl) ?_
         simp only [List.map_toArray, List.map_cons, List.map_nil, e92, e93]
         exact ((same4_any _ _ m.reco Msg.rec0 _ (HM.out.ext hl).isRec (isRec0 _))).mono fun _ _ ⟨he, hb⟩ => ⟨_, he, hb, by first | rfl | simp⟩
       · intro ev wy hp hl hk hd
         obtain hgc | hgc := p6.eq_false_or_eq_true.symm
         · subst hgc; exact ⟨fun x hx he => (by rw [show x = .bool false from hx] at he; cases he), fun _ _ _ => rfl⟩
         subst hgc
         have e87 : ev (.tmp 87) = .func (.func 31) #[] #[.pointer (some ⟨c, 0, none⟩)] := hk 87 (by decide)
         have e90 : ev (.tmp 90) = .bool (Rec.right m.reco) := hk 90 (by decide)
         have e94 : ev (.tmp 94) = .bool (Rec.same m.reco Msg.rec0) := hk 94 (by decide)
         clear hk
         refine ⟨fun _ _ _ => ?_, fun _ hx hne => absurd hx hne⟩
         clear hd
         refine Yield.callf rfl e87 Tryz.func31 rfl (by kernel_rfl) ?_
         simp only [List.map_toArray, List.map_cons, List.map_nil, List.append_toArray, List.cons_append, List.nil_append, hp.const, e90, e94]
         exact (either_any _ _ _ _ c _ ((hl.cell (p := ⟨c, 0, none⟩) HCB.out).trans HC.out)).mono fun e w' ⟨he, hE⟩ => ⟨_, he, hE, by rw [HC7.out]; rfl⟩
       · intro ev wy hp hl hk hd
         have e86 : ev (.tmp 86) = .bool p6 := hk 86 (by decide)
         have e95 : ev (.tmp 95) = gate p6 (.bool c7) := hk 95 (by decide)
         clear hk hd
         obtain hgc | hgc : p6 = false ∨ p6 = true := by cases p6 <;> simp
         · subst hgc; exact Yield.pick (t := false) rfl e86 ⟨Ext.refl _, by rw [HP7.out]; exact hp.const _⟩
         · subst hgc; exact Yield.pick (t := true) rfl e86 ⟨Ext.refl _, by rw [HP7.out]; exact e95⟩
       · intro ev wy hp hl hk hd
         have e96 : ev (.tmp 96) = .bool p7 := hk 96 (by decide)
         clear hk hd
         exact Yield.mv rfl ⟨Ext.refl _, e96⟩
       · intro ev wy hp hl hk hd
         obtain hgc | hgc := p7.eq_false_or_eq_true.symm
         · subst hgc; exact ⟨fun x hx he => (by rw [show x = .bool false from hx] at he; cases he), fun _ _ _ => rfl⟩
         subst hgc
         have e4 : ev (.tmp 4) = .func (.func 31) #[] #[.pointer (some ⟨c, 0, none⟩)] := hk 4 (by decide)
         clear hk
         refine ⟨fun _ _ _ => ?_, fun _ hx hne => absurd hx hne⟩
         clear hd
         exact Yield.mv rfl ⟨Ext.refl _, e4⟩
       · intro ev wy hp hl hk hd
         obtain hgc | hgc := p7.eq_false_or_eq_true.symm
         · subst hgc; exact ⟨fun x hx he => (by rw [show x = .bool false from hx] at he; cases he), fun _ _ _ => rfl⟩
         subst hgc
         have e1 : ev (.tmp 1) = .pointer (some ⟨q, 0, none⟩) := hk 1 (by decide)
         clear hk
         refine ⟨fun _ _ _ => ?_, fun _ hx hne => absurd hx hne⟩
         clear hd
         exact Yield.op (v := .pointer (some ⟨q, 19, none⟩)) (w' := wy) (by simp [execOp, go_sem, e1]) ⟨Ext.refl _, rfl⟩
       · intro ev wy hp hl hk hd
         obtain hgc | hgc := p7.eq_false_or_eq_true.symm
         · subst hgc; exact ⟨fun x hx he => (by rw [show x = .bool false from hx] at he; cases he), fun _ _ _ => rfl⟩
         subst hgc
         have e99 : ev (.tmp 99) = .pointer (some ⟨q, 19, none⟩) := hk 99 (by decide)
         clear hk
         refine ⟨fun _ _ _ => ?_, fun _ hx hne => absurd hx hne⟩
         clear hd
         exact Yield.load rfl e99 ((HM.out.ext hl).ldConf _ (.inl rfl)) ⟨Ext.refl _, rfl⟩
       · intro ev wy hp hl hk hd
         obtain hgc | hgc := p7.eq_false_or_eq_true.symm
         · subst hgc; exact ⟨fun x hx he => (by rw [show x = .bool false from hx] at he; cases he), fun _ _ _ => rfl⟩
         subst hgc
         have e100 : ev (.tmp 100) = .agg #[.int .i64 m.conf.term, sv, dv] := hk 100 (by decide)
         clear hk
         refine ⟨fun _ _ _ => ?_, fun _ hx hne => absurd hx hne⟩
         clear hd
         refine Yield.call rfl hp Tryz.func36 rfl (by kernel_rfl) ?_
         simp only [List.map_toArray, List.map_cons, List.map_nil, e100]
         exact ((HCR.out _ (HM.out.ext hl).isConf)).mono fun _ _ ⟨he, hb⟩ => ⟨_, he, hb, by first | rfl | simp⟩
       · intro ev wy hp hl hk hd
         obtain hgc | hgc := p7.eq_false_or_eq_true.symm
         · subst hgc; exact ⟨fun x hx he => (by rw [show x = .bool false from hx] at he; cases he), fun _ _ _ => rfl⟩
         subst hgc
         have e101 : ev (.tmp 101) = .bool cr := hk 101 (by decide)
         clear hk
         refine ⟨fun _ _ _ => ?_, fun _ hx hne => absurd hx hne⟩
         clear hd
         exact Yield.mv rfl ⟨Ext.refl _, e101⟩
       · intro ev wy hp hl hk hd
         obtain hgc | hgc := p7.eq_false_or_eq_true.symm
         · subst hgc; exact ⟨fun x hx he => (by rw [show x = undef from hx] at he; cases he), fun _ _ _ => rfl⟩
         subst hgc
         obtain hgc | hgc := cr.eq_false_or_eq_true.symm
         · subst hgc; exact ⟨fun x hx he => (by rw [show x = .bool false from hx] at he; cases he), fun _ _ _ => rfl⟩
         subst hgc
         have e1 : ev (.tmp 1) = .pointer (some ⟨q, 0, none⟩) := hk 1 (by decide)
         clear hk
         refine ⟨fun _ _ _ => ?_, fun _ hx hne => absurd hx hne⟩
         clear hd
         exact Yield.op (v := .pointer (some ⟨q, 19, none⟩)) (w' := wy) (by simp [execOp, go_sem, e1]) ⟨Ext.refl _, rfl⟩
       · intro ev wy hp hl hk hd
         obtain hgc | hgc := p7.eq_false_or_eq_true.symm
         · subst hgc; exact ⟨fun x hx he => (by rw [show x = undef from hx] at he; cases he), fun _ _ _ => rfl⟩
         subst hgc
         obtain hgc | hgc := cr.eq_false_or_eq_true.symm
         · subst hgc; exact ⟨fun x hx he => (by rw [show x = .bool false from hx] at he; cases he), fun _ _ _ => rfl⟩
         subst hgc
         have e103 : ev (.tmp 103) = .pointer (some ⟨q, 19, none⟩) := hk 103 (by decide)
         clear hk
         refine ⟨fun _ _ _ => ?_, fun _ hx hne => absurd hx hne⟩
         clear hd
         exact Yield.op (v := .pointer (some ⟨q, 19, none⟩)) (w' := wy) (by simp [execOp, go_sem, e103]) ⟨Ext.refl _, rfl⟩
       · intro ev wy hp hl hk hd
         obtain hgc | hgc := p7.eq_false_or_eq_true.symm
         · subst hgc; exact ⟨fun x hx he => (by rw [show x = undef from hx] at he; cases he), fun _ _ _ => rfl⟩
         subst hgc
         obtain hgc | hgc := cr.eq_false_or_eq_true.symm
         · subst hgc; exact ⟨fun x hx he => (by rw [show x = .bool false from hx] at he; cases he), fun _ _ _ => rfl⟩
         subst hgc
         have e104 : ev (.tmp 104) = .pointer (some ⟨q, 19, none⟩) := hk 104 (by decide)
         clear hk
         refine ⟨fun _ _ _ => ?_, fun _ hx hne => absurd hx hne⟩
         clear hd
         exact Yield.load rfl e104 (ldInt (HM.out.ext hl).at_.conf.1) ⟨Ext.refl _, rfl⟩
       · intro ev wy hp hl hk hd
         obtain hgc | hgc := p7.eq_false_or_eq_true.symm
         · subst hgc; exact ⟨fun x hx he => (by rw [show x = undef from hx] at he; cases he), fun _ _ _ => rfl⟩
         subst hgc
         obtain hgc | hgc := cr.eq_false_or_eq_true.symm
         · subst hgc; exact ⟨fun x hx he => (by rw [show x = .bool false from hx] at he; cases he), fun _ _ _ => rfl⟩
         subst hgc
         have e1 : ev (.tmp 1) = .pointer (some ⟨q, 0, none⟩) := hk 1 (by decide)
         clear hk
         refine ⟨fun _ _ _ => ?_, fun _ hx hne => absurd hx hne⟩
         clear hd
         exact Yield.op (v := .pointer (some ⟨q, 3, none⟩)) (w' := wy) (by simp [execOp, go_sem, e1]) ⟨Ext.refl _, rfl⟩
       · intro ev wy hp hl hk hd
         obtain hgc | hgc := p7.eq_false_or_eq_true.symm
         · subst hgc; exact ⟨fun x hx he => (by rw [show x = undef from hx] at he; cases he), fun _ _ _ => rfl⟩
         subst hgc
         obtain hgc | hgc := cr.eq_false_or_eq_true.symm
         · subst hgc; exact ⟨fun x hx he => (by rw [show x = .bool false from hx] at he; cases he), fun _ _ _ => rfl⟩
         subst hgc
         have e106 : ev (.tmp 106) = .pointer (some ⟨q, 3, none⟩) := hk 106 (by decide)
         clear hk
         refine ⟨fun _ _ _ => ?_, fun _ hx hne => absurd hx hne⟩
         clear hd
         exact Yield.load rfl e106 (ldInt (HM.out.ext hl).at_.head.2.2.2.1) ⟨Ext.refl _, rfl⟩
       · intro ev wy hp hl hk hd
         obtain hgc | hgc := p7.eq_false_or_eq_true.symm
         · subst hgc; exact ⟨fun x hx he => (by rw [show x = undef from hx] at he; cases he), fun _ _ _ => rfl⟩
         subst hgc
         obtain hgc | hgc := cr.eq_false_or_eq_true.symm
         · subst hgc; exact ⟨fun x hx he => (by rw [show x = .bool false from hx] at he; cases he), fun _ _ _ => rfl⟩
         subst hgc
         have e105 : ev (.tmp 105) = .int .i64 m.conf.term := hk 105 (by decide)
         have e107 : ev (.tmp 107) = .int .i64 m.term := hk 107 (by decide)
         clear hk
         refine ⟨fun _ _ _ => ?_, fun _ hx hne => absurd hx hne⟩
         clear hd
         exact Yield.op (v := .bool (m.conf.term == m.term)) (w' := wy) (by simp [execOp, go_sem, e105, e107]) ⟨Ext.refl _, rfl⟩
       · intro ev wy hp hl hk hd
         obtain hgc | hgc := p7.eq_false_or_eq_true.symm
         · subst hgc; exact ⟨fun x hx he => (by rw [show x = .bool false from hx] at he; cases he), fun _ _ _ => rfl⟩
         subst hgc
         have e102 : ev (.tmp 102) = .bool cr := hk 102 (by decide)
         have e108 : ev (.tmp 108) = gate cr (.bool (m.conf.term == m.term)) := hk 108 (by decide)
         clear hk
         refine ⟨fun _ _ _ => ?_, fun _ hx hne => absurd hx hne⟩
         clear hd
         obtain hgd | hgd : cr = false ∨ cr = true := by cases cr <;> simp
         · subst hgd; exact Yield.pick (t := false) rfl e102 ⟨Ext.refl _, by rw [HCW.out]; exact hp.const _⟩
         · subst hgd; exact Yield.pick (t := true) rfl e102 ⟨Ext.refl _, by rw [HCW.out]; exact e108⟩
       · intro ev wy hp hl hk hd
         obtain hgc | hgc := p7.eq_false_or_eq_true.symm
         · subst hgc; exact ⟨fun x hx he => (by rw [show x = .bool false from hx] at he; cases he), fun _ _ _ => rfl⟩
         subst hgc
         have e1 : ev (.tmp 1) = .pointer (some ⟨q, 0, none⟩) := hk 1 (by decide)
         clear hk
         refine ⟨fun _ _ _ => ?_, fun _ hx hne => absurd hx hne⟩
         clear hd
         exact Yield.op (v := .pointer (some ⟨q, 19, none⟩)) (w' := wy) (by simp [execOp, go_sem, e1]) ⟨Ext.refl _, rfl⟩
       · intro ev wy hp hl hk hd
         obtain hgc | hgc := p7.eq_false_or_eq_true.symm
         · subst hgc; exact ⟨fun x hx he => (by rw [show x = .bool false from hx] at he; cases he), fun _ _ _ => rfl⟩
         subst hgc
         have e110 : ev (.tmp 110) = .pointer (some ⟨q, 19, none⟩) := hk 110 (by decide)
         clear hk
         refine ⟨fun _ _ _ => ?_, fun _ hx hne => absurd hx hne⟩
         clear hd
         exact Yield.load rfl e110 ((HM.out.ext hl).ldConf _ (.inl rfl)) ⟨Ext.refl _, rfl⟩
       · intro ev wy hp hl hk hd
         obtain hgc | hgc := p7.eq_false_or_eq_true.symm
         · subst hgc; exact ⟨fun x hx he => (by rw [show x = .bool false from hx] at he; cases he), fun _ _ _ => rfl⟩
         subst hgc
         clear hk
         refine ⟨fun _ _ _ => ?_, fun _ hx hne => absurd hx hne⟩
         clear hd
         exact Yield.op (v := .agg #[.int .i64 0, .slice none 0 0, .slice none 0 0]) (w' := wy) (by simp [execOp, go_sem, build_conf0]) ⟨Ext.refl _, rfl⟩
       · intro ev wy hp hl hk hd
         obtain hgc | hgc := p7.eq_false_or_eq_true.symm
         · subst hgc; exact ⟨fun x hx he => (by rw [show x = .bool false from hx] at he; cases he), fun _ _ _ => rfl⟩
         subst hgc
         have e111 : ev (.tmp 111) = .agg #[.int .i64 m.conf.term, sv, dv] := hk 111 (by decide)
         have e112 : ev (.tmp 112) = .agg #[.int .i64 0, .slice none 0 0, .slice none 0 0] := hk 112 (by decide)
         clear hk
         refine ⟨fun _ _ _ => ?_, fun _ hx hne => absurd hx hne⟩
         clear hd
         refine Yield.call rfl hp Tryz.func37 rfl (by kernel_rfl) ?_
         simp only [List.map_toArray, List.map_cons, List.map_nil, e111, e112]
         exact ((same6_any _ _ m.conf Msg.conf0 _ (HM.out.ext hl).isConf (isConf0 _))).mono fun _ _ ⟨he, hb⟩ => ⟨_, he, hb, by first | rfl | simp⟩
       · intro ev wy hp hl hk hd
         obtain hgc | hgc := p7.eq_false_or_eq_true.symm
         · subst hgc; exact ⟨fun x hx he => (by rw [show x = .bool false from hx] at he; cases he), fun _ _ _ => rfl⟩
         subst hgc
         have e98 : ev (.tmp 98) = .func (.func 31) #[] #[.pointer (some ⟨c, 0, none⟩)] := hk 98 (by decide)
         have e109 : ev (.tmp 109) = .bool cw := hk 109 (by decide)
         have e113 : ev (.tmp 113) = .bool (Term.alike m.conf Msg.conf0) := hk 113 (by decide)
         clear hk
         refine ⟨fun _ _ _ => ?_, fun _ hx hne => absurd hx hne⟩
         clear hd
         refine Yield.callf rfl e98 Tryz.func31 rfl (by kernel_rfl) ?_
         simp only [List.map_toArray, List.map_cons, List.map_nil, List.append_toArray, List.cons_append, List.nil_append, hp.const, e109, e113]
         exact (either_any _ _ _ _ c _ ((hl.cell (p := ⟨c, 0, none⟩) HCB.out).trans HC.out)).mono fun e w' ⟨he, hE⟩ => ⟨_, he, hE, by rw [HC8.out]; rfl⟩
       · intro ev wy hp hl hk hd
         have e97 : ev (.tmp 97) = .bool p7 := hk 97 (by decide)
         have e114 : ev (.tmp 114) = gate p7 (.bool c8) := hk 114 (by decide)
         clear hk hd
         obtain hgc | hgc : p7 = false ∨ p7 = true := by cases p7 <;> simp
         · subst hgc; exact Yield.pick (t := false) rfl e97 ⟨Ext.refl _, by rw [HP8.out]; exact hp.const _⟩
         · subst hgc; exact Yield.pick (t := true) rfl e97 ⟨Ext.refl _, by rw [HP8.out]; exact e114⟩
       · intro ev wy hp hl hk hd
         have e115 : ev (.tmp 115) = .bool p8 := hk 115 (by decide)
         clear hk hd
         exact Yield.as rfl ⟨Ext.refl _, e115⟩
     · intro vals wz hz hv
       have g30 : vals 0 = .func (.func 31) #[] #[.pointer (some ⟨c, 0, none⟩)] := hv 0 (by decide)
       have g31 : vals 1 = .pointer (some ⟨q, 4, none⟩) := hv 1 (by decide)
       have g32 : vals 2 = .int .i64 m.shard := hv 2 (by decide)
       have g33 : vals 3 = .bool (decide (0 ≤ m.shard ∧ m.shard ≤ 7)) := hv 3 (by decide)
       have g34 : vals 4 = .pointer (some ⟨q, 4, none⟩) := hv 4 (by decide)
       have g35 : vals 5 = .int .i64 m.shard := hv 5 (by decide)
       have g36 : vals 6 = .bool (m.shard == 0) := hv 6 (by decide)
       have g37 : vals 7 = .bool p1 := hv 7 (by decide)
       have g38 : vals 8 = .bool p1 := hv 8 (by decide)
       have g39 : vals 9 = gate p1 (.func (.func 31) #[] #[.pointer (some ⟨c, 0, none⟩)]) := hv 9 (by decide)
       have g40 : vals 10 = gate p1 (.pointer (some ⟨q, 5, none⟩)) := hv 10 (by decide)
       have g41 : vals 11 = gate p1 (.int .i64 m.number) := hv 11 (by decide)
       have g42 : vals 12 = gate p1 (.bool (decide (0 ≤ m.number ∧ m.number ≤ 1099511627776))) := hv 12 (by decide)
       have g43 : vals 13 = gate p1 (.pointer (some ⟨q, 5, none⟩)) := hv 13 (by decide)
       have g44 : vals 14 = gate p1 (.int .i64 m.number) := hv 14 (by decide)
       have g45 : vals 15 = gate p1 (.bool (m.number == 0)) := hv 15 (by decide)
       have g46 : vals 16 = gate p1 (.bool c2) := hv 16 (by decide)
       have g47 : vals 17 = .bool p2 := hv 17 (by decide)
       have g48 : vals 18 = .bool p2 := hv 18 (by decide)
       have g49 : vals 19 = gate p2 (.func (.func 31) #[] #[.pointer (some ⟨c, 0, none⟩)]) := hv 19 (by decide)
       have g50 : vals 20 = gate p2 (.pointer (some ⟨q, 11, none⟩)) := hv 20 (by decide)
       have g51 : vals 21 = gate p2 (.agg #[.int .i64 m.ent.number, .int .i64 m.ent.kind, et, .int .i64 m.ent.tag, .int .i64 m.ent.term, .int .i64 m.ent.pos]) := hv 21 (by decide)
       have g52 : vals 22 = gate p2 (.bool (Ent.right m.ent)) := hv 22 (by decide)
       have g53 : vals 23 = gate p2 (.pointer (some ⟨q, 11, none⟩)) := hv 23 (by decide)
       have g54 : vals 24 = gate p2 (.agg #[.int .i64 m.ent.number, .int .i64 m.ent.kind, et, .int .i64 m.ent.tag, .int .i64 m.ent.term, .int .i64 m.ent.pos]) := hv 24 (by decide)
       have g55 : vals 25 = gate p2 (.agg #[.int .i64 0, .int .i64 0, .slice none 0 0, .int .i64 0, .int .i64 0, .int .i64 0]) := hv 25 (by decide)
       have g56 : vals 26 = gate p2 (.bool (Ent.alike m.ent Msg.ent0)) := hv 26 (by decide)
       have g57 : vals 27 = gate p2 (.bool c3) := hv 27 (by decide)
       have g58 : vals 28 = .bool p3 := hv 28 (by decide)
       have g59 : vals 29 = .bool p3 := hv 29 (by decide)
       have g60 : vals 30 = gate p3 (.func (.func 31) #[] #[.pointer (some ⟨c, 0, none⟩)]) := hv 30 (by decide)
       have g61 : vals 31 = gate p3 (.pointer (some ⟨q, 17, none⟩)) := hv 31 (by decide)
       have g62 : vals 32 = gate p3 (.int .i64 m.ballot) := hv 32 (by decide)
       have g63 : vals 33 = gate p3 (.bool (decide (1 ≤ m.ballot ∧ m.ballot ≤ 1099511627776))) := hv 33 (by decide)
       have g64 : vals 34 = gate p3 (.pointer (some ⟨q, 17, none⟩)) := hv 34 (by decide)
       have g65 : vals 35 = gate p3 (.int .i64 m.ballot) := hv 35 (by decide)
       have g66 : vals 36 = gate p3 (.bool (m.ballot == 0)) := hv 36 (by decide)
       have g67 : vals 37 = gate p3 (.bool c4) := hv 37 (by decide)
       have g68 : vals 38 = .bool p4 := hv 38 (by decide)
       have g69 : vals 39 = .bool p4 := hv 39 (by decide)
       have g70 : vals 40 = gate p4 (.func (.func 31) #[] #[.pointer (some ⟨c, 0, none⟩)]) := hv 40 (by decide)
       have g71 : vals 41 = gate p4 (.pointer (some ⟨q, 18, none⟩)) := hv 41 (by decide)
       have g72 : vals 42 = gate p4 (.int .i64 m.old) := hv 42 (by decide)
       have g73 : vals 43 = gate p4 (.bool (decide (0 ≤ m.old ∧ m.old ≤ 1099511627776))) := hv 43 (by decide)
       have g74 : vals 44 = gate p4 (.pointer (some ⟨q, 18, none⟩)) := hv 44 (by decide)
       have g75 : vals 45 = gate p4 (.int .i64 m.old) := hv 45 (by decide)
       have g76 : vals 46 = gate p4 (.bool (m.old == 0)) := hv 46 (by decide)
       have g77 : vals 47 = gate p4 (.bool c5) := hv 47 (by decide)
       have g78 : vals 48 = .bool p5 := hv 48 (by decide)
       have g79 : vals 49 = .bool p5 := hv 49 (by decide)
       have g80 : vals 50 = gate p5 (.func (.func 31) #[] #[.pointer (some ⟨c, 0, none⟩)]) := hv 50 (by decide)
       have g81 : vals 51 = gate p5 (.pointer (some ⟨q, 6, none⟩)) := hv 51 (by decide)
       have g82 : vals 52 = gate p5 (.bool m.is) := hv 52 (by decide)
       have g83 : vals 53 = gate p5 (.bool (!m.is)) := hv 53 (by decide)
       have g84 : vals 54 = gate p5 (.bool c6) := hv 54 (by decide)
       have g85 : vals 55 = .bool p6 := hv 55 (by decide)
       have g86 : vals 56 = .bool p6 := hv 56 (by decide)
       have g87 : vals 57 = gate p6 (.func (.func 31) #[] #[.pointer (some ⟨c, 0, none⟩)]) := hv 57 (by decide)
       have g88 : vals 58 = gate p6 (.pointer (some ⟨q, 7, none⟩)) := hv 58 (by decide)
       have g89 : vals 59 = gate p6 (.agg #[.int .i64 m.reco.client, .int .i64 m.reco.number, rt, .string ⟨m.reco.data.toArray⟩]) := hv 59 (by decide)
       have g90 : vals 60 = gate p6 (.bool (Rec.right m.reco)) := hv 60 (by decide)
       have g91 : vals 61 = gate p6 (.pointer (some ⟨q, 7, none⟩)) := hv 61 (by decide)
       have g92 : vals 62 = gate p6 (.agg #[.int .i64 m.reco.client, .int .i64 m.reco.number, rt, .string ⟨m.reco.data.toArray⟩]) := hv 62 (by decide)
       have g93 : vals 63 = gate p6 (.agg #[.int .i64 0, .int .i64 0, .slice none 0 0, .string ⟨#[]⟩]) := hv 63 (by decide)
       have g94 : vals 64 = gate p6 (.bool (Rec.same m.reco Msg.rec0)) := hv 64 (by decide)
       have g95 : vals 65 = gate p6 (.bool c7) := hv 65 (by decide)
       have g96 : vals 66 = .bool p7 := hv 66 (by decide)
       have g97 : vals 67 = .bool p7 := hv 67 (by decide)
       have g98 : vals 68 = gate p7 (.func (.func 31) #[] #[.pointer (some ⟨c, 0, none⟩)]) := hv 68 (by decide)
       have g99 : vals 69 = gate p7 (.pointer (some ⟨q, 19, none⟩)) := hv 69 (by decide)
       have g100 : vals 70 = gate p7 (.agg #[.int .i64 m.conf.term, sv, dv]) := hv 70 (by decide)
       have g101 : vals 71 = gate p7 (.bool cr) := hv 71 (by decide)
       have g102 : vals 72 = gate p7 (.bool cr) := hv 72 (by decide)
       have g103 : vals 73 = gate p7 (gate cr (.pointer (some ⟨q, 19, none⟩))) := hv 73 (by decide)
       have g104 : vals 74 = gate p7 (gate cr (.pointer (some ⟨q, 19, none⟩))) := hv 74 (by decide)
       have g105 : vals 75 = gate p7 (gate cr (.int .i64 m.conf.term)) := hv 75 (by decide)
       have g106 : vals 76 = gate p7 (gate cr (.pointer (some ⟨q, 3, none⟩))) := hv 76 (by decide)
       have g107 : vals 77 = gate p7 (gate cr (.int .i64 m.term)) := hv 77 (by decide)
       have g108 : vals 78 = gate p7 (gate cr (.bool (m.conf.term == m.term))) := hv 78 (by decide)
       have g109 : vals 79 = gate p7 (.bool cw) := hv 79 (by decide)
       have g110 : vals 80 = gate p7 (.pointer (some ⟨q, 19, none⟩)) := hv 80 (by decide)
       have g111 : vals 81 = gate p7 (.agg #[.int .i64 m.conf.term, sv, dv]) := hv 81 (by decide)
       have g112 : vals 82 = gate p7 (.agg #[.int .i64 0, .slice none 0 0, .slice none 0 0]) := hv 82 (by decide)
       have g113 : vals 83 = gate p7 (.bool (Term.alike m.conf Msg.conf0)) := hv 83 (by decide)
       have g114 : vals 84 = gate p7 (.bool c8) := hv 84 (by decide)
       have g115 : vals 85 = .bool p8 := hv 85 (by decide)
       have g2 : vals 86 = .bool p8 := hv 86 (by decide)
       clear hv
       simp only [List.append_eq, List.cons_append, List.nil_append]
       simp only [putAll, Act.put, List.setIfInBounds_toArray, List.set_cons_zero, List.set_cons_succ, g30, g31, g32, g33, g34, g35, g36, g37, g38, g39, g40, g41, g42, g43, g44, g45, g46, g47, g48, g49, g50, g51, g52, g53, g54, g55, g56, g57, g58, g59, g60, g61, g62, g63, g64, g65, g66, g67, g68, g69, g70, g71, g72, g73, g74, g75, g76, g77, g78, g79, g80, g81, g82, g83, g84, g85, g86, g87, g88, g89, g90, g91, g92, g93, g94, g95, g96, g97, g98, g99, g100, g101, g102, g103, g104, g105, g106, g107, g108, g109, g110, g111, g112, g113, g114, g115, g2]
       clear g30
       clear g31
       clear g32
       clear g33
       clear g34
       clear g35
       clear g36
       clear g37
       clear g38
       clear g39
       clear g40
       clear g41
       clear g42
       clear g43
       clear g44
       clear g45
       clear g46
       clear g47
       clear g48
       clear g49
       clear g50
       clear g51
       clear g52
       clear g53
       clear g54
       clear g55
       clear g56
       clear g57
       clear g58
       clear g59
       clear g60
       clear g61
       clear g62
       clear g63
       clear g64
       clear g65
       clear g66
       clear g67
       clear g68
       clear g69
       clear g70
       clear g71
       clear g72
       clear g73
       clear g74
       clear g75
       clear g76
       clear g77
       clear g78
       clear g79
       clear g80
       clear g81
       clear g82
       clear g83
       clear g84
       clear g85
       clear g86
       clear g87
       clear g88
       clear g89
       clear g90
       clear g91
       clear g92
       clear g93
       clear g94
       clear g95
       clear g96
       clear g97
       clear g98
       clear g99
       clear g100
       clear g101
       clear g102
       clear g103
       clear g104
       clear g105
       clear g106
       clear g107
       clear g108
       clear g109
       clear g110
       clear g111
       clear g112
       clear g113
       clear g114
       clear g115
       clear g2
       clear HP1 HP2 HP3 HP4 HP5 HP6 HP7 HP8 HC2 HC3 HC4 HC5 HC6 HC7 HC8 HCW HCR HC HCB HM
       go_wp2_with fail
       go_ret
       exact ⟨by rw [← HZ.out]; rfl, hE3.trans hz⟩
end Go.Proofs.YtldfpklgbedgjaaGreat
