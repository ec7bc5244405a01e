/-
 Merged: Layer 7, the document: may a message be.
-/
import Derived.Test.YtldfpklgbedgjaaGreatBrEnt
import Derived.Test.YtldfpklgbedgjaaGreatBrTerm
import Derived.Test.YtldfpklgbedgjaaGreatMsgC
namespace Go.Proofs.YtldfpklgbedgjaaGreat
set_option linter.unusedSimpArgs false
set_option linter.unusedVariables false
set_option maxRecDepth 100000
open Go.RowKit
theorem build_entR7 (w : World) : (Instr.build 30 #[]).run Tryz.prog w = .ok (.agg #[.int .i64 0, .int .i64 0, .slice none 0 0, .int .i64 0, .int .i64 0, .int .i64 0]) w := by kernel_rfl
theorem build_confR7 (w : World) : (Instr.build 33 #[]).run Tryz.prog w = .ok (.agg #[.int .i64 0, .slice none 0 0, .slice none 0 0]) w := by kernel_rfl
theorem none7_any (n : Int) (w : World) : Calls Tryz.prog 38 #[.int .i64 n] w fun e w' => e = .returned (.bool (n == 0)) ∧ Ext w w' := by
 go_enter Tryz.func38, Tryz.ntmps38
 go_wp2_with fail
 go_ret
 exact ⟨rfl, Ext.refl _⟩
theorem votes_eq (m : Msg.M) : Msg.votes m = (decide (1 ≤ m.ballot) && (decide (m.ballot ≤ 1099511627776) && ((m.shard == 0) && (m.number == 0)))) := by
 rw [Bool.eq_iff_iff]
 simp only [Msg.votes, Bool.and_eq_true, decide_eq_true_eq, beq_iff_eq]
 grind
set_option maxHeartbeats 8000000 in
theorem votes7_any (v : Value) (m : Msg.M) (w : World) (hv : IsMsg w v m) : Calls Tryz.prog 42 #[v] w fun e w' => e = .returned (.bool (Msg.votes m)) ∧ Ext w w' := by
 rw [votes_eq]
 have hbx := box_msgR
 obtain ⟨a0, n0, k0, a1, n1, k1, a2, n2, k2, a3, n3, k3, rfl, h1, h2, h3, h4⟩ := hv.opened
 have HM := Lib.hid (Msg7.new (m := m) 35 h1 h2 h3 h4)
 have hE0 := Ext.alloc w (.cells (msgCells m (.slice a0 n0 k0) (.slice a1 n1 k1) (.slice a2 n2 k2) (.slice a3 n3 k3)) 35)
 clear h1 h2 h3 h4 hv
 obtain ⟨C0, C1, C2, C3, C4, C5, C6⟩ := HM.out.at_.head
 obtain ⟨V0, V1⟩ := HM.out.at_.votes
 by_cases b1 : 1 ≤ m.ballot
 case neg =>
  rw [decide_eq_false b1, Bool.false_and]
  go_enter Tryz.func42, Tryz.ntmps42
  go_wp2_with fail
  go_ret
  exact ⟨rfl, hE0⟩
 by_cases b2 : m.ballot ≤ 1099511627776
 case neg =>
  rw [decide_eq_true b1, decide_eq_false b2, Bool.false_and, Bool.true_and]
  go_enter Tryz.func42, Tryz.ntmps42
  go_wp2_with fail
  go_ret
  exact ⟨rfl, hE0⟩
 rw [decide_eq_true b1, decide_eq_true b2, Bool.true_and, Bool.true_and]
 go_enter Tryz.func42, Tryz.ntmps42
 go_wp2_with fail
 refine (none7_any m.shard _).mono ?_
 rintro e w2 ⟨rfl, hE2⟩
 cases hs : (m.shard == 0) with
 | false =>
  have HZ := Lib.hid hs
  clear hs
  go_wp2_with fail
  go_ret
  exact ⟨by rw [HZ.out]; rfl, hE0.trans hE2⟩
 | true =>
  have HZ := Lib.hid hs
  clear hs
  have C5' := ((HM.out.ext hE2).at_.head).2.2.2.2.2.1
  clear C0 C1 C2 C3 C4 C5 C6 V0 V1
  go_wp2_with fail
  refine (none7_any m.number _).mono ?_
  rintro e w3 ⟨rfl, hE3⟩
  go_wp2_with fail
  go_ret
  exact ⟨by rw [HZ.out]; rfl, hE0.trans (hE2.trans hE3)⟩
set_option maxHeartbeats 8000000 in
theorem with7_any (v : Value) (m : Msg.M) (w : World) (hv : IsMsg w v m) : Calls Tryz.prog 43 #[v] w fun e w' => e = .returned (.bool (Msg.withConf m)) ∧ Ext w w' := by
 have hw : Msg.withConf m = (Term.right m.conf && (m.conf.term == m.term)) := by unfold Msg.withConf; congr 1
 rw [hw]
 clear hw
 have hbx := box_msgR
 obtain ⟨a0, n0, k0, a1, n1, k1, a2, n2, k2, a3, n3, k3, rfl, h1, h2, h3, h4⟩ := hv.opened
 have HM := Lib.hid (Msg7.new (m := m) 35 h1 h2 h3 h4)
 have hE0 := Ext.alloc w (.cells (msgCells m (.slice a0 n0 k0) (.slice a1 n1 k1) (.slice a2 n2 k2) (.slice a3 n3 k3)) 35)
 clear h1 h2 h3 h4 hv
 obtain ⟨S0, S1, S2⟩ := HM.out.at_.conf
 go_enter Tryz.func43, Tryz.ntmps43
 go_wp2_with fail
 refine (refRight6_any _ m.conf _ HM.out.isConf).mono ?_
 rintro e w2 ⟨rfl, hE2⟩
 have S0' := (HM.out.ext hE2).at_.conf.1
 have S3' := (HM.out.ext hE2).at_.head.2.2.2.1
 clear S0 S1 S2
 cases hs : Term.right m.conf with
 | false =>
  have HZ := Lib.hid hs
  clear hs
  go_wp2_with fail
  go_ret
  exact ⟨by rw [HZ.out]; rfl, hE0.trans hE2⟩
 | true =>
  have HZ := Lib.hid hs
  clear hs
  go_wp2_with fail
  go_ret
  exact ⟨by rw [HZ.out]; rfl, hE0.trans hE2⟩
set_option maxHeartbeats 8000000 in
theorem plain7_tff (v : Value) (m : Msg.M) (w : World) (hv : IsMsg w v m) : Calls Tryz.prog 39 #[v, .bool true, .bool false, .bool false] w fun e w' => e = .returned (.bool (Msg.plain m true false false)) ∧ Ext w w' := by
 have hb0 := build_rec0
 have hb1 := build_entR7
 have hb2 := build_confR7
 have hw : Msg.plain m true false false = _ := rfl
 unfold Msg.plain at hw ⊢
 clear hw
 have hbx := box_msgR
 obtain ⟨a0, n0, k0, a1, n1, k1, a2, n2, k2, a3, n3, k3, rfl, h1, h2, h3, h4⟩ := hv.opened
 have HM := Lib.hid (Msg7.new (m := m) 35 h1 h2 h3 h4)
 have hE0 := Ext.alloc w (.cells (msgCells m (.slice a0 n0 k0) (.slice a1 n1 k1) (.slice a2 n2 k2) (.slice a3 n3 k3)) 35)
 clear h1 h2 h3 h4 hv
 obtain ⟨E00, E01, E02, E03, E04, E05⟩ := HM.out.at_.ent
 go_enter Tryz.func39, Tryz.ntmps39
 go_wp2_with fail
 refine (refSame5_any _ _ m.ent Msg.ent0 _ HM.out.isEnt (isEnt0 _)).mono ?_
 rintro e w2 ⟨rfl, hE2⟩
 cases hse : Ent.alike m.ent Msg.ent0 with
 | false =>
  have HZe := Lib.hid hse
  clear hse
  go_wp2_with fail
  go_ret
  exact ⟨by rw [HZe.out]; rfl, (hE0.trans hE2)⟩
 | true =>
  have HZe := Lib.hid hse
  clear hse
  have HM2 := Lib.hid (HM.out.ext hE2)
  obtain ⟨C20, C21, C22⟩ := HM2.out.at_.conf
  go_wp2_with fail
  refine (refSame6_any _ _ m.conf Msg.conf0 _ HM2.out.isConf (isConf0 _)).mono ?_
  rintro e w3 ⟨rfl, hE3⟩
  go_wp2_with fail
  go_ret
  exact ⟨by rw [HZe.out]; rfl, ((hE0.trans hE2).trans hE3)⟩
set_option maxHeartbeats 8000000 in
theorem plain7_fff (v : Value) (m : Msg.M) (w : World) (hv : IsMsg w v m) : Calls Tryz.prog 39 #[v, .bool false, .bool false, .bool false] w fun e w' => e = .returned (.bool (Msg.plain m false false false)) ∧ Ext w w' := by
 have hb0 := build_rec0
 have hb1 := build_entR7
 have hb2 := build_confR7
 have hw : Msg.plain m false false false = _ := rfl
 unfold Msg.plain at hw ⊢
 clear hw
 have hbx := box_msgR
 obtain ⟨a0, n0, k0, a1, n1, k1, a2, n2, k2, a3, n3, k3, rfl, h1, h2, h3, h4⟩ := hv.opened
 have HM := Lib.hid (Msg7.new (m := m) 35 h1 h2 h3 h4)
 have hE0 := Ext.alloc w (.cells (msgCells m (.slice a0 n0 k0) (.slice a1 n1 k1) (.slice a2 n2 k2) (.slice a3 n3 k3)) 35)
 clear h1 h2 h3 h4 hv
 obtain ⟨R00, R01, R02, R03⟩ := HM.out.at_.reco
 go_enter Tryz.func39, Tryz.ntmps39
 go_wp2_with fail
 refine (refSame4_any _ _ m.reco Msg.rec0 _ HM.out.isRec (isRec0 _)).mono ?_
 rintro e w2 ⟨rfl, hE2⟩
 cases hsr : Rec.same m.reco Msg.rec0 with
 | false =>
  have HZr := Lib.hid hsr
  clear hsr
  go_wp2_with fail
  go_ret
  exact ⟨by rw [HZr.out]; rfl, (hE0.trans hE2)⟩
 | true =>
  have HZr := Lib.hid hsr
  clear hsr
  have HM2 := Lib.hid (HM.out.ext hE2)
  obtain ⟨E20, E21, E22, E23, E24, E25⟩ := HM2.out.at_.ent
  go_wp2_with fail
  refine (refSame5_any _ _ m.ent Msg.ent0 _ HM2.out.isEnt (isEnt0 _)).mono ?_
  rintro e w3 ⟨rfl, hE3⟩
  cases hse : Ent.alike m.ent Msg.ent0 with
  | false =>
   have HZe := Lib.hid hse
   clear hse
   go_wp2_with fail
   go_ret
   exact ⟨by rw [HZr.out, HZe.out]; rfl, ((hE0.trans hE2).trans hE3)⟩
  | true =>
   have HZe := Lib.hid hse
   clear hse
   have HM3 := Lib.hid (HM2.out.ext hE3)
   obtain ⟨C30, C31, C32⟩ := HM3.out.at_.conf
   go_wp2_with fail
   refine (refSame6_any _ _ m.conf Msg.conf0 _ HM3.out.isConf (isConf0 _)).mono ?_
   rintro e w4 ⟨rfl, hE4⟩
   go_wp2_with fail
   go_ret
   exact ⟨by rw [HZr.out, HZe.out]; rfl, (((hE0.trans hE2).trans hE3).trans hE4)⟩
set_option maxHeartbeats 8000000 in
theorem plain7_ftf (v : Value) (m : Msg.M) (w : World) (hv : IsMsg w v m) : Calls Tryz.prog 39 #[v, .bool false, .bool true, .bool false] w fun e w' => e = .returned (.bool (Msg.plain m false true false)) ∧ Ext w w' := by
 have hb0 := build_rec0
 have hb1 := build_entR7
 have hb2 := build_confR7
 have hw : Msg.plain m false true false = _ := rfl
 unfold Msg.plain at hw ⊢
 clear hw
 have hbx := box_msgR
 obtain ⟨a0, n0, k0, a1, n1, k1, a2, n2, k2, a3, n3, k3, rfl, h1, h2, h3, h4⟩ := hv.opened
 have HM := Lib.hid (Msg7.new (m := m) 35 h1 h2 h3 h4)
 have hE0 := Ext.alloc w (.cells (msgCells m (.slice a0 n0 k0) (.slice a1 n1 k1) (.slice a2 n2 k2) (.slice a3 n3 k3)) 35)
 clear h1 h2 h3 h4 hv
 obtain ⟨R00, R01, R02, R03⟩ := HM.out.at_.reco
 go_enter Tryz.func39, Tryz.ntmps39
 go_wp2_with fail
 refine (refSame4_any _ _ m.reco Msg.rec0 _ HM.out.isRec (isRec0 _)).mono ?_
 rintro e w2 ⟨rfl, hE2⟩
 cases hsr : Rec.same m.reco Msg.rec0 with
 | false =>
  have HZr := Lib.hid hsr
  clear hsr
  go_wp2_with fail
  go_ret
  exact ⟨by rw [HZr.out]; rfl, (hE0.trans hE2)⟩
 | true =>
  have HZr := Lib.hid hsr
  clear hsr
  have HM2 := Lib.hid (HM.out.ext hE2)
  obtain ⟨C20, C21, C22⟩ := HM2.out.at_.conf
  go_wp2_with fail
  refine (refSame6_any _ _ m.conf Msg.conf0 _ HM2.out.isConf (isConf0 _)).mono ?_
  rintro e w3 ⟨rfl, hE3⟩
  go_wp2_with fail
  go_ret
  exact ⟨by rw [HZr.out]; rfl, ((hE0.trans hE2).trans hE3)⟩
set_option maxHeartbeats 8000000 in
theorem plain7_fft (v : Value) (m : Msg.M) (w : World) (hv : IsMsg w v m) : Calls Tryz.prog 39 #[v, .bool false, .bool false, .bool true] w fun e w' => e = .returned (.bool (Msg.plain m false false true)) ∧ Ext w w' := by
 have hb0 := build_rec0
 have hb1 := build_entR7
 have hb2 := build_confR7
 have hw : Msg.plain m false false true = _ := rfl
 unfold Msg.plain at hw ⊢
 clear hw
 have hbx := box_msgR
 obtain ⟨a0, n0, k0, a1, n1, k1, a2, n2, k2, a3, n3, k3, rfl, h1, h2, h3, h4⟩ := hv.opened
 have HM := Lib.hid (Msg7.new (m := m) 35 h1 h2 h3 h4)
 have hE0 := Ext.alloc w (.cells (msgCells m (.slice a0 n0 k0) (.slice a1 n1 k1) (.slice a2 n2 k2) (.slice a3 n3 k3)) 35)
 clear h1 h2 h3 h4 hv
 obtain ⟨R00, R01, R02, R03⟩ := HM.out.at_.reco
 go_enter Tryz.func39, Tryz.ntmps39
 go_wp2_with fail
 refine (refSame4_any _ _ m.reco Msg.rec0 _ HM.out.isRec (isRec0 _)).mono ?_
 rintro e w2 ⟨rfl, hE2⟩
 cases hsr : Rec.same m.reco Msg.rec0 with
 | false =>
  have HZr := Lib.hid hsr
  clear hsr
  go_wp2_with fail
  go_ret
  exact ⟨by rw [HZr.out]; rfl, (hE0.trans hE2)⟩
 | true =>
  have HZr := Lib.hid hsr
  clear hsr
  have HM2 := Lib.hid (HM.out.ext hE2)
  obtain ⟨E20, E21, E22, E23, E24, E25⟩ := HM2.out.at_.ent
  go_wp2_with fail
  refine (refSame5_any _ _ m.ent Msg.ent0 _ HM2.out.isEnt (isEnt0 _)).mono ?_
  rintro e w3 ⟨rfl, hE3⟩
  cases hse : Ent.alike m.ent Msg.ent0 with
  | false =>
   have HZe := Lib.hid hse
   clear hse
   go_wp2_with fail
   go_ret
   exact ⟨by rw [HZr.out, HZe.out]; rfl, ((hE0.trans hE2).trans hE3)⟩
  | true =>
   have HZe := Lib.hid hse
   clear hse
   have HM3 := Lib.hid (HM2.out.ext hE3)
   go_wp2_with fail
   go_ret
   exact ⟨by rw [HZr.out, HZe.out]; rfl, ((hE0.trans hE2).trans hE3)⟩
end Go.Proofs.YtldfpklgbedgjaaGreat
