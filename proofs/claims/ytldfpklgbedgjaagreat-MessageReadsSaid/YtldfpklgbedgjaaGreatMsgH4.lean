/-
 Merged: Layer 7, the document: may a message be: its own way through the kinds.
-/
import Derived.Test.YtldfpklgbedgjaaGreatMsgH
namespace Go.Proofs.YtldfpklgbedgjaaGreat
set_option linter.unusedSimpArgs false
set_option linter.unusedVariables false
set_option maxRecDepth 100000
open Go.RowKit
set_option maxHeartbeats 64000000 in
theorem refRight7_10 (v : Value) (m : Msg.M) (w : World) (hv : IsMsg w v m) (hh : Msg.headOk m = true) (hk : m.kind = 10) : Calls Tryz.prog 15 #[v] w fun e w' => e = .returned (.bool (Msg.right m)) ∧ Ext w w' := by
 have hbx := box_msgR
 obtain ⟨a0, n0, k0, a1, n1, k1, a2, n2, k2, a3, n3, k3, rfl, h1, h2, h3, h4⟩ := hv.opened
 have HM := Lib.hid (Msg7.new (m := m) 35 h1 h2 h3 h4)
 have hE0 := Ext.alloc w (.cells (msgCells m (.slice a0 n0 k0) (.slice a1 n1 k1) (.slice a2 n2 k2) (.slice a3 n3 k3)) 35)
 clear h1 h2 h3 h4 hv
 obtain ⟨C0, C1, C2, C3, C4, C5, C6⟩ := HM.out.at_.head
 obtain ⟨V0, V1⟩ := HM.out.at_.votes
 obtain ⟨⟨g0, g1⟩, ⟨g2, g3⟩, ⟨g4, g5⟩, ⟨g6, g7⟩, g8, g9⟩ := Msg.head_ok hh
 have G0 : ¬ m.src < 0 := by omega
 have G1 : ¬ 15 < m.src := by omega
 have G2 : ¬ m.dst < 0 := by omega
 have G3 : ¬ 15 < m.dst := by omega
 have G4 : ¬ m.term < 1 := by omega
 have G5 : ¬ 64 < m.term := by omega
 have G6 : ¬ m.number < 0 := by omega
 have G7 : ¬ 1099511627776 < m.number := by omega
 have G8 : ¬ m.shard < 0 := by omega
 have G9 : ¬ 7 < m.shard := by omega
 clear g0 g1 g2 g3 g4 g5 g6 g7 g8 g9
 have HH := Lib.hid hh
 clear hh
 have HK := Lib.hid hk
 have HR := Lib.hid (rk10 hk HH.out)
 clear hk
 rw [HK.out] at C0
 go_enter Tryz.func15, Tryz.ntmps15
 go_wp2_with (refine ldMR (by rfl) _ rfl rfl HM.out ?_)
 refine (none7_any m.ballot _).mono ?_
 rintro e w2 ⟨rfl, hF2⟩
 have HM2 := Lib.hid (HM.out.ext hF2)
 clear C0 C1 C2 C3 C4 C5 C6 V0 V1
 obtain ⟨C0, C1, C2, C3, C4, C5, C6⟩ := HM2.out.at_.head
 obtain ⟨V0, V1⟩ := HM2.out.at_.votes
 rw [HK.out] at C0
 cases hb : (m.ballot == 0) with
 | false =>
  have HB := Lib.hid hb
  clear hb
  go_wp2_with (refine ldMR (by rfl) _ rfl rfl HM2.out ?_)
  refine (votes7_any _ m _ HM2.out.isMsg).mono ?_
  rintro e w3 ⟨rfl, hF3⟩
  have HM3 := Lib.hid (HM2.out.ext hF3)
  clear C0 C1 C2 C3 C4 C5 C6 V0 V1
  obtain ⟨C0, C1, C2, C3, C4, C5, C6⟩ := HM3.out.at_.head
  obtain ⟨V0, V1⟩ := HM3.out.at_.votes
  rw [HK.out] at C0
  cases hx : Msg.votes m with
  | false =>
   have HX3 := Lib.hid hx
   clear hx
   go_wp2_with (refine ldMR (by rfl) _ rfl rfl HM3.out ?_)
   go_ret
   exact ⟨by rw [HR.out, HX3.out]; rfl, ((hE0.trans hF2).trans hF3)⟩
  | true =>
   have HX3 := Lib.hid hx
   clear hx
   go_wp2_with (refine ldMR (by rfl) _ rfl rfl HM3.out ?_)
   refine (none7_any m.old _).mono ?_
   rintro e w4 ⟨rfl, hF4⟩
   have HM4 := Lib.hid (HM3.out.ext hF4)
   clear C0 C1 C2 C3 C4 C5 C6 V0 V1
   obtain ⟨C0, C1, C2, C3, C4, C5, C6⟩ := HM4.out.at_.head
   obtain ⟨V0, V1⟩ := HM4.out.at_.votes
   rw [HK.out] at C0
   cases hx : (m.old == 0) with
   | false =>
    have HX4 := Lib.hid hx
    clear hx
    go_wp2_with (refine ldMR (by rfl) _ rfl rfl HM4.out ?_)
    go_ret
    exact ⟨by rw [HR.out, HX3.out, HX4.out]; rfl, (((hE0.trans hF2).trans hF3).trans hF4)⟩
   | true =>
    have HX4 := Lib.hid hx
    clear hx
    go_wp2_with (refine ldMR (by rfl) _ rfl rfl HM4.out ?_)
    refine (plain7_fff _ m _ HM4.out.isMsg).mono ?_
    rintro e w5 ⟨rfl, hF5⟩
    have HM5 := Lib.hid (HM4.out.ext hF5)
    clear C0 C1 C2 C3 C4 C5 C6 V0 V1
    obtain ⟨C0, C1, C2, C3, C4, C5, C6⟩ := HM5.out.at_.head
    obtain ⟨V0, V1⟩ := HM5.out.at_.votes
    rw [HK.out] at C0
    go_wp2_with (refine ldMR (by rfl) _ rfl rfl HM5.out ?_)
    go_ret
    exact ⟨by rw [HR.out, HX3.out, HX4.out]; rfl, ((((hE0.trans hF2).trans hF3).trans hF4).trans hF5)⟩
 | true =>
  have HB := Lib.hid hb
  clear hb
  go_wp2_with (refine ldMR (by rfl) _ rfl rfl HM2.out ?_)
  refine (none7_any m.old _).mono ?_
  rintro e w3 ⟨rfl, hF3⟩
  have HM3 := Lib.hid (HM2.out.ext hF3)
  clear C0 C1 C2 C3 C4 C5 C6 V0 V1
  obtain ⟨C0, C1, C2, C3, C4, C5, C6⟩ := HM3.out.at_.head
  obtain ⟨V0, V1⟩ := HM3.out.at_.votes
  rw [HK.out] at C0
  have HV := Lib.hid (votes_no HB.out)
  go_wp2_with (refine ldMR (by rfl) _ rfl rfl HM3.out ?_)
  refine (votes7_any _ m _ HM3.out.isMsg).mono ?_
  rw [HV.out]
  rintro e w4 ⟨rfl, hF4⟩
  have HM4 := Lib.hid (HM3.out.ext hF4)
  clear C0 C1 C2 C3 C4 C5 C6 V0 V1
  obtain ⟨C0, C1, C2, C3, C4, C5, C6⟩ := HM4.out.at_.head
  obtain ⟨V0, V1⟩ := HM4.out.at_.votes
  rw [HK.out] at C0
  go_wp2_with (refine ldMR (by rfl) _ rfl rfl HM4.out ?_)
  go_ret
  exact ⟨by rw [HR.out, HV.out]; rfl, (((hE0.trans hF2).trans hF3).trans hF4)⟩
set_option maxHeartbeats 64000000 in
theorem refRight7_8a (v : Value) (m : Msg.M) (w : World) (hv : IsMsg w v m) (hh : Msg.headOk m = true) (hk : m.kind = 8) (o1 : m.old < 0) : Calls Tryz.prog 15 #[v] w fun e w' => e = .returned (.bool (Msg.right m)) ∧ Ext w w' := by
 have hbx := box_msgR
 obtain ⟨a0, n0, k0, a1, n1, k1, a2, n2, k2, a3, n3, k3, rfl, h1, h2, h3, h4⟩ := hv.opened
 have HM := Lib.hid (Msg7.new (m := m) 35 h1 h2 h3 h4)
 have hE0 := Ext.alloc w (.cells (msgCells m (.slice a0 n0 k0) (.slice a1 n1 k1) (.slice a2 n2 k2) (.slice a3 n3 k3)) 35)
 clear h1 h2 h3 h4 hv
 obtain ⟨C0, C1, C2, C3, C4, C5, C6⟩ := HM.out.at_.head
 obtain ⟨V0, V1⟩ := HM.out.at_.votes
 obtain ⟨⟨g0, g1⟩, ⟨g2, g3⟩, ⟨g4, g5⟩, ⟨g6, g7⟩, g8, g9⟩ := Msg.head_ok hh
 have G0 : ¬ m.src < 0 := by omega
 have G1 : ¬ 15 < m.src := by omega
 have G2 : ¬ m.dst < 0 := by omega
 have G3 : ¬ 15 < m.dst := by omega
 have G4 : ¬ m.term < 1 := by omega
 have G5 : ¬ 64 < m.term := by omega
 have G6 : ¬ m.number < 0 := by omega
 have G7 : ¬ 1099511627776 < m.number := by omega
 have G8 : ¬ m.shard < 0 := by omega
 have G9 : ¬ 7 < m.shard := by omega
 clear g0 g1 g2 g3 g4 g5 g6 g7 g8 g9
 have HH := Lib.hid hh
 clear hh
 have HK := Lib.hid hk
 have HR := Lib.hid (rk8bad hk HH.out (by omega))
 clear hk
 rw [HK.out] at C0
 go_enter Tryz.func15, Tryz.ntmps15
 go_wp2_with (refine ldMR (by rfl) _ rfl rfl HM.out ?_)
 refine (none7_any m.ballot _).mono ?_
 rintro e w2 ⟨rfl, hF2⟩
 have HM2 := Lib.hid (HM.out.ext hF2)
 clear C0 C1 C2 C3 C4 C5 C6 V0 V1
 obtain ⟨C0, C1, C2, C3, C4, C5, C6⟩ := HM2.out.at_.head
 obtain ⟨V0, V1⟩ := HM2.out.at_.votes
 rw [HK.out] at C0
 cases hb : (m.ballot == 0) with
 | false =>
  clear hb
  go_wp2_with (refine ldMR (by rfl) _ rfl rfl HM2.out ?_)
  refine (votes7_any _ m _ HM2.out.isMsg).mono ?_
  rintro e w4 ⟨rfl, hF4⟩
  have HM4 := Lib.hid (HM2.out.ext hF4)
  clear C0 C1 C2 C3 C4 C5 C6 V0 V1
  obtain ⟨C0, C1, C2, C3, C4, C5, C6⟩ := HM4.out.at_.head
  obtain ⟨V0, V1⟩ := HM4.out.at_.votes
  rw [HK.out] at C0
  cases hx : Msg.votes m with
  | false =>
   clear hx
   go_wp2_with (refine ldMR (by rfl) _ rfl rfl HM4.out ?_)
   go_ret
   exact ⟨by rw [HR.out]; rfl, ((hE0.trans hF2).trans hF4)⟩
  | true =>
   clear hx
   cases his : m.is with
   | true =>
    have HIS := Lib.hid his
    clear his
    rw [HIS.out] at C6
    go_wp2_with (refine ldMR (by rfl) _ rfl rfl HM4.out ?_)
    go_ret
    exact ⟨by rw [HR.out]; rfl, ((hE0.trans hF2).trans hF4)⟩
   | false =>
    have HIS := Lib.hid his
    clear his
    rw [HIS.out] at C6
    go_wp2_with (refine ldMR (by rfl) _ rfl rfl HM4.out ?_)
    go_ret
    exact ⟨by rw [HR.out]; rfl, ((hE0.trans hF2).trans hF4)⟩
 | true =>
  clear hb
  go_wp2_with (refine ldMR (by rfl) _ rfl rfl HM2.out ?_)
  refine (none7_any m.old _).mono ?_
  rintro e w3 ⟨rfl, hF3⟩
  have HM3 := Lib.hid (HM2.out.ext hF3)
  clear C0 C1 C2 C3 C4 C5 C6 V0 V1
  obtain ⟨C0, C1, C2, C3, C4, C5, C6⟩ := HM3.out.at_.head
  obtain ⟨V0, V1⟩ := HM3.out.at_.votes
  rw [HK.out] at C0
  go_wp2_with (refine ldMR (by rfl) _ rfl rfl HM3.out ?_)
  refine (votes7_any _ m _ HM3.out.isMsg).mono ?_
  rintro e w4 ⟨rfl, hF4⟩
  have HM4 := Lib.hid (HM3.out.ext hF4)
  clear C0 C1 C2 C3 C4 C5 C6 V0 V1
  obtain ⟨C0, C1, C2, C3, C4, C5, C6⟩ := HM4.out.at_.head
  obtain ⟨V0, V1⟩ := HM4.out.at_.votes
  rw [HK.out] at C0
  cases hx : Msg.votes m with
  | false =>
   clear hx
   go_wp2_with (refine ldMR (by rfl) _ rfl rfl HM4.out ?_)
   go_ret
   exact ⟨by rw [HR.out]; rfl, (((hE0.trans hF2).trans hF3).trans hF4)⟩
  | true =>
   clear hx
   cases his : m.is with
   | true =>
    have HIS := Lib.hid his
    clear his
    rw [HIS.out] at C6
    go_wp2_with (refine ldMR (by rfl) _ rfl rfl HM4.out ?_)
    go_ret
    exact ⟨by rw [HR.out]; rfl, (((hE0.trans hF2).trans hF3).trans hF4)⟩
   | false =>
    have HIS := Lib.hid his
    clear his
    rw [HIS.out] at C6
    go_wp2_with (refine ldMR (by rfl) _ rfl rfl HM4.out ?_)
    go_ret
    exact ⟨by rw [HR.out]; rfl, (((hE0.trans hF2).trans hF3).trans hF4)⟩
set_option maxHeartbeats 64000000 in
theorem refRight7_8b (v : Value) (m : Msg.M) (w : World) (hv : IsMsg w v m) (hh : Msg.headOk m = true) (hk : m.kind = 8) (o1 : ¬ m.old < 0) (o2 : 1099511627776 < m.old) : Calls Tryz.prog 15 #[v] w fun e w' => e = .returned (.bool (Msg.right m)) ∧ Ext w w' := by
 have hbx := box_msgR
 obtain ⟨a0, n0, k0, a1, n1, k1, a2, n2, k2, a3, n3, k3, rfl, h1, h2, h3, h4⟩ := hv.opened
 have HM := Lib.hid (Msg7.new (m := m) 35 h1 h2 h3 h4)
 have hE0 := Ext.alloc w (.cells (msgCells m (.slice a0 n0 k0) (.slice a1 n1 k1) (.slice a2 n2 k2) (.slice a3 n3 k3)) 35)
 clear h1 h2 h3 h4 hv
 obtain ⟨C0, C1, C2, C3, C4, C5, C6⟩ := HM.out.at_.head
 obtain ⟨V0, V1⟩ := HM.out.at_.votes
 obtain ⟨⟨g0, g1⟩, ⟨g2, g3⟩, ⟨g4, g5⟩, ⟨g6, g7⟩, g8, g9⟩ := Msg.head_ok hh
 have G0 : ¬ m.src < 0 := by omega
 have G1 : ¬ 15 < m.src := by omega
 have G2 : ¬ m.dst < 0 := by omega
 have G3 : ¬ 15 < m.dst := by omega
 have G4 : ¬ m.term < 1 := by omega
 have G5 : ¬ 64 < m.term := by omega
 have G6 : ¬ m.number < 0 := by omega
 have G7 : ¬ 1099511627776 < m.number := by omega
 have G8 : ¬ m.shard < 0 := by omega
 have G9 : ¬ 7 < m.shard := by omega
 clear g0 g1 g2 g3 g4 g5 g6 g7 g8 g9
 have HH := Lib.hid hh
 clear hh
 have HK := Lib.hid hk
 have HR := Lib.hid (rk8bad hk HH.out (by omega))
 clear hk
 rw [HK.out] at C0
 go_enter Tryz.func15, Tryz.ntmps15
 go_wp2_with (refine ldMR (by rfl) _ rfl rfl HM.out ?_)
 refine (none7_any m.ballot _).mono ?_
 rintro e w2 ⟨rfl, hF2⟩
 have HM2 := Lib.hid (HM.out.ext hF2)
 clear C0 C1 C2 C3 C4 C5 C6 V0 V1
 obtain ⟨C0, C1, C2, C3, C4, C5, C6⟩ := HM2.out.at_.head
 obtain ⟨V0, V1⟩ := HM2.out.at_.votes
 rw [HK.out] at C0
 cases hb : (m.ballot == 0) with
 | false =>
  clear hb
  go_wp2_with (refine ldMR (by rfl) _ rfl rfl HM2.out ?_)
  refine (votes7_any _ m _ HM2.out.isMsg).mono ?_
  rintro e w4 ⟨rfl, hF4⟩
  have HM4 := Lib.hid (HM2.out.ext hF4)
  clear C0 C1 C2 C3 C4 C5 C6 V0 V1
  obtain ⟨C0, C1, C2, C3, C4, C5, C6⟩ := HM4.out.at_.head
  obtain ⟨V0, V1⟩ := HM4.out.at_.votes
  rw [HK.out] at C0
  cases hx : Msg.votes m with
  | false =>
   clear hx
   go_wp2_with (refine ldMR (by rfl) _ rfl rfl HM4.out ?_)
   go_ret
   exact ⟨by rw [HR.out]; rfl, ((hE0.trans hF2).trans hF4)⟩
  | true =>
   clear hx
   cases his : m.is with
   | true =>
    have HIS := Lib.hid his
    clear his
    rw [HIS.out] at C6
    go_wp2_with (refine ldMR (by rfl) _ rfl rfl HM4.out ?_)
    go_ret
    exact ⟨by rw [HR.out]; rfl, ((hE0.trans hF2).trans hF4)⟩
   | false =>
    have HIS := Lib.hid his
    clear his
    rw [HIS.out] at C6
    go_wp2_with (refine ldMR (by rfl) _ rfl rfl HM4.out ?_)
    go_ret
    exact ⟨by rw [HR.out]; rfl, ((hE0.trans hF2).trans hF4)⟩
 | true =>
  clear hb
  go_wp2_with (refine ldMR (by rfl) _ rfl rfl HM2.out ?_)
  refine (none7_any m.old _).mono ?_
  rintro e w3 ⟨rfl, hF3⟩
  have HM3 := Lib.hid (HM2.out.ext hF3)
  clear C0 C1 C2 C3 C4 C5 C6 V0 V1
  obtain ⟨C0, C1, C2, C3, C4, C5, C6⟩ := HM3.out.at_.head
  obtain ⟨V0, V1⟩ := HM3.out.at_.votes
  rw [HK.out] at C0
  go_wp2_with (refine ldMR (by rfl) _ rfl rfl HM3.out ?_)
  refine (votes7_any _ m _ HM3.out.isMsg).mono ?_
  rintro e w4 ⟨rfl, hF4⟩
  have HM4 := Lib.hid (HM3.out.ext hF4)
  clear C0 C1 C2 C3 C4 C5 C6 V0 V1
  obtain ⟨C0, C1, C2, C3, C4, C5, C6⟩ := HM4.out.at_.head
  obtain ⟨V0, V1⟩ := HM4.out.at_.votes
  rw [HK.out] at C0
  cases hx : Msg.votes m with
  | false =>
   clear hx
   go_wp2_with (refine ldMR (by rfl) _ rfl rfl HM4.out ?_)
   go_ret
   exact ⟨by rw [HR.out]; rfl, (((hE0.trans hF2).trans hF3).trans hF4)⟩
  | true =>
   clear hx
   cases his : m.is with
   | true =>
    have HIS := Lib.hid his
    clear his
    rw [HIS.out] at C6
    go_wp2_with (refine ldMR (by rfl) _ rfl rfl HM4.out ?_)
    go_ret
    exact ⟨by rw [HR.out]; rfl, (((hE0.trans hF2).trans hF3).trans hF4)⟩
   | false =>
    have HIS := Lib.hid his
    clear his
    rw [HIS.out] at C6
    go_wp2_with (refine ldMR (by rfl) _ rfl rfl HM4.out ?_)
    go_ret
    exact ⟨by rw [HR.out]; rfl, (((hE0.trans hF2).trans hF3).trans hF4)⟩
set_option maxHeartbeats 64000000 in
theorem refRight7_none (v : Value) (m : Msg.M) (w : World) (hv : IsMsg w v m) (hh : Msg.headOk m = true) (hk : ¬ (1 ≤ m.kind ∧ m.kind ≤ 10)) : Calls Tryz.prog 15 #[v] w fun e w' => e = .returned (.bool (Msg.right m)) ∧ Ext w w' := by
 have hbx := box_msgR
 obtain ⟨a0, n0, k0, a1, n1, k1, a2, n2, k2, a3, n3, k3, rfl, h1, h2, h3, h4⟩ := hv.opened
 have HM := Lib.hid (Msg7.new (m := m) 35 h1 h2 h3 h4)
 have hE0 := Ext.alloc w (.cells (msgCells m (.slice a0 n0 k0) (.slice a1 n1 k1) (.slice a2 n2 k2) (.slice a3 n3 k3)) 35)
 clear h1 h2 h3 h4 hv
 obtain ⟨C0, C1, C2, C3, C4, C5, C6⟩ := HM.out.at_.head
 obtain ⟨V0, V1⟩ := HM.out.at_.votes
 obtain ⟨⟨g0, g1⟩, ⟨g2, g3⟩, ⟨g4, g5⟩, ⟨g6, g7⟩, g8, g9⟩ := Msg.head_ok hh
 have G0 : ¬ m.src < 0 := by omega
 have G1 : ¬ 15 < m.src := by omega
 have G2 : ¬ m.dst < 0 := by omega
 have G3 : ¬ 15 < m.dst := by omega
 have G4 : ¬ m.term < 1 := by omega
 have G5 : ¬ 64 < m.term := by omega
 have G6 : ¬ m.number < 0 := by omega
 have G7 : ¬ 1099511627776 < m.number := by omega
 have G8 : ¬ m.shard < 0 := by omega
 have G9 : ¬ 7 < m.shard := by omega
 clear g0 g1 g2 g3 g4 g5 g6 g7 g8 g9
 have HH := Lib.hid hh
 clear hh
 have HR := Lib.hid (kind_no hk)
 have z1 : (m.kind == 1) = false := by rw [beq_eq_false_iff_ne]; omega
 have z2 : (m.kind == 2) = false := by rw [beq_eq_false_iff_ne]; omega
 have z3 : (m.kind == 3) = false := by rw [beq_eq_false_iff_ne]; omega
 have z4 : (m.kind == 4) = false := by rw [beq_eq_false_iff_ne]; omega
 have z6 : (m.kind == 6) = false := by rw [beq_eq_false_iff_ne]; omega
 have z5 : (m.kind == 5) = false := by rw [beq_eq_false_iff_ne]; omega
 have z7 : (m.kind == 7) = false := by rw [beq_eq_false_iff_ne]; omega
 have z8 : (m.kind == 8) = false := by rw [beq_eq_false_iff_ne]; omega
 have z9 : (m.kind == 9) = false := by rw [beq_eq_false_iff_ne]; omega
 have z10 : (m.kind == 10) = false := by rw [beq_eq_false_iff_ne]; omega
 clear hk
 go_enter Tryz.func15, Tryz.ntmps15
 go_wp2_with fail
 refine (none7_any m.ballot _).mono ?_
 rintro e w2 ⟨rfl, hF2⟩
 have HM2 := Lib.hid (HM.out.ext hF2)
 clear C0 C1 C2 C3 C4 C5 C6 V0 V1
 obtain ⟨C0, C1, C2, C3, C4, C5, C6⟩ := HM2.out.at_.head
 obtain ⟨V0, V1⟩ := HM2.out.at_.votes
 cases hb : (m.ballot == 0) with
 | false =>
  clear hb
  go_wp2_with fail
  go_ret
  exact ⟨by rw [HR.out]; rfl, hE0.trans hF2⟩
 | true =>
  clear hb
  go_wp2_with fail
  refine (none7_any m.old _).mono ?_
  rintro e w3 ⟨rfl, hF3⟩
  have HM3 := Lib.hid (HM2.out.ext hF3)
  clear C0 C1 C2 C3 C4 C5 C6 V0 V1
  obtain ⟨C0, C1, C2, C3, C4, C5, C6⟩ := HM3.out.at_.head
  go_wp2_with fail
  go_ret
  exact ⟨by rw [HR.out]; rfl, (hE0.trans hF2).trans hF3⟩
end Go.Proofs.YtldfpklgbedgjaaGreat
