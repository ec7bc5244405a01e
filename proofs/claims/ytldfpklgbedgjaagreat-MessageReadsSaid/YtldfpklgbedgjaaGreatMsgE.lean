/-
 Merged: Layer 7: are two messages one: the program's answer, and the document's.
-/
import Derived.Test.YtldfpklgbedgjaaGreatMsgC
namespace Go.Proofs.YtldfpklgbedgjaaGreat
set_option linter.unusedSimpArgs false
set_option linter.unusedVariables false
set_option maxRecDepth 100000
open Go.RowKit
set_option maxHeartbeats 32000000 in
theorem same7_any (v u : Value) (a b : Msg.M) (w : World) (hv : IsMsg w v a) (hu : IsMsg w u b) :
 Calls Tryz.prog 20 #[v, u] w fun e w' => e = .returned (.bool (Msg.alike a b)) ∧ Ext w w' := by
 have hbx := box_msg
 obtain ⟨xa0, xn0, xc0, xa1, xn1, xc1, xa2, xn2, xc2, xa3, xn3, xc3, rfl, h1, h2, h3, h4⟩ := hv.opened
 obtain ⟨ya0, yn0, yc0, ya1, yn1, yc1, ya2, yn2, yc2, ya3, yn3, yc3, rfl, g1, g2, g3, g4⟩ := hu.opened
 have hE1 := Ext.alloc w (.cells (msgCells a (.slice xa0 xn0 xc0) (.slice xa1 xn1 xc1) (.slice xa2 xn2 xc2) (.slice xa3 xn3 xc3)) 45)
 have hE2 := ext_two w (.cells (msgCells a (.slice xa0 xn0 xc0) (.slice xa1 xn1 xc1) (.slice xa2 xn2 xc2) (.slice xa3 xn3 xc3)) 45) (.cells (msgCells b (.slice ya0 yn0 yc0) (.slice ya1 yn1 yc1) (.slice ya2 yn2 yc2) (.slice ya3 yn3 yc3)) 45)
 have hsz : (w.alloc (.cells (msgCells a (.slice xa0 xn0 xc0) (.slice xa1 xn1 xc1) (.slice xa2 xn2 xc2) (.slice xa3 xn3 xc3)) 45)).heap.size = w.heap.size + 1 := World.size_alloc _ _
 have HMA := Lib.hid ((Msg7.new (m := a) 45 h1 h2 h3 h4).ext (Ext.alloc (w.alloc (.cells (msgCells a (.slice xa0 xn0 xc0) (.slice xa1 xn1 xc1) (.slice xa2 xn2 xc2) (.slice xa3 xn3 xc3)) 45)) (.cells (msgCells b (.slice ya0 yn0 yc0) (.slice ya1 yn1 yc1) (.slice ya2 yn2 yc2) (.slice ya3 yn3 yc3)) 45)))
 have hmb := Msg7.new (m := b) 45 (g1.below hE1) (g2.below hE1) (g3.below hE1) (g4.below hE1)
 rw [hsz] at hmb
 have HMB := Lib.hid hmb
 have HE := Lib.hid hE2
 clear h1 h2 h3 h4 g1 g2 g3 g4 hmb hsz hE1 hE2 hv hu
 obtain ⟨A0, A1, A2, A3, A4, A5, A6⟩ := HMA.out.at_.head
 obtain ⟨B0, B1, B2, B3, B4, B5, B6⟩ := HMB.out.at_.head
 cases hkind : (a.kind == b.kind) with
 | false =>
  have HR := Lib.hid (show Msg.alike a b = false by simp [Msg.alike, hkind])
  have Hkind := Lib.hid hkind
  go_enter Tryz.func20, Tryz.ntmps20
  go_wp2_with fail
  go_ret
  exact ⟨by rw [HR.out]; rfl, HE.out⟩
 | true =>
  have Hkind := Lib.hid hkind
  cases hsrc : (a.src == b.src) with
  | false =>
   have HR := Lib.hid (show Msg.alike a b = false by simp [Msg.alike, hsrc])
   have Hsrc := Lib.hid hsrc
   go_enter Tryz.func20, Tryz.ntmps20
   go_wp2_with fail
   go_ret
   exact ⟨by rw [HR.out]; rfl, HE.out⟩
  | true =>
   have Hsrc := Lib.hid hsrc
   cases hdst : (a.dst == b.dst) with
   | false =>
    have HR := Lib.hid (show Msg.alike a b = false by simp [Msg.alike, hdst])
    have Hdst := Lib.hid hdst
    go_enter Tryz.func20, Tryz.ntmps20
    go_wp2_with fail
    go_ret
    exact ⟨by rw [HR.out]; rfl, HE.out⟩
   | true =>
    have Hdst := Lib.hid hdst
    cases hterm : (a.term == b.term) with
    | false =>
     have HR := Lib.hid (show Msg.alike a b = false by simp [Msg.alike, hterm])
     have Hterm := Lib.hid hterm
     go_enter Tryz.func20, Tryz.ntmps20
     go_wp2_with fail
     go_ret
     exact ⟨by rw [HR.out]; rfl, HE.out⟩
    | true =>
     have Hterm := Lib.hid hterm
     cases hshard : (a.shard == b.shard) with
     | false =>
      have HR := Lib.hid (show Msg.alike a b = false by simp [Msg.alike, hshard])
      have Hshard := Lib.hid hshard
      go_enter Tryz.func20, Tryz.ntmps20
      go_wp2_with fail
      go_ret
      exact ⟨by rw [HR.out]; rfl, HE.out⟩
     | true =>
      have Hshard := Lib.hid hshard
      cases hnumber : (a.number == b.number) with
      | false =>
       have HR := Lib.hid (show Msg.alike a b = false by simp [Msg.alike, hnumber])
       have Hnumber := Lib.hid hnumber
       go_enter Tryz.func20, Tryz.ntmps20
       go_wp2_with fail
       go_ret
       exact ⟨by rw [HR.out]; rfl, HE.out⟩
      | true =>
       have Hnumber := Lib.hid hnumber
       cases his : (a.is == b.is) with
       | false =>
        have HR := Lib.hid (show Msg.alike a b = false by simp [Msg.alike, his])
        have His := Lib.hid his
        go_enter Tryz.func20, Tryz.ntmps20
        go_wp2_with fail
        go_ret
        exact ⟨by rw [HR.out]; rfl, HE.out⟩
       | true =>
        have His := Lib.hid his
        cases hreco : Rec.same a.reco b.reco with
        | false =>
         have HR := Lib.hid (show Msg.alike a b = false by simp [Msg.alike, hreco])
         have Hreco := Lib.hid hreco
         clear hreco
         obtain ⟨Preco00, Preco01, Preco02, Preco03⟩ := HMA.out.at_.reco
         obtain ⟨Qreco00, Qreco01, Qreco02, Qreco03⟩ := HMB.out.at_.reco
         go_enter Tryz.func20, Tryz.ntmps20
         go_wp2_with fail
         refine (same4_any _ _ a.reco b.reco _ HMA.out.isRec HMB.out.isRec).mono ?_
         rw [Hreco.out]
         rintro e w1 ⟨rfl, hF1⟩
         go_wp2_with fail
         go_ret
         exact ⟨by rw [HR.out]; rfl, (HE.out.trans hF1)⟩
        | true =>
         have Hreco := Lib.hid hreco
         clear hreco
         cases hent : Ent.alike a.ent b.ent with
         | false =>
          have HR := Lib.hid (show Msg.alike a b = false by simp [Msg.alike, hent])
          have Hent := Lib.hid hent
          clear hent
          obtain ⟨Preco00, Preco01, Preco02, Preco03⟩ := HMA.out.at_.reco
          obtain ⟨Qreco00, Qreco01, Qreco02, Qreco03⟩ := HMB.out.at_.reco
          go_enter Tryz.func20, Tryz.ntmps20
          go_wp2_with fail
          refine (same4_any _ _ a.reco b.reco _ HMA.out.isRec HMB.out.isRec).mono ?_
          rw [Hreco.out]
          rintro e w1 ⟨rfl, hF1⟩
          have HMA1 := Lib.hid (HMA.out.ext hF1)
          have HMB1 := Lib.hid (HMB.out.ext hF1)
          obtain ⟨Pent10, Pent11, Pent12, Pent13, Pent14, Pent15⟩ := (HMA1.out).at_.ent
          obtain ⟨Qent10, Qent11, Qent12, Qent13, Qent14, Qent15⟩ := (HMB1.out).at_.ent
          go_wp2_with fail
          refine (same5_any _ _ a.ent b.ent _ (HMA1.out).isEnt (HMB1.out).isEnt).mono ?_
          rw [Hent.out]
          rintro e w2 ⟨rfl, hF2⟩
          go_wp2_with fail
          go_ret
          exact ⟨by rw [HR.out]; rfl, ((HE.out.trans hF1).trans hF2)⟩
         | true =>
          have Hent := Lib.hid hent
          clear hent
          cases hballot : (a.ballot == b.ballot) with
          | false =>
           have HR := Lib.hid (show Msg.alike a b = false by simp [Msg.alike, hballot])
           have Hballot := Lib.hid hballot
           obtain ⟨Preco00, Preco01, Preco02, Preco03⟩ := HMA.out.at_.reco
           obtain ⟨Qreco00, Qreco01, Qreco02, Qreco03⟩ := HMB.out.at_.reco
           go_enter Tryz.func20, Tryz.ntmps20
           go_wp2_with fail
           refine (same4_any _ _ a.reco b.reco _ HMA.out.isRec HMB.out.isRec).mono ?_
           rw [Hreco.out]
           rintro e w1 ⟨rfl, hF1⟩
           have HMA1 := Lib.hid (HMA.out.ext hF1)
           have HMB1 := Lib.hid (HMB.out.ext hF1)
           obtain ⟨Pent10, Pent11, Pent12, Pent13, Pent14, Pent15⟩ := (HMA1.out).at_.ent
           obtain ⟨Qent10, Qent11, Qent12, Qent13, Qent14, Qent15⟩ := (HMB1.out).at_.ent
           go_wp2_with fail
           refine (same5_any _ _ a.ent b.ent _ (HMA1.out).isEnt (HMB1.out).isEnt).mono ?_
           rw [Hent.out]
           rintro e w2 ⟨rfl, hF2⟩
           have HMA2 := Lib.hid ((HMA1.out).ext hF2)
           have HMB2 := Lib.hid ((HMB1.out).ext hF2)
           obtain ⟨Pvotes20, Pvotes21⟩ := (HMA2.out).at_.votes
           obtain ⟨Qvotes20, Qvotes21⟩ := (HMB2.out).at_.votes
           go_wp2_with fail
           go_ret
           exact ⟨by rw [HR.out]; rfl, ((HE.out.trans hF1).trans hF2)⟩
          | true =>
           have Hballot := Lib.hid hballot
           cases hold : (a.old == b.old) with
           | false =>
            have HR := Lib.hid (show Msg.alike a b = false by simp [Msg.alike, hold])
            have Hold := Lib.hid hold
            obtain ⟨Preco00, Preco01, Preco02, Preco03⟩ := HMA.out.at_.reco
            obtain ⟨Qreco00, Qreco01, Qreco02, Qreco03⟩ := HMB.out.at_.reco
            go_enter Tryz.func20, Tryz.ntmps20
            go_wp2_with fail
            refine (same4_any _ _ a.reco b.reco _ HMA.out.isRec HMB.out.isRec).mono ?_
            rw [Hreco.out]
            rintro e w1 ⟨rfl, hF1⟩
            have HMA1 := Lib.hid (HMA.out.ext hF1)
            have HMB1 := Lib.hid (HMB.out.ext hF1)
            obtain ⟨Pent10, Pent11, Pent12, Pent13, Pent14, Pent15⟩ := (HMA1.out).at_.ent
            obtain ⟨Qent10, Qent11, Qent12, Qent13, Qent14, Qent15⟩ := (HMB1.out).at_.ent
            go_wp2_with fail
            refine (same5_any _ _ a.ent b.ent _ (HMA1.out).isEnt (HMB1.out).isEnt).mono ?_
            rw [Hent.out]
            rintro e w2 ⟨rfl, hF2⟩
            have HMA2 := Lib.hid ((HMA1.out).ext hF2)
            have HMB2 := Lib.hid ((HMB1.out).ext hF2)
            obtain ⟨Pvotes20, Pvotes21⟩ := (HMA2.out).at_.votes
            obtain ⟨Qvotes20, Qvotes21⟩ := (HMB2.out).at_.votes
            go_wp2_with fail
            go_ret
            exact ⟨by rw [HR.out]; rfl, ((HE.out.trans hF1).trans hF2)⟩
           | true =>
            have Hold := Lib.hid hold
            have HR := Lib.hid (show Msg.alike a b = Term.alike a.conf b.conf by simp [Msg.alike, Hkind.out, Hsrc.out, Hdst.out, Hterm.out, Hshard.out, Hnumber.out, His.out, Hreco.out, Hent.out, Hballot.out, Hold.out])
            obtain ⟨Preco00, Preco01, Preco02, Preco03⟩ := HMA.out.at_.reco
            obtain ⟨Qreco00, Qreco01, Qreco02, Qreco03⟩ := HMB.out.at_.reco
            go_enter Tryz.func20, Tryz.ntmps20
            go_wp2_with fail
            refine (same4_any _ _ a.reco b.reco _ HMA.out.isRec HMB.out.isRec).mono ?_
            rw [Hreco.out]
            rintro e w1 ⟨rfl, hF1⟩
            have HMA1 := Lib.hid (HMA.out.ext hF1)
            have HMB1 := Lib.hid (HMB.out.ext hF1)
            obtain ⟨Pent10, Pent11, Pent12, Pent13, Pent14, Pent15⟩ := (HMA1.out).at_.ent
            obtain ⟨Qent10, Qent11, Qent12, Qent13, Qent14, Qent15⟩ := (HMB1.out).at_.ent
            go_wp2_with fail
            refine (same5_any _ _ a.ent b.ent _ (HMA1.out).isEnt (HMB1.out).isEnt).mono ?_
            rw [Hent.out]
            rintro e w2 ⟨rfl, hF2⟩
            have HMA2 := Lib.hid ((HMA1.out).ext hF2)
            have HMB2 := Lib.hid ((HMB1.out).ext hF2)
            obtain ⟨Pvotes20, Pvotes21⟩ := (HMA2.out).at_.votes
            obtain ⟨Qvotes20, Qvotes21⟩ := (HMB2.out).at_.votes
            obtain ⟨Pconf20, Pconf21, Pconf22⟩ := (HMA2.out).at_.conf
            obtain ⟨Qconf20, Qconf21, Qconf22⟩ := (HMB2.out).at_.conf
            go_wp2_with fail
            refine (same6_any _ _ a.conf b.conf _ (HMA2.out).isConf (HMB2.out).isConf).mono ?_
            rintro e w3 ⟨rfl, hF3⟩
            go_wp2_with fail
            go_ret
            exact ⟨by rw [HR.out]; rfl, (((HE.out.trans hF1).trans hF2).trans hF3)⟩
end Go.Proofs.YtldfpklgbedgjaaGreat
