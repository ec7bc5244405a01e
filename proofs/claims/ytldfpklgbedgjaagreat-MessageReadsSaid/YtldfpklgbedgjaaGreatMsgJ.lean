/-
 Merged: Layer 7, the document: a message as bytes.
-/
import Derived.Test.YtldfpklgbedgjaaGreatBrEnt
import Derived.Test.YtldfpklgbedgjaaGreatBrRec
import Derived.Test.YtldfpklgbedgjaaGreatBrTerm
import Derived.Test.YtldfpklgbedgjaaGreatMsgI
namespace Go.Proofs.YtldfpklgbedgjaaGreat
set_option linter.unusedSimpArgs false
set_option linter.unusedVariables false
set_option maxRecDepth 100000
open Go.RowKit
def GivesEnc7 (w : World) (m : Msg.M) (x : Ending) (w' : World) : Prop := ∃ u, x = .returned (.tuple #[u, .int .i64 (orErr 70 (Msg.right m))]) ∧ Bytes w' u (bytesOr (Msg.right m) (Msg.enc m)) ∧ Ext w w'
theorem numR7 (n : Int) (h : 0 ≤ n ∧ n ≤ 1099511627776) (w : World) : Calls Tryz.prog 25 #[.int .i64 n] w fun e w' => e = .returned (.string ⟨(Msg.num n).toArray⟩) ∧ Ext w w' := by
 have := numRef_any n w
 rw [oneNumOf (by omega)] at this
 exact this
theorem textR7 (l : List UInt8) (w : World) (hl : l.length ≤ 100000) : Calls Tryz.prog 75 #[.string ⟨l.toArray⟩] w fun e w' => e = .returned (.string ⟨(Msg.textOf l).toArray⟩) ∧ Ext w w' := textRef_any l w (by omega)
theorem boolR7 (is : Bool) (w : World) : Calls Tryz.prog 76 #[.bool is] w fun e w' => e = .returned (.string ⟨(Msg.boolOf is).toArray⟩) ∧ Ext w w' := by
 have := boolRef_any is w
 cases is <;> exact this
theorem addS7 {o : Oper} {ev : Operand → Value} {w : World} {R : Value → World → Prop} {a b : Operand} {x y : List UInt8} (ho : o.op = .binOp .add 9 a b 9) (ha : ev a = .string ⟨x.toArray⟩) (hb : ev b = .string ⟨y.toArray⟩) (hl : x.length + y.length ≤ 1000000) (h : R (.string ⟨(x ++ y).toArray⟩) w) : Yield Tryz.prog o ev w R := by
 refine Yield.op (w' := w) ?_ h
 have h1 := str_len x
 have h2 := str_len y
 simp [execOp, go_sem, ho, ha, hb]
 rw [if_neg (by omega), mk_append]
theorem num7_le {n : Int} (h : 0 ≤ n ∧ n ≤ 1099511627776) : (Msg.num n).length ≤ 9 := Msg.num_le h.2
theorem textOf7_le {l : List UInt8} (h : l.length ≤ 60000) : (Msg.textOf l).length ≤ 60009 := by have := Msg.textOf_le (l := l) (by omega); omega
set_option maxHeartbeats 64000000 in
theorem parts7_any (v : Value) (m : Msg.M) (w : World) (hv : IsMsg w v m) (hr : Msg.right m = true) : Calls Tryz.prog 26 #[v] w fun e w' => e = .returned (.string ⟨(Msg.parts m).toArray⟩) ∧ Ext w w' := by
 have hbx := box_msgR
 obtain ⟨a0, n0, k0, a1, n1, k1, a2, n2, k2, a3, n3, k3, rfl, h1, h2, h3, h4⟩ := hv.opened
 have HM0 := Lib.hid (Msg7.new (m := m) 35 h1 h2 h3 h4)
 have hE0 := Ext.alloc w (.cells (msgCells m (.slice a0 n0 k0) (.slice a1 n1 k1) (.slice a2 n2 k2) (.slice a3 n3 k3)) 35)
 clear h1 h2 h3 h4 hv
 obtain ⟨hh, hi⟩ := Msg.right_is hr
 obtain ⟨x1, x2, x3, x4, x5⟩ := Msg.head_ok hh
 clear hh hr
 obtain ⟨R0, R1, R2, R3⟩ := HM0.out.at_.reco
 go_enter Tryz.func26, Tryz.ntmps26
 go_wp2_with fail
 refine (refEncode4_any _ m.reco _ HM0.out.isRec).mono ?_
 rintro e w1 ⟨u4, rfl, hb4, hF1⟩
 have HM1 := Lib.hid (HM0.out.ext hF1)
 have HB4 := Lib.hid hb4
 clear R0 R1 R2 R3 hb4
 obtain ⟨R0, R1, R2, R3, R4, R5⟩ := HM1.out.at_.ent
 go_wp2_with fail
 refine (refEncode5_any _ m.ent _ HM1.out.isEnt).mono ?_
 rintro e w2 ⟨u5, rfl, hb5, hF2⟩
 have HM2 := Lib.hid (HM1.out.ext hF2)
 have HB5 := Lib.hid hb5
 clear R0 R1 R2 R3 R4 R5 hb5
 obtain ⟨R0, R1, R2⟩ := HM2.out.at_.conf
 go_wp2_with fail
 refine (refEncode6_any _ m.conf _ HM2.out.isConf).mono ?_
 rintro e w3 ⟨u6, rfl, hb6, hF3⟩
 have HM3 := Lib.hid (HM2.out.ext hF3)
 have HB6 := Lib.hid hb6
 clear R0 R1 R2 hb6
 have hE3 := ((hE0.trans hF1).trans hF2).trans hF3
 have HB4' := Lib.hid (HB4.out.below (hF2.trans hF3))
 have HB5' := Lib.hid (HB5.out.below hF3)
 clear hE0 hF1 hF2 hF3 HB4 HB5 HM0 HM1 HM2 hbx
 go_wp2_with fail
 have nS := num7_le (n := m.shard) (by omega)
 have nN := num7_le (n := m.number) (by omega)
 have XS := Lib.hid (show 0 ≤ m.shard ∧ m.shard ≤ 1099511627776 by omega)
 have XN := Lib.hid (show 0 ≤ m.number ∧ m.number ≤ 1099511627776 by omega)
 generalize hq : w.heap.size = q at *
 have HQ := Lib.hid hq
 clear hq
 refine wp_region_facts (by kernel_rfl) Ext (fun iop v w => match iop with
  | 0 => v = .pointer (some ⟨q, 4, none⟩)
  | 1 => v = .int .i64 m.shard
  | 2 => v = .string ⟨(Msg.num m.shard).toArray⟩
  | 3 => v = .pointer (some ⟨q, 5, none⟩)
  | 4 => v = .int .i64 m.number
  | 5 => v = .string ⟨(Msg.num m.number).toArray⟩
  | 6 => v = .string ⟨(Msg.num m.shard ++ Msg.num m.number).toArray⟩
  | _ => v = .string ⟨(Msg.num m.shard ++ Msg.num m.number).toArray⟩
  ) (by kernel_rfl) (fun _ _ _ h k => Ext.trans h k) (fun a => Ext.refl a) (Ext.drew _) ?_ ?_ ?_
 · intro iop v wa wb hF hL
   iterate 7 (rcases iop with _ | iop; exact hF)
   exact hF
 · refine Obls.cons ?_ (Obls.cons ?_ (Obls.cons ?_ (Obls.cons ?_ (Obls.cons ?_ (Obls.cons ?_ (Obls.cons ?_ (Obls.cons ?_ (Obls.nil))))))))
   · intro ev wy hp hl hk hd
     have e1 : ev (.tmp 1) = .pointer (some ⟨q, 0, none⟩) := hk 1 (by decide)
     clear hk hd
     exact Yield.op (v := .pointer (some ⟨q, 4, none⟩)) (w' := wy) (by simp [execOp, go_sem, e1]) ⟨Ext.refl _, rfl⟩
   · intro ev wy hp hl hk hd
     have e28 : ev (.tmp 28) = .pointer (some ⟨q, 4, none⟩) := hk 28 (by decide)
     clear hk hd
     exact Yield.load rfl e28 (ldInt (HM3.out.ext hl).at_.head.2.2.2.2.1) ⟨Ext.refl _, rfl⟩
   · intro ev wy hp hl hk hd
     have e29 : ev (.tmp 29) = .int .i64 m.shard := hk 29 (by decide)
     clear hk hd
     refine Yield.call rfl hp Tryz.func25 rfl (by kernel_rfl) ?_
     simp only [List.map_toArray, List.map_cons, List.map_nil, e29]
     exact ((numR7 m.shard XS.out wy)).mono fun _ _ ⟨he, hb⟩ => ⟨_, he, hb, by first | rfl | simp⟩
   · intro ev wy hp hl hk hd
     have e1 : ev (.tmp 1) = .pointer (some ⟨q, 0, none⟩) := hk 1 (by decide)
     clear hk hd
     exact Yield.op (v := .pointer (some ⟨q, 5, none⟩)) (w' := wy) (by simp [execOp, go_sem, e1]) ⟨Ext.refl _, rfl⟩
   · intro ev wy hp hl hk hd
     have e31 : ev (.tmp 31) = .pointer (some ⟨q, 5, none⟩) := hk 31 (by decide)
     clear hk hd
     exact Yield.load rfl e31 (ldInt (HM3.out.ext hl).at_.head.2.2.2.2.2.1) ⟨Ext.refl _, rfl⟩
   · intro ev wy hp hl hk hd
     have e32 : ev (.tmp 32) = .int .i64 m.number := hk 32 (by decide)
     clear hk hd
     refine Yield.call rfl hp Tryz.func25 rfl (by kernel_rfl) ?_
     simp only [List.map_toArray, List.map_cons, List.map_nil, e32]
     exact ((numR7 m.number XN.out wy)).mono fun _ _ ⟨he, hb⟩ => ⟨_, he, hb, by first | rfl | simp⟩
   · intro ev wy hp hl hk hd
     have e30 : ev (.tmp 30) = .string ⟨(Msg.num m.shard).toArray⟩ := hk 30 (by decide)
     have e33 : ev (.tmp 33) = .string ⟨(Msg.num m.number).toArray⟩ := hk 33 (by decide)
     clear hk hd
     exact addS7 rfl e30 e33 (by omega) ⟨Ext.refl _, rfl⟩
   · intro ev wy hp hl hk hd
     have e34 : ev (.tmp 34) = .string ⟨(Msg.num m.shard ++ Msg.num m.number).toArray⟩ := hk 34 (by decide)
     clear hk hd
     exact Yield.as rfl ⟨Ext.refl _, e34⟩
 · intro vals wz hz hv
   have g28 : vals 0 = .pointer (some ⟨q, 4, none⟩) := hv 0 (by decide)
   have g29 : vals 1 = .int .i64 m.shard := hv 1 (by decide)
   have g30 : vals 2 = .string ⟨(Msg.num m.shard).toArray⟩ := hv 2 (by decide)
   have g31 : vals 3 = .pointer (some ⟨q, 5, none⟩) := hv 3 (by decide)
   have g32 : vals 4 = .int .i64 m.number := hv 4 (by decide)
   have g33 : vals 5 = .string ⟨(Msg.num m.number).toArray⟩ := hv 5 (by decide)
   have g34 : vals 6 = .string ⟨(Msg.num m.shard ++ Msg.num m.number).toArray⟩ := hv 6 (by decide)
   have g9 : vals 7 = .string ⟨(Msg.num m.shard ++ Msg.num m.number).toArray⟩ := hv 7 (by decide)
   clear hv
   simp only [putAll, Act.put, List.setIfInBounds_toArray, List.set_cons_zero, List.set_cons_succ, g28, g29, g30, g31, g32, g33, g34, g9]
   clear g28
   clear g29
   clear g30
   clear g31
   clear g32
   clear g33
   clear g34
   clear g9
   obtain ⟨w4, hw4⟩ : ∃ w4, w4 = wz := ⟨_, rfl⟩
   rw [← hw4] at hz ⊢
   clear hw4
   have HM4 := Lib.hid (HM3.out.ext hz)
   have H4 := Lib.hid (HB4'.out.below hz)
   have H5 := Lib.hid (HB5'.out.below hz)
   have H6 := Lib.hid (HB6.out.below hz)
   have hE4 := hE3.trans hz
   clear hE3 hz HM3 HB4' HB5' HB6
   obtain ⟨P, hP⟩ : ∃ P, Msg.num m.shard ++ Msg.num m.number = P := ⟨_, rfl⟩
   have nP : P.length ≤ 18 := by rw [← hP, List.length_append]; omega
   rw [hP]
   have HP := Lib.hid hP
   clear hP nS nN XS
   have hsP := str_len P
   obtain ⟨C0, C1, C2, C3, C4, C5, C6⟩ := HM4.out.at_.head
   obtain ⟨V0, V1⟩ := HM4.out.at_.votes
   cases hi with
   | one k1 b o i r e c =>
    have HPT := Lib.hid (show Msg.parts m = P ++ Msg.textOf (Rec.enc m.reco) by unfold Msg.parts; rw [if_pos k1, ← HP.out]; simp)
    rw [k1] at C0
    have hx := H4.out
    rw [r] at hx
    have hle := Rec.enc_le r
    clear k1 b o i r e c
    have hx2 : Bytes w4 u4 (Rec.enc m.reco) := hx
    clear hx
    generalize Rec.enc m.reco = X at *
    have hcv := run_str (P := Tryz.prog) 38 9 5 Tryz.underlying38 Tryz.underlying5 Tryz.underlying9 hx2
    clear hx2
    have nT := textOf7_le (l := X) (by omega)
    have hadd := mk_append P (Msg.textOf X)
    have hsT := str_len (Msg.textOf X)
    generalize hT : Msg.textOf X = T at *
    go_wp2_with fail
    refine (textR7 X _ (by omega)).mono ?_
    rw [hT]
    rintro e w5 ⟨rfl, hF5⟩
    clear hcv C0 C1 C2 C3 C4 C5 C6 V0 V1
    go_wp2_with fail
    go_ret
    exact ⟨by rw [HPT.out]; rfl, hE4.trans hF5⟩
   | two k1 b o i r e c =>
    have HPT := Lib.hid (show Msg.parts m = P by unfold Msg.parts; rw [if_neg (by omega), if_pos k1, ← HP.out])
    rw [k1] at C0
    clear k1 b o i r e c
    go_wp2_with fail
    go_ret
    exact ⟨by rw [HPT.out]; rfl, hE4⟩
   | three k1 b o i s n r e c =>
    have HPT := Lib.hid (show Msg.parts m = Msg.textOf (Ent.enc m.ent) by unfold Msg.parts; rw [if_neg (by omega), if_neg (by omega), if_pos k1])
    rw [k1] at C0
    have hx := H5.out
    rw [e] at hx
    have hle := Ent.enc_le e
    clear k1 b o i s n r e c
    have hx2 : Bytes w4 u5 (Ent.enc m.ent) := hx
    clear hx
    generalize Ent.enc m.ent = X at *
    have hcv := run_str (P := Tryz.prog) 38 9 5 Tryz.underlying38 Tryz.underlying5 Tryz.underlying9 hx2
    clear hx2
    go_wp2_with fail
    refine (textR7 X _ (by omega)).mono ?_
    rintro e w5 ⟨rfl, hF5⟩
    clear hcv C0 C1 C2 C3 C4 C5 C6 V0 V1
    go_wp2_with fail
    go_ret
    exact ⟨by rw [HPT.out]; rfl, hE4.trans hF5⟩
   | four k1 b o s r e c =>
    have HPT := Lib.hid (show Msg.parts m = Msg.num m.number ++ Msg.boolOf m.is by unfold Msg.parts; rw [if_neg (by omega), if_neg (by omega), if_neg (by omega), if_pos k1])
    have nN := num7_le (n := m.number) (by omega)
    have nB := Msg.boolOf_le m.is
    have XX := XN
    clear b o s r e c
    rcases k1 with k1 | k1
    · rw [k1] at C0
      clear k1
      go_wp2_with fail
      refine wp_region_facts (by kernel_rfl) Ext (fun iop v w => match iop with
       | 0 => v = .pointer (some ⟨q, 5, none⟩)
       | 1 => v = .int .i64 m.number
       | 2 => v = .string ⟨(Msg.num m.number).toArray⟩
       | 3 => v = .pointer (some ⟨q, 6, none⟩)
       | 4 => v = .bool m.is
       | 5 => v = .string ⟨(Msg.boolOf m.is).toArray⟩
       | 6 => v = .string ⟨(Msg.num m.number ++ Msg.boolOf m.is).toArray⟩
       | _ => v = .string ⟨(Msg.num m.number ++ Msg.boolOf m.is).toArray⟩
       ) (by kernel_rfl) (fun _ _ _ h k => Ext.trans h k) (fun a => Ext.refl a) (Ext.drew _) ?_ ?_ ?_
      · intro iop v wa wb hF hL
        iterate 7 (rcases iop with _ | iop; exact hF)
        exact hF
      · refine Obls.cons ?_ (Obls.cons ?_ (Obls.cons ?_ (Obls.cons ?_ (Obls.cons ?_ (Obls.cons ?_ (Obls.cons ?_ (Obls.cons ?_ (Obls.nil))))))))
        · intro ev wy hp hl hk hd
          have e1 : ev (.tmp 1) = .pointer (some ⟨q, 0, none⟩) := hk 1 (by decide)
          clear hk hd
          exact Yield.op (v := .pointer (some ⟨q, 5, none⟩)) (w' := wy) (by simp [execOp, go_sem, e1]) ⟨Ext.refl _, rfl⟩
        · intro ev wy hp hl hk hd
          have e55 : ev (.tmp 55) = .pointer (some ⟨q, 5, none⟩) := hk 55 (by decide)
          clear hk hd
          exact Yield.load rfl e55 (ldInt (HM4.out.ext hl).at_.head.2.2.2.2.2.1) ⟨Ext.refl _, rfl⟩
        · intro ev wy hp hl hk hd
          have e56 : ev (.tmp 56) = .int .i64 m.number := hk 56 (by decide)
          clear hk hd
          refine Yield.call rfl hp Tryz.func25 rfl (by kernel_rfl) ?_
          simp only [List.map_toArray, List.map_cons, List.map_nil, e56]
          exact ((numR7 m.number XX.out wy)).mono fun _ _ ⟨he, hb⟩ => ⟨_, he, hb, by first | rfl | simp⟩
        · intro ev wy hp hl hk hd
          have e1 : ev (.tmp 1) = .pointer (some ⟨q, 0, none⟩) := hk 1 (by decide)
          clear hk hd
          exact Yield.op (v := .pointer (some ⟨q, 6, none⟩)) (w' := wy) (by simp [execOp, go_sem, e1]) ⟨Ext.refl _, rfl⟩
        · intro ev wy hp hl hk hd
          have e58 : ev (.tmp 58) = .pointer (some ⟨q, 6, none⟩) := hk 58 (by decide)
          clear hk hd
          exact Yield.load rfl e58 (ldBool (HM4.out.ext hl).at_.head.2.2.2.2.2.2) ⟨Ext.refl _, rfl⟩
        · intro ev wy hp hl hk hd
          have e59 : ev (.tmp 59) = .bool m.is := hk 59 (by decide)
          clear hk hd
          refine Yield.call rfl hp Tryz.func76 rfl (by kernel_rfl) ?_
          simp only [List.map_toArray, List.map_cons, List.map_nil, e59]
          exact ((boolR7 m.is wy)).mono fun _ _ ⟨he, hb⟩ => ⟨_, he, hb, by first | rfl | simp⟩
        · intro ev wy hp hl hk hd
          have e57 : ev (.tmp 57) = .string ⟨(Msg.num m.number).toArray⟩ := hk 57 (by decide)
          have e60 : ev (.tmp 60) = .string ⟨(Msg.boolOf m.is).toArray⟩ := hk 60 (by decide)
          clear hk hd
          exact addS7 rfl e57 e60 (by omega) ⟨Ext.refl _, rfl⟩
        · intro ev wy hp hl hk hd
          have e61 : ev (.tmp 61) = .string ⟨(Msg.num m.number ++ Msg.boolOf m.is).toArray⟩ := hk 61 (by decide)
          clear hk hd
          exact Yield.as rfl ⟨Ext.refl _, e61⟩
      · intro vals wz hz hv
        have g55 : vals 0 = .pointer (some ⟨q, 5, none⟩) := hv 0 (by decide)
        have g56 : vals 1 = .int .i64 m.number := hv 1 (by decide)
        have g57 : vals 2 = .string ⟨(Msg.num m.number).toArray⟩ := hv 2 (by decide)
        have g58 : vals 3 = .pointer (some ⟨q, 6, none⟩) := hv 3 (by decide)
        have g59 : vals 4 = .bool m.is := hv 4 (by decide)
        have g60 : vals 5 = .string ⟨(Msg.boolOf m.is).toArray⟩ := hv 5 (by decide)
        have g61 : vals 6 = .string ⟨(Msg.num m.number ++ Msg.boolOf m.is).toArray⟩ := hv 6 (by decide)
        have g2 : vals 7 = .string ⟨(Msg.num m.number ++ Msg.boolOf m.is).toArray⟩ := hv 7 (by decide)
        clear hv
        simp only [putAll, Act.put, List.setIfInBounds_toArray, List.set_cons_zero, List.set_cons_succ, g55, g56, g57, g58, g59, g60, g61, g2]
        clear g55
        clear g56
        clear g57
        clear g58
        clear g59
        clear g60
        clear g61
        clear g2
        go_wp2_with fail
        go_ret
        exact ⟨by rw [HPT.out]; rfl, hE4.trans hz⟩
    · rw [k1] at C0
      clear k1
      go_wp2_with fail
      refine wp_region_facts (by kernel_rfl) Ext (fun iop v w => match iop with
       | 0 => v = .pointer (some ⟨q, 5, none⟩)
       | 1 => v = .int .i64 m.number
       | 2 => v = .string ⟨(Msg.num m.number).toArray⟩
       | 3 => v = .pointer (some ⟨q, 6, none⟩)
       | 4 => v = .bool m.is
       | 5 => v = .string ⟨(Msg.boolOf m.is).toArray⟩
       | 6 => v = .string ⟨(Msg.num m.number ++ Msg.boolOf m.is).toArray⟩
       | _ => v = .string ⟨(Msg.num m.number ++ Msg.boolOf m.is).toArray⟩
       ) (by kernel_rfl) (fun _ _ _ h k => Ext.trans h k) (fun a => Ext.refl a) (Ext.drew _) ?_ ?_ ?_
      · intro iop v wa wb hF hL
        iterate 7 (rcases iop with _ | iop; exact hF)
        exact hF
      · refine Obls.cons ?_ (Obls.cons ?_ (Obls.cons ?_ (Obls.cons ?_ (Obls.cons ?_ (Obls.cons ?_ (Obls.cons ?_ (Obls.cons ?_ (Obls.nil))))))))
        · intro ev wy hp hl hk hd
          have e1 : ev (.tmp 1) = .pointer (some ⟨q, 0, none⟩) := hk 1 (by decide)
          clear hk hd
          exact Yield.op (v := .pointer (some ⟨q, 5, none⟩)) (w' := wy) (by simp [execOp, go_sem, e1]) ⟨Ext.refl _, rfl⟩
        · intro ev wy hp hl hk hd
          have e55 : ev (.tmp 55) = .pointer (some ⟨q, 5, none⟩) := hk 55 (by decide)
          clear hk hd
          exact Yield.load rfl e55 (ldInt (HM4.out.ext hl).at_.head.2.2.2.2.2.1) ⟨Ext.refl _, rfl⟩
        · intro ev wy hp hl hk hd
          have e56 : ev (.tmp 56) = .int .i64 m.number := hk 56 (by decide)
          clear hk hd
          refine Yield.call rfl hp Tryz.func25 rfl (by kernel_rfl) ?_
          simp only [List.map_toArray, List.map_cons, List.map_nil, e56]
          exact ((numR7 m.number XX.out wy)).mono fun _ _ ⟨he, hb⟩ => ⟨_, he, hb, by first | rfl | simp⟩
        · intro ev wy hp hl hk hd
          have e1 : ev (.tmp 1) = .pointer (some ⟨q, 0, none⟩) := hk 1 (by decide)
          clear hk hd
          exact Yield.op (v := .pointer (some ⟨q, 6, none⟩)) (w' := wy) (by simp [execOp, go_sem, e1]) ⟨Ext.refl _, rfl⟩
        · intro ev wy hp hl hk hd
          have e58 : ev (.tmp 58) = .pointer (some ⟨q, 6, none⟩) := hk 58 (by decide)
          clear hk hd
          exact Yield.load rfl e58 (ldBool (HM4.out.ext hl).at_.head.2.2.2.2.2.2) ⟨Ext.refl _, rfl⟩
        · intro ev wy hp hl hk hd
          have e59 : ev (.tmp 59) = .bool m.is := hk 59 (by decide)
          clear hk hd
          refine Yield.call rfl hp Tryz.func76 rfl (by kernel_rfl) ?_
          simp only [List.map_toArray, List.map_cons, List.map_nil, e59]
          exact ((boolR7 m.is wy)).mono fun _ _ ⟨he, hb⟩ => ⟨_, he, hb, by first | rfl | simp⟩
        · intro ev wy hp hl hk hd
          have e57 : ev (.tmp 57) = .string ⟨(Msg.num m.number).toArray⟩ := hk 57 (by decide)
          have e60 : ev (.tmp 60) = .string ⟨(Msg.boolOf m.is).toArray⟩ := hk 60 (by decide)
          clear hk hd
          exact addS7 rfl e57 e60 (by omega) ⟨Ext.refl _, rfl⟩
        · intro ev wy hp hl hk hd
          have e61 : ev (.tmp 61) = .string ⟨(Msg.num m.number ++ Msg.boolOf m.is).toArray⟩ := hk 61 (by decide)
          clear hk hd
          exact Yield.as rfl ⟨Ext.refl _, e61⟩
      · intro vals wz hz hv
        have g55 : vals 0 = .pointer (some ⟨q, 5, none⟩) := hv 0 (by decide)
        have g56 : vals 1 = .int .i64 m.number := hv 1 (by decide)
        have g57 : vals 2 = .string ⟨(Msg.num m.number).toArray⟩ := hv 2 (by decide)
        have g58 : vals 3 = .pointer (some ⟨q, 6, none⟩) := hv 3 (by decide)
        have g59 : vals 4 = .bool m.is := hv 4 (by decide)
        have g60 : vals 5 = .string ⟨(Msg.boolOf m.is).toArray⟩ := hv 5 (by decide)
        have g61 : vals 6 = .string ⟨(Msg.num m.number ++ Msg.boolOf m.is).toArray⟩ := hv 6 (by decide)
        have g2 : vals 7 = .string ⟨(Msg.num m.number ++ Msg.boolOf m.is).toArray⟩ := hv 7 (by decide)
        clear hv
        simp only [putAll, Act.put, List.setIfInBounds_toArray, List.set_cons_zero, List.set_cons_succ, g55, g56, g57, g58, g59, g60, g61, g2]
        clear g55
        clear g56
        clear g57
        clear g58
        clear g59
        clear g60
        clear g61
        clear g2
        go_wp2_with fail
        go_ret
        exact ⟨by rw [HPT.out]; rfl, hE4.trans hz⟩
   | five k1 b o i s n r e c =>
    have HPT := Lib.hid (show Msg.parts m = [] by unfold Msg.parts; rw [if_neg (by omega), if_neg (by omega), if_neg (by omega), if_neg (by omega), if_neg (by omega), if_neg (by omega), if_neg (by omega), if_neg (by omega)])
    rw [k1] at C0
    clear k1 b o i s n r e c
    go_wp2_with fail
    go_ret
    exact ⟨by rw [HPT.out]; rfl, hE4⟩
   | seven k1 b o i s n r e c =>
    have HPT := Lib.hid (show Msg.parts m = Msg.num m.ballot by unfold Msg.parts; rw [if_neg (by omega), if_neg (by omega), if_neg (by omega), if_neg (by omega), if_pos k1])
    have XX := Lib.hid (show 0 ≤ m.ballot ∧ m.ballot ≤ 1099511627776 by omega)
    rw [k1] at C0
    clear k1 b o i s n r e c
    go_wp2_with fail
    refine (numR7 m.ballot XX.out _).mono ?_
    rintro e w5 ⟨rfl, hF5⟩
    clear C0 C1 C2 C3 C4 C5 C6 V0 V1
    go_wp2_with fail
    go_ret
    exact ⟨by rw [HPT.out]; rfl, hE4.trans hF5⟩
   | eight0 k1 b o i s n r e c =>
    have HPT := Lib.hid (show Msg.parts m = Msg.num m.ballot ++ [0] by unfold Msg.parts; rw [if_neg (by omega), if_neg (by omega), if_neg (by omega), if_neg (by omega), if_neg (by omega), if_pos k1, if_pos o])
    have XX := Lib.hid (show 0 ≤ m.ballot ∧ m.ballot ≤ 1099511627776 by omega)
    have nB := num7_le XX.out
    rw [k1] at C0
    rw [o] at V1
    clear k1 b o i s n r e c
    go_wp2_with fail
    refine (numR7 m.ballot XX.out _).mono ?_
    generalize Msg.num m.ballot = X at *
    rintro e w5 ⟨rfl, hF5⟩
    have hadd := mk_append X [0]
    have hsX := str_len X
    have hsO : (ByteArray.mk #[(0 : UInt8)]).size = 1 := rfl
    clear C0 C1 C2 C3 C4 C5 C6 V0 V1
    go_wp2_with fail
    go_ret
    exact ⟨by rw [HPT.out]; rfl, hE4.trans hF5⟩
   | eight k1 b o i s n r e c t =>
    have HPT := Lib.hid (show Msg.parts m = (Msg.num m.ballot ++ Msg.num m.old) ++ Msg.textOf (Term.enc m.conf) by unfold Msg.parts; rw [if_neg (by omega), if_neg (by omega), if_neg (by omega), if_neg (by omega), if_neg (by omega), if_pos k1, if_neg (by omega)]; simp)
    have XX := Lib.hid (show 0 ≤ m.ballot ∧ m.ballot ≤ 1099511627776 by omega)
    have XO := Lib.hid (show 0 ≤ m.old ∧ m.old ≤ 1099511627776 by omega)
    have hoz : (m.old == 0) = false := by rw [beq_eq_false_iff_ne]; omega
    have nB := num7_le XX.out
    have nO := num7_le XO.out
    rw [k1] at C0
    have hx := H6.out
    rw [c] at hx
    have hle := Term.enc_le c
    have HX2 := Lib.hid (show Bytes w4 u6 (Term.enc m.conf) from hx)
    have nT := textOf7_le (l := Term.enc m.conf) (by omega)
    have HL := Lib.hid (show (Term.enc m.conf).length ≤ 100000 by omega)
    clear k1 b o i s n r e c t hx
    go_wp2_with fail
    refine wp_region_facts (by kernel_rfl) Ext (fun iop v w => match iop with
     | 0 => v = .pointer (some ⟨q, 17, none⟩)
     | 1 => v = .int .i64 m.ballot
     | 2 => v = .string ⟨(Msg.num m.ballot).toArray⟩
     | 3 => v = .pointer (some ⟨q, 18, none⟩)
     | 4 => v = .int .i64 m.old
     | 5 => v = .string ⟨(Msg.num m.old).toArray⟩
     | 6 => v = .string ⟨(Msg.num m.ballot ++ Msg.num m.old).toArray⟩
     | 7 => v = u6
     | 8 => v = .string ⟨(Term.enc m.conf).toArray⟩
     | 9 => v = .string ⟨(Msg.textOf (Term.enc m.conf)).toArray⟩
     | 10 => v = .string ⟨((Msg.num m.ballot ++ Msg.num m.old) ++ Msg.textOf (Term.enc m.conf)).toArray⟩
     | _ => v = .string ⟨((Msg.num m.ballot ++ Msg.num m.old) ++ Msg.textOf (Term.enc m.conf)).toArray⟩
     ) (by kernel_rfl) (fun _ _ _ h k => Ext.trans h k) (fun a => Ext.refl a) (Ext.drew _) ?_ ?_ ?_
    · intro iop v wa wb hF hL
      iterate 11 (rcases iop with _ | iop; exact hF)
      exact hF
    · refine Obls.cons ?_ (Obls.cons ?_ (Obls.cons ?_ (Obls.cons ?_ (Obls.cons ?_ (Obls.cons ?_ (Obls.cons ?_ (Obls.cons ?_ (Obls.cons ?_ (Obls.cons ?_ (Obls.cons ?_ (Obls.cons ?_ (Obls.nil))))))))))))
      · intro ev wy hp hl hk hd
        have e1 : ev (.tmp 1) = .pointer (some ⟨q, 0, none⟩) := hk 1 (by decide)
        clear hk hd
        exact Yield.op (v := .pointer (some ⟨q, 17, none⟩)) (w' := wy) (by simp [execOp, go_sem, e1]) ⟨Ext.refl _, rfl⟩
      · intro ev wy hp hl hk hd
        have e76 : ev (.tmp 76) = .pointer (some ⟨q, 17, none⟩) := hk 76 (by decide)
        clear hk hd
        exact Yield.load rfl e76 (ldInt (HM4.out.ext hl).at_.votes.1) ⟨Ext.refl _, rfl⟩
      · intro ev wy hp hl hk hd
        have e77 : ev (.tmp 77) = .int .i64 m.ballot := hk 77 (by decide)
        clear hk hd
        refine Yield.call rfl hp Tryz.func25 rfl (by kernel_rfl) ?_
        simp only [List.map_toArray, List.map_cons, List.map_nil, e77]
        exact ((numR7 m.ballot XX.out wy)).mono fun _ _ ⟨he, hb⟩ => ⟨_, he, hb, by first | rfl | simp⟩
      · intro ev wy hp hl hk hd
        have e1 : ev (.tmp 1) = .pointer (some ⟨q, 0, none⟩) := hk 1 (by decide)
        clear hk hd
        exact Yield.op (v := .pointer (some ⟨q, 18, none⟩)) (w' := wy) (by simp [execOp, go_sem, e1]) ⟨Ext.refl _, rfl⟩
      · intro ev wy hp hl hk hd
        have e79 : ev (.tmp 79) = .pointer (some ⟨q, 18, none⟩) := hk 79 (by decide)
        clear hk hd
        exact Yield.load rfl e79 (ldInt (HM4.out.ext hl).at_.votes.2) ⟨Ext.refl _, rfl⟩
      · intro ev wy hp hl hk hd
        have e80 : ev (.tmp 80) = .int .i64 m.old := hk 80 (by decide)
        clear hk hd
        refine Yield.call rfl hp Tryz.func25 rfl (by kernel_rfl) ?_
        simp only [List.map_toArray, List.map_cons, List.map_nil, e80]
        exact ((numR7 m.old XO.out wy)).mono fun _ _ ⟨he, hb⟩ => ⟨_, he, hb, by first | rfl | simp⟩
      · intro ev wy hp hl hk hd
        have e78 : ev (.tmp 78) = .string ⟨(Msg.num m.ballot).toArray⟩ := hk 78 (by decide)
        have e81 : ev (.tmp 81) = .string ⟨(Msg.num m.old).toArray⟩ := hk 81 (by decide)
        clear hk hd
        exact addS7 rfl e78 e81 (by omega) ⟨Ext.refl _, rfl⟩
      · intro ev wy hp hl hk hd
        have e7 : ev (.tmp 7) = u6 := hk 7 (by decide)
        clear hk hd
        exact Yield.mv rfl ⟨Ext.refl _, e7⟩
      · intro ev wy hp hl hk hd
        have e83 : ev (.tmp 83) = u6 := hk 83 (by decide)
        clear hk hd
        exact Yield.conv rfl e83 (run_str _ _ 5 Tryz.underlying38 Tryz.underlying5 Tryz.underlying9 ((HX2.out.below hl))) ⟨Ext.refl _, rfl⟩
      · intro ev wy hp hl hk hd
        have e84 : ev (.tmp 84) = .string ⟨(Term.enc m.conf).toArray⟩ := hk 84 (by decide)
        clear hk hd
        refine Yield.call rfl hp Tryz.func75 rfl (by kernel_rfl) ?_
        simp only [List.map_toArray, List.map_cons, List.map_nil, e84]
        exact ((textR7 _ wy HL.out)).mono fun _ _ ⟨he, hb⟩ => ⟨_, he, hb, by first | rfl | simp⟩
      · intro ev wy hp hl hk hd
        have e82 : ev (.tmp 82) = .string ⟨(Msg.num m.ballot ++ Msg.num m.old).toArray⟩ := hk 82 (by decide)
        have e85 : ev (.tmp 85) = .string ⟨(Msg.textOf (Term.enc m.conf)).toArray⟩ := hk 85 (by decide)
        clear hk hd
        exact addS7 rfl e82 e85 (by rw [List.length_append]; omega) ⟨Ext.refl _, rfl⟩
      · intro ev wy hp hl hk hd
        have e86 : ev (.tmp 86) = .string ⟨((Msg.num m.ballot ++ Msg.num m.old) ++ Msg.textOf (Term.enc m.conf)).toArray⟩ := hk 86 (by decide)
        clear hk hd
        exact Yield.as rfl ⟨Ext.refl _, e86⟩
    · intro vals wz hz hv
      have g76 : vals 0 = .pointer (some ⟨q, 17, none⟩) := hv 0 (by decide)
      have g77 : vals 1 = .int .i64 m.ballot := hv 1 (by decide)
      have g78 : vals 2 = .string ⟨(Msg.num m.ballot).toArray⟩ := hv 2 (by decide)
      have g79 : vals 3 = .pointer (some ⟨q, 18, none⟩) := hv 3 (by decide)
      have g80 : vals 4 = .int .i64 m.old := hv 4 (by decide)
      have g81 : vals 5 = .string ⟨(Msg.num m.old).toArray⟩ := hv 5 (by decide)
      have g82 : vals 6 = .string ⟨(Msg.num m.ballot ++ Msg.num m.old).toArray⟩ := hv 6 (by decide)
      have g83 : vals 7 = u6 := hv 7 (by decide)
      have g84 : vals 8 = .string ⟨(Term.enc m.conf).toArray⟩ := hv 8 (by decide)
      have g85 : vals 9 = .string ⟨(Msg.textOf (Term.enc m.conf)).toArray⟩ := hv 9 (by decide)
      have g86 : vals 10 = .string ⟨((Msg.num m.ballot ++ Msg.num m.old) ++ Msg.textOf (Term.enc m.conf)).toArray⟩ := hv 10 (by decide)
      have g2 : vals 11 = .string ⟨((Msg.num m.ballot ++ Msg.num m.old) ++ Msg.textOf (Term.enc m.conf)).toArray⟩ := hv 11 (by decide)
      clear hv
      simp only [putAll, Act.put, List.setIfInBounds_toArray, List.set_cons_zero, List.set_cons_succ, g76, g77, g78, g79, g80, g81, g82, g83, g84, g85, g86, g2]
      clear g76
      clear g77
      clear g78
      clear g79
      clear g80
      clear g81
      clear g82
      clear g83
      clear g84
      clear g85
      clear g86
      clear g2
      go_wp2_with fail
      go_ret
      exact ⟨by rw [HPT.out]; rfl, hE4.trans hz⟩
   | nine k1 b o i s n r e c t =>
    have HPT := Lib.hid (show Msg.parts m = Msg.num m.ballot ++ Msg.textOf (Term.enc m.conf) by unfold Msg.parts; rw [if_neg (by omega), if_neg (by omega), if_neg (by omega), if_neg (by omega), if_neg (by omega), if_neg (by omega), if_pos k1])
    have XX := Lib.hid (show 0 ≤ m.ballot ∧ m.ballot ≤ 1099511627776 by omega)
    have nB := num7_le XX.out
    rw [k1] at C0
    have hx := H6.out
    rw [c] at hx
    have hle := Term.enc_le c
    have HX2 := Lib.hid (show Bytes w4 u6 (Term.enc m.conf) from hx)
    have nT := textOf7_le (l := Term.enc m.conf) (by omega)
    have HL := Lib.hid (show (Term.enc m.conf).length ≤ 100000 by omega)
    clear k1 b o i s n r e c t hx
    go_wp2_with fail
    refine wp_region_facts (by kernel_rfl) Ext (fun iop v w => match iop with
     | 0 => v = .pointer (some ⟨q, 17, none⟩)
     | 1 => v = .int .i64 m.ballot
     | 2 => v = .string ⟨(Msg.num m.ballot).toArray⟩
     | 3 => v = u6
     | 4 => v = .string ⟨(Term.enc m.conf).toArray⟩
     | 5 => v = .string ⟨(Msg.textOf (Term.enc m.conf)).toArray⟩
     | 6 => v = .string ⟨(Msg.num m.ballot ++ Msg.textOf (Term.enc m.conf)).toArray⟩
     | _ => v = .string ⟨(Msg.num m.ballot ++ Msg.textOf (Term.enc m.conf)).toArray⟩
     ) (by kernel_rfl) (fun _ _ _ h k => Ext.trans h k) (fun a => Ext.refl a) (Ext.drew _) ?_ ?_ ?_
    · intro iop v wa wb hF hL
      iterate 7 (rcases iop with _ | iop; exact hF)
      exact hF
    · refine Obls.cons ?_ (Obls.cons ?_ (Obls.cons ?_ (Obls.cons ?_ (Obls.cons ?_ (Obls.cons ?_ (Obls.cons ?_ (Obls.cons ?_ (Obls.nil))))))))
      · intro ev wy hp hl hk hd
        have e1 : ev (.tmp 1) = .pointer (some ⟨q, 0, none⟩) := hk 1 (by decide)
        clear hk hd
        exact Yield.op (v := .pointer (some ⟨q, 17, none⟩)) (w' := wy) (by simp [execOp, go_sem, e1]) ⟨Ext.refl _, rfl⟩
      · intro ev wy hp hl hk hd
        have e89 : ev (.tmp 89) = .pointer (some ⟨q, 17, none⟩) := hk 89 (by decide)
        clear hk hd
        exact Yield.load rfl e89 (ldInt (HM4.out.ext hl).at_.votes.1) ⟨Ext.refl _, rfl⟩
      · intro ev wy hp hl hk hd
        have e90 : ev (.tmp 90) = .int .i64 m.ballot := hk 90 (by decide)
        clear hk hd
        refine Yield.call rfl hp Tryz.func25 rfl (by kernel_rfl) ?_
        simp only [List.map_toArray, List.map_cons, List.map_nil, e90]
        exact ((numR7 m.ballot XX.out wy)).mono fun _ _ ⟨he, hb⟩ => ⟨_, he, hb, by first | rfl | simp⟩
      · intro ev wy hp hl hk hd
        have e7 : ev (.tmp 7) = u6 := hk 7 (by decide)
        clear hk hd
        exact Yield.mv rfl ⟨Ext.refl _, e7⟩
      · intro ev wy hp hl hk hd
        have e92 : ev (.tmp 92) = u6 := hk 92 (by decide)
        clear hk hd
        exact Yield.conv rfl e92 (run_str _ _ 5 Tryz.underlying38 Tryz.underlying5 Tryz.underlying9 ((HX2.out.below hl))) ⟨Ext.refl _, rfl⟩
      · intro ev wy hp hl hk hd
        have e93 : ev (.tmp 93) = .string ⟨(Term.enc m.conf).toArray⟩ := hk 93 (by decide)
        clear hk hd
        refine Yield.call rfl hp Tryz.func75 rfl (by kernel_rfl) ?_
        simp only [List.map_toArray, List.map_cons, List.map_nil, e93]
        exact ((textR7 _ wy HL.out)).mono fun _ _ ⟨he, hb⟩ => ⟨_, he, hb, by first | rfl | simp⟩
      · intro ev wy hp hl hk hd
        have e91 : ev (.tmp 91) = .string ⟨(Msg.num m.ballot).toArray⟩ := hk 91 (by decide)
        have e94 : ev (.tmp 94) = .string ⟨(Msg.textOf (Term.enc m.conf)).toArray⟩ := hk 94 (by decide)
        clear hk hd
        exact addS7 rfl e91 e94 (by omega) ⟨Ext.refl _, rfl⟩
      · intro ev wy hp hl hk hd
        have e95 : ev (.tmp 95) = .string ⟨(Msg.num m.ballot ++ Msg.textOf (Term.enc m.conf)).toArray⟩ := hk 95 (by decide)
        clear hk hd
        exact Yield.as rfl ⟨Ext.refl _, e95⟩
    · intro vals wz hz hv
      have g89 : vals 0 = .pointer (some ⟨q, 17, none⟩) := hv 0 (by decide)
      have g90 : vals 1 = .int .i64 m.ballot := hv 1 (by decide)
      have g91 : vals 2 = .string ⟨(Msg.num m.ballot).toArray⟩ := hv 2 (by decide)
      have g92 : vals 3 = u6 := hv 3 (by decide)
      have g93 : vals 4 = .string ⟨(Term.enc m.conf).toArray⟩ := hv 4 (by decide)
      have g94 : vals 5 = .string ⟨(Msg.textOf (Term.enc m.conf)).toArray⟩ := hv 5 (by decide)
      have g95 : vals 6 = .string ⟨(Msg.num m.ballot ++ Msg.textOf (Term.enc m.conf)).toArray⟩ := hv 6 (by decide)
      have g2 : vals 7 = .string ⟨(Msg.num m.ballot ++ Msg.textOf (Term.enc m.conf)).toArray⟩ := hv 7 (by decide)
      clear hv
      simp only [putAll, Act.put, List.setIfInBounds_toArray, List.set_cons_zero, List.set_cons_succ, g89, g90, g91, g92, g93, g94, g95, g2]
      clear g89
      clear g90
      clear g91
      clear g92
      clear g93
      clear g94
      clear g95
      clear g2
      go_wp2_with fail
      go_ret
      exact ⟨by rw [HPT.out]; rfl, hE4.trans hz⟩
   | ten k1 b o s n r e c =>
    have HPT := Lib.hid (show Msg.parts m = Msg.num m.ballot ++ Msg.boolOf m.is by unfold Msg.parts; rw [if_neg (by omega), if_neg (by omega), if_neg (by omega), if_neg (by omega), if_neg (by omega), if_neg (by omega), if_neg (by omega), if_pos k1])
    have XX := Lib.hid (show 0 ≤ m.ballot ∧ m.ballot ≤ 1099511627776 by omega)
    have nN := num7_le XX.out
    have nB := Msg.boolOf_le m.is
    rw [k1] at C0
    clear k1 b o s n r e c
    go_wp2_with fail
    refine wp_region_facts (by kernel_rfl) Ext (fun iop v w => match iop with
     | 0 => v = .pointer (some ⟨q, 17, none⟩)
     | 1 => v = .int .i64 m.ballot
     | 2 => v = .string ⟨(Msg.num m.ballot).toArray⟩
     | 3 => v = .pointer (some ⟨q, 6, none⟩)
     | 4 => v = .bool m.is
     | 5 => v = .string ⟨(Msg.boolOf m.is).toArray⟩
     | 6 => v = .string ⟨(Msg.num m.ballot ++ Msg.boolOf m.is).toArray⟩
     | _ => v = .string ⟨(Msg.num m.ballot ++ Msg.boolOf m.is).toArray⟩
     ) (by kernel_rfl) (fun _ _ _ h k => Ext.trans h k) (fun a => Ext.refl a) (Ext.drew _) ?_ ?_ ?_
    · intro iop v wa wb hF hL
      iterate 7 (rcases iop with _ | iop; exact hF)
      exact hF
    · refine Obls.cons ?_ (Obls.cons ?_ (Obls.cons ?_ (Obls.cons ?_ (Obls.cons ?_ (Obls.cons ?_ (Obls.cons ?_ (Obls.cons ?_ (Obls.nil))))))))
      · intro ev wy hp hl hk hd
        have e1 : ev (.tmp 1) = .pointer (some ⟨q, 0, none⟩) := hk 1 (by decide)
        clear hk hd
        exact Yield.op (v := .pointer (some ⟨q, 17, none⟩)) (w' := wy) (by simp [execOp, go_sem, e1]) ⟨Ext.refl _, rfl⟩
      · intro ev wy hp hl hk hd
        have e98 : ev (.tmp 98) = .pointer (some ⟨q, 17, none⟩) := hk 98 (by decide)
        clear hk hd
        exact Yield.load rfl e98 (ldInt (HM4.out.ext hl).at_.votes.1) ⟨Ext.refl _, rfl⟩
      · intro ev wy hp hl hk hd
        have e99 : ev (.tmp 99) = .int .i64 m.ballot := hk 99 (by decide)
        clear hk hd
        refine Yield.call rfl hp Tryz.func25 rfl (by kernel_rfl) ?_
        simp only [List.map_toArray, List.map_cons, List.map_nil, e99]
        exact ((numR7 m.ballot XX.out wy)).mono fun _ _ ⟨he, hb⟩ => ⟨_, he, hb, by first | rfl | simp⟩
      · intro ev wy hp hl hk hd
        have e1 : ev (.tmp 1) = .pointer (some ⟨q, 0, none⟩) := hk 1 (by decide)
        clear hk hd
        exact Yield.op (v := .pointer (some ⟨q, 6, none⟩)) (w' := wy) (by simp [execOp, go_sem, e1]) ⟨Ext.refl _, rfl⟩
      · intro ev wy hp hl hk hd
        have e101 : ev (.tmp 101) = .pointer (some ⟨q, 6, none⟩) := hk 101 (by decide)
        clear hk hd
        exact Yield.load rfl e101 (ldBool (HM4.out.ext hl).at_.head.2.2.2.2.2.2) ⟨Ext.refl _, rfl⟩
      · intro ev wy hp hl hk hd
        have e102 : ev (.tmp 102) = .bool m.is := hk 102 (by decide)
        clear hk hd
        refine Yield.call rfl hp Tryz.func76 rfl (by kernel_rfl) ?_
        simp only [List.map_toArray, List.map_cons, List.map_nil, e102]
        exact ((boolR7 m.is wy)).mono fun _ _ ⟨he, hb⟩ => ⟨_, he, hb, by first | rfl | simp⟩
      · intro ev wy hp hl hk hd
        have e100 : ev (.tmp 100) = .string ⟨(Msg.num m.ballot).toArray⟩ := hk 100 (by decide)
        have e103 : ev (.tmp 103) = .string ⟨(Msg.boolOf m.is).toArray⟩ := hk 103 (by decide)
        clear hk hd
        exact addS7 rfl e100 e103 (by omega) ⟨Ext.refl _, rfl⟩
      · intro ev wy hp hl hk hd
        have e104 : ev (.tmp 104) = .string ⟨(Msg.num m.ballot ++ Msg.boolOf m.is).toArray⟩ := hk 104 (by decide)
        clear hk hd
        exact Yield.as rfl ⟨Ext.refl _, e104⟩
    · intro vals wz hz hv
      have g98 : vals 0 = .pointer (some ⟨q, 17, none⟩) := hv 0 (by decide)
      have g99 : vals 1 = .int .i64 m.ballot := hv 1 (by decide)
      have g100 : vals 2 = .string ⟨(Msg.num m.ballot).toArray⟩ := hv 2 (by decide)
      have g101 : vals 3 = .pointer (some ⟨q, 6, none⟩) := hv 3 (by decide)
      have g102 : vals 4 = .bool m.is := hv 4 (by decide)
      have g103 : vals 5 = .string ⟨(Msg.boolOf m.is).toArray⟩ := hv 5 (by decide)
      have g104 : vals 6 = .string ⟨(Msg.num m.ballot ++ Msg.boolOf m.is).toArray⟩ := hv 6 (by decide)
      have g2 : vals 7 = .string ⟨(Msg.num m.ballot ++ Msg.boolOf m.is).toArray⟩ := hv 7 (by decide)
      clear hv
      simp only [putAll, Act.put, List.setIfInBounds_toArray, List.set_cons_zero, List.set_cons_succ, g98, g99, g100, g101, g102, g103, g104, g2]
      clear g98
      clear g99
      clear g100
      clear g101
      clear g102
      clear g103
      clear g104
      clear g2
      go_wp2_with fail
      go_ret
      exact ⟨by rw [HPT.out]; rfl, hE4.trans hz⟩
set_option maxHeartbeats 32000000 in
theorem refEncode7_any (v : Value) (m : Msg.M) (w : World) (hv : IsMsg w v m) : Calls Tryz.prog 13 #[v] w (GivesEnc7 w m) := by
 have hbx := box_msgR
 obtain ⟨a0, n0, k0, a1, n1, k1, a2, n2, k2, a3, n3, k3, rfl, h1, h2, h3, h4⟩ := hv.opened
 have HM := Lib.hid (Msg7.new (m := m) 35 h1 h2 h3 h4)
 have hE0 := Ext.alloc w (.cells (msgCells m (.slice a0 n0 k0) (.slice a1 n1 k1) (.slice a2 n2 k2) (.slice a3 n3 k3)) 35)
 clear h1 h2 h3 h4 hv
 unfold GivesEnc7
 cases hr : Msg.right m with
 | false =>
  have HR := Lib.hid hr
  clear hr
  go_enter Tryz.func13, Tryz.ntmps13
  go_wp2_with (refine ldMR (by rfl) _ rfl rfl HM.out ?_)
  refine (refRight7_any _ m _ HM.out.isMsg).mono ?_
  rw [HR.out]
  rintro e w1 ⟨rfl, hF1⟩
  go_wp2_with fail
  go_ret2
  exact ⟨_, rfl, bytes_none _, hE0.trans hF1⟩
 | true =>
  have HR := Lib.hid hr
  obtain ⟨hh, hi⟩ := Msg.right_is hr
  obtain ⟨x1, x2, x3, x4, x5⟩ := Msg.head_ok hh
  have hk := Msg.kind_in hr
  have hle := Msg.enc_le hr
  clear hi hh
  have XK := Lib.hid (show 0 ≤ m.kind ∧ m.kind ≤ 1099511627776 by omega)
  have XS := Lib.hid (show 0 ≤ m.src ∧ m.src ≤ 1099511627776 by omega)
  have XD := Lib.hid (show 0 ≤ m.dst ∧ m.dst ≤ 1099511627776 by omega)
  have XT := Lib.hid (show 0 ≤ m.term ∧ m.term ≤ 1099511627776 by omega)
  have nK := num7_le XK.out
  have nS := num7_le XS.out
  have nD := num7_le XD.out
  have nT := num7_le XT.out
  have htx : (((Msg.num m.kind ++ Msg.num m.src) ++ Msg.num m.dst) ++ Msg.num m.term) ++ Msg.parts m = Msg.text m := by unfold Msg.text; simp
  have nX : (Msg.text m).length ≤ 1203 := by unfold Msg.enc at hle; rw [List.length_append] at hle; omega
  have nP : (Msg.parts m).length ≤ 1203 := by rw [← htx, List.length_append] at nX; omega
  have HTX := Lib.hid htx
  clear htx hle x1 x2 x3 x4 x5 hk hr
  go_enter Tryz.func13, Tryz.ntmps13
  go_wp2_with (refine ldMR (by rfl) _ rfl rfl HM.out ?_)
  refine (refRight7_any _ m _ HM.out.isMsg).mono ?_
  rw [HR.out]
  rintro e w1 ⟨rfl, hF1⟩
  have HM1 := Lib.hid (HM.out.ext hF1)
  have hE1 := hE0.trans hF1
  go_wp2_with fail
  generalize hq : w.heap.size = q at *
  have HQ := Lib.hid hq
  clear hq hbx HM hE0 hF1
  refine wp_region_facts (by kernel_rfl) Ext (fun iop v w => match iop with
   | 0 => v = .pointer (some ⟨q, 0, none⟩)
   | 1 => v = .int .i64 m.kind
   | 2 => v = .string ⟨(Msg.num m.kind).toArray⟩
   | 3 => v = .pointer (some ⟨q, 1, none⟩)
   | 4 => v = .int .i64 m.src
   | 5 => v = .string ⟨(Msg.num m.src).toArray⟩
   | 6 => v = .string ⟨(Msg.num m.kind ++ Msg.num m.src).toArray⟩
   | 7 => v = .pointer (some ⟨q, 2, none⟩)
   | 8 => v = .int .i64 m.dst
   | 9 => v = .string ⟨(Msg.num m.dst).toArray⟩
   | 10 => v = .string ⟨((Msg.num m.kind ++ Msg.num m.src) ++ Msg.num m.dst).toArray⟩
   | 11 => v = .pointer (some ⟨q, 3, none⟩)
   | 12 => v = .int .i64 m.term
   | 13 => v = .string ⟨(Msg.num m.term).toArray⟩
   | 14 => v = .string ⟨(((Msg.num m.kind ++ Msg.num m.src) ++ Msg.num m.dst) ++ Msg.num m.term).toArray⟩
   | 15 => v = .agg (msgCells m (.slice a0 n0 k0) (.slice a1 n1 k1) (.slice a2 n2 k2) (.slice a3 n3 k3))
   | 16 => v = .string ⟨(Msg.parts m).toArray⟩
   | 17 => v = .string ⟨(Msg.text m).toArray⟩
   | _ => v = .string ⟨(Msg.text m).toArray⟩
   ) (by kernel_rfl) (fun _ _ _ h k => Ext.trans h k) (fun a => Ext.refl a) (Ext.drew _) ?_ ?_ ?_
  · intro iop v wa wb hF hL
    iterate 18 (rcases iop with _ | iop; exact hF)
    exact hF
  · refine Obls.cons ?_ (Obls.cons ?_ (Obls.cons ?_ (Obls.cons ?_ (Obls.cons ?_ (Obls.cons ?_ (Obls.cons ?_ (Obls.cons ?_ (Obls.cons ?_ (Obls.cons ?_ (Obls.cons ?_ (Obls.cons ?_ (Obls.cons ?_ (Obls.cons ?_ (Obls.cons ?_ (Obls.cons ?_ (Obls.cons ?_ (Obls.cons ?_ (Obls.cons ?_ (Obls.nil)))))))))))))))))))
    · intro ev wy hp hl hk hd
      have e1 : ev (.tmp 1) = .pointer (some ⟨q, 0, none⟩) := hk 1 (by decide)
      clear hk hd
      exact Yield.op (v := .pointer (some ⟨q, 0, none⟩)) (w' := wy) (by simp [execOp, go_sem, e1]) ⟨Ext.refl _, rfl⟩
    · intro ev wy hp hl hk hd
      have e8 : ev (.tmp 8) = .pointer (some ⟨q, 0, none⟩) := hk 8 (by decide)
      clear hk hd
      exact Yield.load rfl e8 (ldInt (HM1.out.ext hl).at_.head.1) ⟨Ext.refl _, rfl⟩
    · intro ev wy hp hl hk hd
      have e9 : ev (.tmp 9) = .int .i64 m.kind := hk 9 (by decide)
      clear hk hd
      refine Yield.call rfl hp Tryz.func25 rfl (by kernel_rfl) ?_
      simp only [List.map_toArray, List.map_cons, List.map_nil, e9]
      exact ((numR7 m.kind XK.out wy)).mono fun _ _ ⟨he, hb⟩ => ⟨_, he, hb, by first | rfl | simp⟩
    · intro ev wy hp hl hk hd
      have e1 : ev (.tmp 1) = .pointer (some ⟨q, 0, none⟩) := hk 1 (by decide)
      clear hk hd
      exact Yield.op (v := .pointer (some ⟨q, 1, none⟩)) (w' := wy) (by simp [execOp, go_sem, e1]) ⟨Ext.refl _, rfl⟩
    · intro ev wy hp hl hk hd
      have e11 : ev (.tmp 11) = .pointer (some ⟨q, 1, none⟩) := hk 11 (by decide)
      clear hk hd
      exact Yield.load rfl e11 (ldInt (HM1.out.ext hl).at_.head.2.1) ⟨Ext.refl _, rfl⟩
    · intro ev wy hp hl hk hd
      have e12 : ev (.tmp 12) = .int .i64 m.src := hk 12 (by decide)
      clear hk hd
      refine Yield.call rfl hp Tryz.func25 rfl (by kernel_rfl) ?_
      simp only [List.map_toArray, List.map_cons, List.map_nil, e12]
      exact ((numR7 m.src XS.out wy)).mono fun _ _ ⟨he, hb⟩ => ⟨_, he, hb, by first | rfl | simp⟩
    · intro ev wy hp hl hk hd
      have e10 : ev (.tmp 10) = .string ⟨(Msg.num m.kind).toArray⟩ := hk 10 (by decide)
      have e13 : ev (.tmp 13) = .string ⟨(Msg.num m.src).toArray⟩ := hk 13 (by decide)
      clear hk hd
      exact addS7 rfl e10 e13 (by omega) ⟨Ext.refl _, rfl⟩
    · intro ev wy hp hl hk hd
      have e1 : ev (.tmp 1) = .pointer (some ⟨q, 0, none⟩) := hk 1 (by decide)
      clear hk hd
      exact Yield.op (v := .pointer (some ⟨q, 2, none⟩)) (w' := wy) (by simp [execOp, go_sem, e1]) ⟨Ext.refl _, rfl⟩
    · intro ev wy hp hl hk hd
      have e15 : ev (.tmp 15) = .pointer (some ⟨q, 2, none⟩) := hk 15 (by decide)
      clear hk hd
      exact Yield.load rfl e15 (ldInt (HM1.out.ext hl).at_.head.2.2.1) ⟨Ext.refl _, rfl⟩
    · intro ev wy hp hl hk hd
      have e16 : ev (.tmp 16) = .int .i64 m.dst := hk 16 (by decide)
      clear hk hd
      refine Yield.call rfl hp Tryz.func25 rfl (by kernel_rfl) ?_
      simp only [List.map_toArray, List.map_cons, List.map_nil, e16]
      exact ((numR7 m.dst XD.out wy)).mono fun _ _ ⟨he, hb⟩ => ⟨_, he, hb, by first | rfl | simp⟩
    · intro ev wy hp hl hk hd
      have e14 : ev (.tmp 14) = .string ⟨(Msg.num m.kind ++ Msg.num m.src).toArray⟩ := hk 14 (by decide)
      have e17 : ev (.tmp 17) = .string ⟨(Msg.num m.dst).toArray⟩ := hk 17 (by decide)
      clear hk hd
      exact addS7 rfl e14 e17 (by simp only [List.length_append]; omega) ⟨Ext.refl _, rfl⟩
    · intro ev wy hp hl hk hd
      have e1 : ev (.tmp 1) = .pointer (some ⟨q, 0, none⟩) := hk 1 (by decide)
      clear hk hd
      exact Yield.op (v := .pointer (some ⟨q, 3, none⟩)) (w' := wy) (by simp [execOp, go_sem, e1]) ⟨Ext.refl _, rfl⟩
    · intro ev wy hp hl hk hd
      have e19 : ev (.tmp 19) = .pointer (some ⟨q, 3, none⟩) := hk 19 (by decide)
      clear hk hd
      exact Yield.load rfl e19 (ldInt (HM1.out.ext hl).at_.head.2.2.2.1) ⟨Ext.refl _, rfl⟩
    · intro ev wy hp hl hk hd
      have e20 : ev (.tmp 20) = .int .i64 m.term := hk 20 (by decide)
      clear hk hd
      refine Yield.call rfl hp Tryz.func25 rfl (by kernel_rfl) ?_
      simp only [List.map_toArray, List.map_cons, List.map_nil, e20]
      exact ((numR7 m.term XT.out wy)).mono fun _ _ ⟨he, hb⟩ => ⟨_, he, hb, by first | rfl | simp⟩
    · intro ev wy hp hl hk hd
      have e18 : ev (.tmp 18) = .string ⟨((Msg.num m.kind ++ Msg.num m.src) ++ Msg.num m.dst).toArray⟩ := hk 18 (by decide)
      have e21 : ev (.tmp 21) = .string ⟨(Msg.num m.term).toArray⟩ := hk 21 (by decide)
      clear hk hd
      exact addS7 rfl e18 e21 (by simp only [List.length_append]; omega) ⟨Ext.refl _, rfl⟩
    · intro ev wy hp hl hk hd
      have e1 : ev (.tmp 1) = .pointer (some ⟨q, 0, none⟩) := hk 1 (by decide)
      clear hk hd
      exact Yield.load rfl e1 (HM1.out.ext hl).ldR ⟨Ext.refl _, rfl⟩
    · intro ev wy hp hl hk hd
      have e23 : ev (.tmp 23) = .agg (msgCells m (.slice a0 n0 k0) (.slice a1 n1 k1) (.slice a2 n2 k2) (.slice a3 n3 k3)) := hk 23 (by decide)
      clear hk hd
      refine Yield.call rfl hp Tryz.func26 rfl (by kernel_rfl) ?_
      simp only [List.map_toArray, List.map_cons, List.map_nil, e23]
      exact ((parts7_any _ m _ (HM1.out.ext hl).isMsg HR.out)).mono fun _ _ ⟨he, hb⟩ => ⟨_, he, hb, by first | rfl | simp⟩
    · intro ev wy hp hl hk hd
      have e22 : ev (.tmp 22) = .string ⟨(((Msg.num m.kind ++ Msg.num m.src) ++ Msg.num m.dst) ++ Msg.num m.term).toArray⟩ := hk 22 (by decide)
      have e24 : ev (.tmp 24) = .string ⟨(Msg.parts m).toArray⟩ := hk 24 (by decide)
      clear hk hd
      exact addS7 rfl e22 e24 (by simp only [List.length_append]; omega) ⟨Ext.refl _, by show _ = Value.string ⟨(Msg.text m).toArray⟩; rw [← HTX.out]⟩
    · intro ev wy hp hl hk hd
      have e25 : ev (.tmp 25) = .string ⟨(Msg.text m).toArray⟩ := hk 25 (by decide)
      clear hk hd
      exact Yield.as rfl ⟨Ext.refl _, e25⟩
  · intro vals wz hz hv
    have g8 : vals 0 = .pointer (some ⟨q, 0, none⟩) := hv 0 (by decide)
    have g9 : vals 1 = .int .i64 m.kind := hv 1 (by decide)
    have g10 : vals 2 = .string ⟨(Msg.num m.kind).toArray⟩ := hv 2 (by decide)
    have g11 : vals 3 = .pointer (some ⟨q, 1, none⟩) := hv 3 (by decide)
    have g12 : vals 4 = .int .i64 m.src := hv 4 (by decide)
    have g13 : vals 5 = .string ⟨(Msg.num m.src).toArray⟩ := hv 5 (by decide)
    have g14 : vals 6 = .string ⟨(Msg.num m.kind ++ Msg.num m.src).toArray⟩ := hv 6 (by decide)
    have g15 : vals 7 = .pointer (some ⟨q, 2, none⟩) := hv 7 (by decide)
    have g16 : vals 8 = .int .i64 m.dst := hv 8 (by decide)
    have g17 : vals 9 = .string ⟨(Msg.num m.dst).toArray⟩ := hv 9 (by decide)
    have g18 : vals 10 = .string ⟨((Msg.num m.kind ++ Msg.num m.src) ++ Msg.num m.dst).toArray⟩ := hv 10 (by decide)
    have g19 : vals 11 = .pointer (some ⟨q, 3, none⟩) := hv 11 (by decide)
    have g20 : vals 12 = .int .i64 m.term := hv 12 (by decide)
    have g21 : vals 13 = .string ⟨(Msg.num m.term).toArray⟩ := hv 13 (by decide)
    have g22 : vals 14 = .string ⟨(((Msg.num m.kind ++ Msg.num m.src) ++ Msg.num m.dst) ++ Msg.num m.term).toArray⟩ := hv 14 (by decide)
    have g23 : vals 15 = .agg (msgCells m (.slice a0 n0 k0) (.slice a1 n1 k1) (.slice a2 n2 k2) (.slice a3 n3 k3)) := hv 15 (by decide)
    have g24 : vals 16 = .string ⟨(Msg.parts m).toArray⟩ := hv 16 (by decide)
    have g25 : vals 17 = .string ⟨(Msg.text m).toArray⟩ := hv 17 (by decide)
    have g4 : vals 18 = .string ⟨(Msg.text m).toArray⟩ := hv 18 (by decide)
    clear hv
    simp only [putAll, Act.put, List.setIfInBounds_toArray, List.set_cons_zero, List.set_cons_succ, g8, g9, g10, g11, g12, g13, g14, g15, g16, g17, g18, g19, g20, g21, g22, g23, g24, g25, g4]
    clear g8
    clear g9
    clear g10
    clear g11
    clear g12
    clear g13
    clear g14
    clear g15
    clear g16
    clear g17
    clear g18
    clear g19
    clear g20
    clear g21
    clear g22
    clear g23
    clear g24
    clear g25
    clear g4
    obtain ⟨X, hX⟩ : ∃ X, Msg.text m = X := ⟨_, rfl⟩
    have nX2 : X.length ≤ 1203 := by rw [← hX]; exact nX
    rw [hX]
    have HX := Lib.hid hX
    clear hX HTX
    have hcv := runConv wz X
    have hby := Lib.hid (bytesOfConv wz X 5 (by unfold maxLen; omega))
    have hsX := str_len X
    go_wp2_with fail
    refine (put_ref _ X _ hby.out (by omega)).mono ?_
    rintro e w5 ⟨v5, rfl, hb5, hE5⟩
    have e5 := ((hE1.trans hz).trans (extConv _ _ _)).trans hE5
    go_wp2_with fail
    go_ret2
    refine ⟨_, rfl, ?_, e5⟩
    show Bytes w5 v5 (Msg.enc _)
    unfold Msg.enc
    rw [HX.out]
    exact hb5
end Go.Proofs.YtldfpklgbedgjaaGreat
