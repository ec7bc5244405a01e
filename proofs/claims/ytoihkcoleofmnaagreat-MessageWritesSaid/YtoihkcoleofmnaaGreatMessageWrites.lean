/-
  MessageWrites: any message is written as the document says, or refused: for every input the statement's function returns true, and leaves what came in as it was.
-/
import Derived.Test.YtoihkcoleofmnaaGreatMsgY
namespace Go.Proofs.YtoihkcoleofmnaaGreat
set_option maxRecDepth 100000
set_option linter.unusedSimpArgs false
set_option linter.unusedVariables false
open Go.ChangeShapes Go.WideShapes Go.ChangeAt Go.RowKit

set_option maxHeartbeats 16000000 in
theorem messageWrites_walk (v : Value) (m : Msg.M) (W : World) (hv : IsMsg W v m) :
    Calls Tryz.prog 3 #[v] W fun e W' => e = .returned (.bool true) ∧ Below W.heap.size W W' := by
  have hbx := box_msgR
  obtain ⟨rt, et, sv, dv, rfl, hM⟩ := hv.block
  have HM := Lib.hid hM
  have hE0 := Ext.alloc W (.cells (msgCells m rt et sv dv) 35)
  clear hM hv
  go_enter Tryz.func3, Tryz.ntmps3
  go_wp2_with (refine ldMR (by rfl) _ rfl rfl HM.out ?_)
  refine (few7_any _ m _ HM.out.isMsg).mono ?_
  rintro e w1 ⟨⟨fb, rfl⟩, hE1⟩
  have M1 := Lib.hid (HM.out.ext hE1)
  have e1 := Lib.hid (hE0.trans hE1)
  obtain ⟨q, hq⟩ : ∃ q, W.heap.size = q := ⟨_, rfl⟩
  rw [hq] at M1 ⊢
  have HQ := Lib.hid hq
  clear hq hE1 hE0 HM hbx
  cases fb with
  | false =>
    go_wp2_with fail
    refine (alive7_any _).mono ?_
    rintro e w2 ⟨rfl, hE2⟩
    go_wp2_with fail
    go_ret
    exact ⟨rfl, e1.out.trans hE2⟩
  | true =>
    obtain ⟨r, hr⟩ : ∃ r, Msg.right m = r := ⟨_, rfl⟩
    obtain ⟨B, hB⟩ : ∃ B, bytesOr (Msg.right m) (Msg.enc m) = B := ⟨_, rfl⟩
    obtain ⟨er, her⟩ : ∃ er, orErr 70 (Msg.right m) = er := ⟨_, rfl⟩
    have HRT := Lib.hid (fun v w hv => hr ▸ right7_any v m w hv)
    have HRR := Lib.hid (fun v w hv => hr ▸ refRight7_any v m w hv)
    go_wp2_with (refine ldMR (by rfl) _ rfl rfl M1.out ?_)
    refine (own7_any _ m _ M1.out.isMsg).mono ?_
    rintro e w2 ⟨u2, rfl, hu2, hE2⟩
    have M2 := Lib.hid (M1.out.ext hE2)
    have e2 := Lib.hid (e1.out.trans hE2)
    have HU2 := Lib.hid hu2
    clear hu2 hE2
    go_wp2_with fail
    refine (encode7_any u2 m _ HU2.out).mono ?_
    unfold GivesEnc7
    rw [hB, her]
    rintro e w3 ⟨u3, rfl, hb3, hE3⟩
    have M3 := Lib.hid (M2.out.ext hE3)
    have e3 := Lib.hid (e2.out.trans hE3)
    have HB3 := Lib.hid hb3
    clear hb3 hE3
    go_wp2_with (refine ldMR (by rfl) _ rfl rfl M3.out ?_)
    refine (refEncode7_any _ m _ M3.out.isMsg).mono ?_
    unfold GivesEnc7
    rw [hB, her]
    rintro e w4 ⟨u4, rfl, hb4, hE4⟩
    have M4 := Lib.hid (M3.out.ext hE4)
    have e4 := Lib.hid (e3.out.trans hE4)
    have HB4 := Lib.hid hb4
    have HB3' := Lib.hid (HB3.out.below hE4)
    clear hb4 hE4 hr hB her
    go_wp2_with fail
    refine wp_region_facts (by kernel_rfl) Ext (fun iop v w => match iop with
        | 0 => v = .bool true
        | 1 => v = .bool true
        | 2 => v = u3
        | 3 => v = .string ⟨B.toArray⟩
        | 4 => v = u4
        | 5 => v = .string ⟨B.toArray⟩
        | 6 => v = .bool true
        | 7 => v = .bool true
        | 8 => v = .bool true
        | 9 => v = .int .i64 er
        | 10 => v = .int .i64 er
        | 11 => v = .bool true
        | 12 => v = .bool true
        | 13 => v = .bool true
        | 14 => v = .agg (msgCells m rt et sv dv)
        | 15 => IsMsg w v m
        | 16 => v = .bool r
        | 17 => v = .agg (msgCells m rt et sv dv)
        | 18 => v = .bool r
        | 19 => v = .bool true
        | 20 => v = .bool true
        | _ => v = .bool true
        ) (by kernel_rfl) (fun _ _ _ h k => Ext.trans h k) (fun a => Ext.refl a) (Ext.drew _) ?_ ?_ ?_
    · intro iop v wa wb hF hL
      iterate 15 (rcases iop with _ | iop; exact hF)
      rcases iop with _ | iop; (first | exact hF | exact IsMsg.below hF hL)
      iterate 5 (rcases iop with _ | iop; exact hF)
      exact hF
    · refine Obls.cons ?_ (Obls.cons ?_ (Obls.cons ?_ (Obls.cons ?_ (Obls.cons ?_ (Obls.cons ?_ (Obls.cons ?_ (Obls.cons ?_ (Obls.cons ?_ (Obls.cons ?_ (Obls.cons ?_ (Obls.cons ?_ (Obls.cons ?_ (Obls.cons ?_ (Obls.cons ?_ (Obls.cons ?_ (Obls.cons ?_ (Obls.cons ?_ (Obls.cons ?_ (Obls.cons ?_ (Obls.cons ?_ (Obls.cons ?_ (Obls.nil))))))))))))))))))))))
      · intro ev wy hp hl hk hd
        clear hk hd
        refine Yield.call rfl hp Tryz.func10 rfl (by kernel_rfl) ?_
        simp only [List.map_toArray, List.map_nil]
        exact ((alive7_any _)).mono fun _ _ ⟨he, hb⟩ => ⟨_, he, hb, by first | rfl | simp⟩
      · intro ev wy hp hl hk hd
        have e22 : ev (.tmp 22) = .bool true := hk 22 (by decide)
        clear hk hd
        exact Yield.mv rfl ⟨Ext.refl _, e22⟩
      · intro ev wy hp hl hk hd
        have e3 : ev (.tmp 3) = u3 := hk 3 (by decide)
        clear hk
        refine ⟨fun _ _ _ => ?_, fun _ hx hne => absurd hx hne⟩
        clear hd
        exact Yield.mv rfl ⟨Ext.refl _, e3⟩
      · intro ev wy hp hl hk hd
        have e24 : ev (.tmp 24) = u3 := hk 24 (by decide)
        clear hk
        refine ⟨fun _ _ _ => ?_, fun _ hx hne => absurd hx hne⟩
        clear hd
        exact Yield.conv rfl e24 (run_str _ _ 5 Tryz.underlying38 Tryz.underlying5 Tryz.underlying9 ((HB3'.out.below hl))) ⟨Ext.refl _, rfl⟩
      · intro ev wy hp hl hk hd
        have e5 : ev (.tmp 5) = u4 := hk 5 (by decide)
        clear hk
        refine ⟨fun _ _ _ => ?_, fun _ hx hne => absurd hx hne⟩
        clear hd
        exact Yield.mv rfl ⟨Ext.refl _, e5⟩
      · intro ev wy hp hl hk hd
        have e26 : ev (.tmp 26) = u4 := hk 26 (by decide)
        clear hk
        refine ⟨fun _ _ _ => ?_, fun _ hx hne => absurd hx hne⟩
        clear hd
        exact Yield.conv rfl e26 (run_str _ _ 5 Tryz.underlying38 Tryz.underlying5 Tryz.underlying9 ((HB4.out.below hl))) ⟨Ext.refl _, rfl⟩
      · intro ev wy hp hl hk hd
        have e25 : ev (.tmp 25) = .string ⟨B.toArray⟩ := hk 25 (by decide)
        have e27 : ev (.tmp 27) = .string ⟨B.toArray⟩ := hk 27 (by decide)
        clear hk
        refine ⟨fun _ _ _ => ?_, fun _ hx hne => absurd hx hne⟩
        clear hd
        exact Yield.op (v := .bool true) (w' := wy) (by simp [execOp, go_sem, e25, e27]) ⟨Ext.refl _, rfl⟩
      · intro ev wy hp hl hk hd
        have e23 : ev (.tmp 23) = .bool true := hk 23 (by decide)
        have e28 : ev (.tmp 28) = .bool true := hk 28 (by decide)
        clear hk hd
        exact Yield.pick (t := true) rfl e23 ⟨Ext.refl _, e28⟩
      · intro ev wy hp hl hk hd
        have e29 : ev (.tmp 29) = .bool true := hk 29 (by decide)
        clear hk hd
        exact Yield.mv rfl ⟨Ext.refl _, e29⟩
      · intro ev wy hp hl hk hd
        have e4 : ev (.tmp 4) = .int .i64 er := hk 4 (by decide)
        clear hk
        refine ⟨fun _ _ _ => ?_, fun _ hx hne => absurd hx hne⟩
        clear hd
        exact Yield.mv rfl ⟨Ext.refl _, e4⟩
      · intro ev wy hp hl hk hd
        have e6 : ev (.tmp 6) = .int .i64 er := hk 6 (by decide)
        clear hk
        refine ⟨fun _ _ _ => ?_, fun _ hx hne => absurd hx hne⟩
        clear hd
        exact Yield.mv rfl ⟨Ext.refl _, e6⟩
      · intro ev wy hp hl hk hd
        have e31 : ev (.tmp 31) = .int .i64 er := hk 31 (by decide)
        have e32 : ev (.tmp 32) = .int .i64 er := hk 32 (by decide)
        clear hk
        refine ⟨fun _ _ _ => ?_, fun _ hx hne => absurd hx hne⟩
        clear hd
        exact Yield.op (v := .bool true) (w' := wy) (by simp [execOp, go_sem, e31, e32]) ⟨Ext.refl _, rfl⟩
      · intro ev wy hp hl hk hd
        have e30 : ev (.tmp 30) = .bool true := hk 30 (by decide)
        have e33 : ev (.tmp 33) = .bool true := hk 33 (by decide)
        clear hk hd
        exact Yield.pick (t := true) rfl e30 ⟨Ext.refl _, e33⟩
      · intro ev wy hp hl hk hd
        have e34 : ev (.tmp 34) = .bool true := hk 34 (by decide)
        clear hk hd
        exact Yield.mv rfl ⟨Ext.refl _, e34⟩
      · intro ev wy hp hl hk hd
        have e1 : ev (.tmp 1) = .pointer (some ⟨q, 0, none⟩) := hk 1 (by decide)
        clear hk
        refine ⟨fun _ _ _ => ?_, fun _ hx hne => absurd hx hne⟩
        clear hd
        exact Yield.load rfl e1 (M4.out.ext hl).ldR ⟨Ext.refl _, rfl⟩
      · intro ev wy hp hl hk hd
        have e36 : ev (.tmp 36) = .agg (msgCells m rt et sv dv) := hk 36 (by decide)
        clear hk
        refine ⟨fun _ _ _ => ?_, fun _ hx hne => absurd hx hne⟩
        clear hd
        refine Yield.call rfl hp Tryz.func12 rfl (by kernel_rfl) ?_
        simp only [List.map_toArray, List.map_cons, List.map_nil, e36]
        exact (own7_any _ m _ (M4.out.ext hl).isMsg).mono fun e w' ⟨u, he, hu, hE⟩ => ⟨u, he, hE, hu⟩
      · intro ev wy hp hl hk hd
        have f37 : (fun (v : Value) (w : World) => IsMsg w v m) (ev (.tmp 37)) wy := hk 37 (by decide)
        generalize hx37 : ev (.tmp 37) = x37 at *
        clear hk
        refine ⟨fun _ _ _ => ?_, fun _ hx hne => absurd hx hne⟩
        clear hd
        refine Yield.call rfl hp Tryz.func14 rfl (by kernel_rfl) ?_
        simp only [List.map_toArray, List.map_cons, List.map_nil, hx37]
        exact ((HRT.out _ _ f37)).mono fun _ _ ⟨he, hb⟩ => ⟨_, he, hb, by first | rfl | simp⟩
      · intro ev wy hp hl hk hd
        have e1 : ev (.tmp 1) = .pointer (some ⟨q, 0, none⟩) := hk 1 (by decide)
        clear hk
        refine ⟨fun _ _ _ => ?_, fun _ hx hne => absurd hx hne⟩
        clear hd
        exact Yield.load rfl e1 (M4.out.ext hl).ldR ⟨Ext.refl _, rfl⟩
      · intro ev wy hp hl hk hd
        have e39 : ev (.tmp 39) = .agg (msgCells m rt et sv dv) := hk 39 (by decide)
        clear hk
        refine ⟨fun _ _ _ => ?_, fun _ hx hne => absurd hx hne⟩
        clear hd
        refine Yield.call rfl hp Tryz.func15 rfl (by kernel_rfl) ?_
        simp only [List.map_toArray, List.map_cons, List.map_nil, e39]
        exact ((HRR.out _ _ (M4.out.ext hl).isMsg)).mono fun _ _ ⟨he, hb⟩ => ⟨_, he, hb, by first | rfl | simp⟩
      · intro ev wy hp hl hk hd
        have e38 : ev (.tmp 38) = .bool r := hk 38 (by decide)
        have e40 : ev (.tmp 40) = .bool r := hk 40 (by decide)
        clear hk
        refine ⟨fun _ _ _ => ?_, fun _ hx hne => absurd hx hne⟩
        clear hd
        exact Yield.op (v := .bool true) (w' := wy) (by simp [execOp, go_sem, e38, e40]) ⟨Ext.refl _, rfl⟩
      · intro ev wy hp hl hk hd
        have e35 : ev (.tmp 35) = .bool true := hk 35 (by decide)
        have e41 : ev (.tmp 41) = .bool true := hk 41 (by decide)
        clear hk hd
        exact Yield.pick (t := true) rfl e35 ⟨Ext.refl _, e41⟩
      · intro ev wy hp hl hk hd
        have e42 : ev (.tmp 42) = .bool true := hk 42 (by decide)
        clear hk hd
        exact Yield.as rfl ⟨Ext.refl _, e42⟩
    · intro vals wz hz hv
      have g22 : vals 0 = .bool true := hv 0 (by decide)
      have g23 : vals 1 = .bool true := hv 1 (by decide)
      have g24 : vals 2 = u3 := hv 2 (by decide)
      have g25 : vals 3 = .string ⟨B.toArray⟩ := hv 3 (by decide)
      have g26 : vals 4 = u4 := hv 4 (by decide)
      have g27 : vals 5 = .string ⟨B.toArray⟩ := hv 5 (by decide)
      have g28 : vals 6 = .bool true := hv 6 (by decide)
      have g29 : vals 7 = .bool true := hv 7 (by decide)
      have g30 : vals 8 = .bool true := hv 8 (by decide)
      have g31 : vals 9 = .int .i64 er := hv 9 (by decide)
      have g32 : vals 10 = .int .i64 er := hv 10 (by decide)
      have g33 : vals 11 = .bool true := hv 11 (by decide)
      have g34 : vals 12 = .bool true := hv 12 (by decide)
      have g35 : vals 13 = .bool true := hv 13 (by decide)
      have g36 : vals 14 = .agg (msgCells m rt et sv dv) := hv 14 (by decide)
      have g37 : (fun (v : Value) (w : World) => IsMsg w v m) (vals 15) wz := hv 15 (by decide)
      have g38 : vals 16 = .bool r := hv 16 (by decide)
      have g39 : vals 17 = .agg (msgCells m rt et sv dv) := hv 17 (by decide)
      have g40 : vals 18 = .bool r := hv 18 (by decide)
      have g41 : vals 19 = .bool true := hv 19 (by decide)
      have g42 : vals 20 = .bool true := hv 20 (by decide)
      have g2 : vals 21 = .bool true := hv 21 (by decide)
      clear hv
      simp only [putAll, Act.put, List.setIfInBounds_toArray, List.set_cons_zero, List.set_cons_succ, g22, g23, g24, g25, g26, g27, g28, g29, g30, g31, g32, g33, g34, g35, g36, g38, g39, g40, g41, g42, g2]
      clear g22
      clear g23
      clear g24
      clear g25
      clear g26
      clear g27
      clear g28
      clear g29
      clear g30
      clear g31
      clear g32
      clear g33
      clear g34
      clear g35
      clear g36
      generalize vals 15 = v37 at *
      clear g38
      clear g39
      clear g40
      clear g41
      clear g42
      clear g2
      go_wp2_with fail
      go_ret
      exact ⟨rfl, e4.out.trans hz⟩

namespace messageWrites
theorem own : ownKnob Tryz.prog.godebug = none := by kernel_rfl
theorem laidOut : laidOutB Tryz.prog = true := by kernel_rfl
set_option linter.unusedVariables false in
set_option maxRecDepth 100000 in
theorem lifted (os : Os) (started : os.Started) (H : Type) (enc : TypeId × Value → H) :
    ReturnsInHanded {} Tryz.checked os 3 .any (Rows.messageWritesSpec.pre6 enc Tryz.prog Tryz.f3 Rows.messageWritesRow.domain false) (Rows.messageWritesSpec.post enc Tryz.prog Tryz.f3 false true false false) := by
  refine returnsInHanded_of_change_sized (C := Tryz.checked) own started (by kernel_rfl) Tryz.func3
    (ChangeSpec.witness6 (enc := enc) (C := Tryz.checked) false ⟨#[], #[.agg #[.int .i64 0, .int .i64 0, .int .i64 0, .int .i64 0, .int .i64 0, .int .i64 0, .bool false, .int .i64 0, .int .i64 0, .slice none 0 0, .string ByteArray.empty, .int .i64 0, .int .i64 0, .slice none 0 0, .int .i64 0, .int .i64 0, .int .i64 0, .int .i64 0, .int .i64 0, .int .i64 0, .slice none 0 0, .slice none 0 0]], []⟩ 8 (by kernel_rfl) (by kernel_rfl) (by kernel_rfl) (by kernel_rfl)) ?_
  intro W base args ds gs before hval0 hW hcnd hsz _
  have hval : ∀ (j : Nat) t v, Tryz.f3.params[j]? = some t → args[j]? = some v → Value.okWide Tryz.prog W .any base t v := hval0
  have hW' := hW
  obtain ⟨p, q, hA0, hV, rfl, hfz, hnd⟩ := hW'
  have hA : DataW.TrodAll enc Tryz.prog W 0 (fun _ => true) true Tryz.f3.params.toList args.toList ds p := hA0
  rw [Tryz.params3] at hA hval
  obtain ⟨v0, vs0, d0, ds0, p0, q0, hargs, rfl, rfl, h0, r0⟩ := trodAll_cons hA
  obtain ⟨rfl, rfl, rfl⟩ := trodAll_nil r0
  obtain rfl : args = #[v0] := by cases args; simp_all
  obtain ⟨rfl, rfl⟩ := trodVars_none hV
  have k0 := h0
  have lt0 : ∀ x ∈ p0, x.block < W.heap.size := by obtain ⟨m, hm⟩ := k0; exact DataW.trod_lt m _ _ _ hm
  obtain ⟨l0, w0⟩ := msg_arg (hval 0 35 v0 rfl rfl) h0
  clear hA0 hval0
  refine (messageWrites_walk _ l0 W w0).mono fun e W' ⟨he, bel⟩ => ?_
  subst he
  exact ⟨_, rfl, _, _, _, [], _, [], hW, trodAll_mk1 (shut_bool Tryz.underlying4 _), (trodAll_cons_mk (Below.trod laidOut (by kernel_rfl) (of_decide_eq_true (by kernel_rfl)) k0 bel lt0) trodAll_mk0), rfl, bel.frame _, fun h => by cases h⟩
theorem over : Rows.messageWritesRow.holds Tryz.pinned (OpenSpec.ofChange Rows.messageWritesSpec) :=
  OpenClaim.holds_of_wide 3 Tryz.f3 rfl rfl rfl rfl rfl rfl rfl ⟨rfl, rfl, rfl, rfl, rfl⟩ rfl rfl rfl rfl rfl (by kernel_rfl) Tryz.func3 (by kernel_rfl)
    (of_decide_eq_true (by kernel_rfl)) (by unfold Func.isWrapper; first | (rw [if_pos (by decide +kernel)]; kernel_rfl) | (rw [if_neg (by decide +kernel)]; exact ⟨rfl, rfl⟩))
    (fun os started H enc _ => lifted os started H enc)
theorem proved : Rows.MessageWritesSaid := over
end messageWrites
end Go.Proofs.YtoihkcoleofmnaaGreat
