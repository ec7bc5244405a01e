/-
  MessageSame: messages that are right are the same just if they are written alike: for every input the statement's function returns true, and leaves what came in as it was.
-/
import Derived.Test.YtldfpklgbedgjaaGreatMsgZ
namespace Go.Proofs.YtldfpklgbedgjaaGreat
set_option maxRecDepth 100000
set_option linter.unusedSimpArgs false
set_option linter.unusedVariables false
open Go.ChangeShapes Go.WideShapes Go.ChangeAt Go.RowKit

set_option maxHeartbeats 64000000 in
theorem messageSame_walk (v v2 : Value) (a b : Msg.M) (W : World) (hv : IsMsg W v a) (hu : IsMsg W v2 b) : Calls Tryz.prog 6 #[v, v2] W fun e W' => e = .returned (.bool true) ∧ Below W.heap.size W W' := by
  have hbx := box_msgR
  obtain ⟨rt, et, sv, dv, rfl, h1, h2, h3, h4⟩ := hv
  obtain ⟨rt2, et2, sv2, dv2, rfl, g1, g2, g3, g4⟩ := hu
  have hE01 := Ext.alloc W (.cells (msgCells a rt et sv dv) 35)
  have hE0 := ext_two W (.cells (msgCells a rt et sv dv) 35) (.cells (msgCells b rt2 et2 sv2 dv2) 35)
  have hsz : (W.alloc (.cells (msgCells a rt et sv dv) 35)).heap.size = W.heap.size + 1 := World.size_alloc _ _
  have HM := Lib.hid ((Msg7.new (m := a) 35 h1 h2 h3 h4).ext (Ext.alloc (W.alloc (.cells (msgCells a rt et sv dv) 35)) (.cells (msgCells b rt2 et2 sv2 dv2) 35)))
  have hmb := Msg7.new (m := b) 35 (g1.below hE01) (g2.below hE01) (g3.below hE01) (g4.below hE01)
  rw [hsz] at hmb
  have HN := Lib.hid hmb
  clear h1 h2 h3 h4 g1 g2 g3 g4 hmb hsz hE01
  go_enter Tryz.func6, Tryz.ntmps6
  go_wp2_with (refine ldMR (by rfl) _ rfl rfl HM.out ?_)
  refine (few7_any _ a _ HM.out.isMsg).mono ?_
  rintro e w0 ⟨⟨fb, rfl⟩, hEa⟩
  have M0 := Lib.hid (HM.out.ext hEa)
  have N0 := Lib.hid (HN.out.ext hEa)
  have e0 := Lib.hid (show Ext W w0 from hE0.trans hEa)
  obtain ⟨q, hq⟩ : ∃ q, W.heap.size = q := ⟨_, rfl⟩
  rw [hq] at M0 N0 ⊢
  obtain ⟨p, hpq⟩ : ∃ p, q + 1 = p := ⟨_, rfl⟩
  rw [hpq] at N0 ⊢
  clear hq hpq hEa hE0 HM HN hbx
  cases fb with
  | false =>
    go_wp2_with fail
    refine (alive7_any _).mono ?_
    rintro e w2 ⟨rfl, hE2⟩
    go_wp2_with fail
    go_ret
    exact ⟨rfl, e0.out.trans hE2⟩
  | true =>
   go_wp2_with (refine ldMR (by rfl) _ rfl rfl N0.out ?_)
   refine (few7_any _ b _ N0.out.isMsg).mono ?_
   rintro e w1 ⟨⟨fb2, rfl⟩, hE1⟩
   have M1 := Lib.hid (M0.out.ext hE1)
   have N1 := Lib.hid (N0.out.ext hE1)
   have e1 := Lib.hid (e0.out.trans hE1)
   clear hE1 M0 N0
   cases fb2 with
   | false =>
    go_wp2_with fail
    refine (alive7_any _).mono ?_
    rintro e w2 ⟨rfl, hE2⟩
    go_wp2_with fail
    go_ret
    exact ⟨rfl, e1.out.trans hE2⟩
   | true =>
    have HS := Lib.hid (fun v u w hv hu => same7_any v u a b w hv hu)
    obtain ⟨sm, hsm⟩ : ∃ sm, Msg.alike a b = sm := ⟨_, rfl⟩
    have HSM := Lib.hid hsm
    obtain ⟨B1, hB1⟩ : ∃ B1, bytesOr (Msg.right a) (Msg.enc a) = B1 := ⟨_, rfl⟩
    obtain ⟨B2, hB2⟩ : ∃ B2, bytesOr (Msg.right b) (Msg.enc b) = B2 := ⟨_, rfl⟩
    have HB1 := Lib.hid hB1
    have HB2 := Lib.hid hB2
    clear hsm
    go_wp2_with (refine ldMR (by rfl) _ rfl rfl M1.out ?_)
    refine (own7_any _ a _ M1.out.isMsg).mono ?_
    rintro e w2 ⟨u2, rfl, hu2, hE2⟩
    have M2 := Lib.hid (M1.out.ext hE2)
    have N2 := Lib.hid (N1.out.ext hE2)
    have e2 := Lib.hid (e1.out.trans hE2)
    have HU2 := Lib.hid hu2
    clear hu2 hE2
    go_wp2_with fail
    refine (encode7_any u2 a _ HU2.out).mono ?_
    unfold GivesEnc7
    rw [hB1]
    rintro e w3 ⟨u3, rfl, hb3, hE3⟩
    have M3 := Lib.hid (M2.out.ext hE3)
    have N3 := Lib.hid (N2.out.ext hE3)
    have e3 := Lib.hid (e2.out.trans hE3)
    have HB3 := Lib.hid hb3
    clear hb3 hE3
    go_wp2_with (refine ldMR (by rfl) _ rfl rfl N3.out ?_)
    refine (own7_any _ b _ N3.out.isMsg).mono ?_
    rintro e w4 ⟨u4, rfl, hu4, hE4⟩
    have M4 := Lib.hid (M3.out.ext hE4)
    have N4 := Lib.hid (N3.out.ext hE4)
    have e4 := Lib.hid (e3.out.trans hE4)
    have HB4 := Lib.hid (HB3.out.below hE4)
    have HU4 := Lib.hid hu4
    clear hu4 hE4
    go_wp2_with fail
    refine (encode7_any u4 b _ HU4.out).mono ?_
    unfold GivesEnc7
    rw [hB2]
    rintro e w5 ⟨u5, rfl, hb5, hE5⟩
    have M5 := Lib.hid (M4.out.ext hE5)
    have N5 := Lib.hid (N4.out.ext hE5)
    have e5 := Lib.hid (e4.out.trans hE5)
    have HB5 := Lib.hid hb5
    have HB35 := Lib.hid (HB4.out.below hE5)
    clear hb5 hE5 hB1 hB2
    go_wp2_with fail
    refine wp_region_facts (by kernel_rfl) Ext (fun iop v w => match iop with
        | 0 => v = .agg (msgCells a rt et sv dv)
        | 1 => IsMsg w v a
        | 2 => v = .agg (msgCells b rt2 et2 sv2 dv2)
        | 3 => IsMsg w v b
        | 4 => v = .bool sm
        | _ => v = .bool sm
        ) (by kernel_rfl) (fun _ _ _ h k => Ext.trans h k) (fun a => Ext.refl a) (Ext.drew _) ?_ ?_ ?_
    · intro iop v wa wb hF hL
      rcases iop with _ | iop; exact hF
      rcases iop with _ | iop; (first | exact hF | exact IsMsg.below hF hL)
      rcases iop with _ | iop; exact hF
      rcases iop with _ | iop; (first | exact hF | exact IsMsg.below hF hL)
      rcases iop with _ | iop; exact hF
      exact hF
    · refine Obls.cons ?_ (Obls.cons ?_ (Obls.cons ?_ (Obls.cons ?_ (Obls.cons ?_ (Obls.cons ?_ (Obls.nil))))))
      · intro ev wy hp hl hk hd
        have e2 : ev (.tmp 2) = .pointer (some ⟨q, 0, none⟩) := hk 2 (by decide)
        clear hk hd
        exact Yield.load rfl e2 (M5.out.ext hl).ldR ⟨Ext.refl _, rfl⟩
      · intro ev wy hp hl hk hd
        have e31 : ev (.tmp 31) = .agg (msgCells a rt et sv dv) := hk 31 (by decide)
        clear hk hd
        refine Yield.call rfl hp Tryz.func12 rfl (by kernel_rfl) ?_
        simp only [List.map_toArray, List.map_cons, List.map_nil, e31]
        exact (own7_any _ a _ (M5.out.ext hl).isMsg).mono fun e w' ⟨u, he, hu, hE⟩ => ⟨u, he, hE, hu⟩
      · intro ev wy hp hl hk hd
        have e3 : ev (.tmp 3) = .pointer (some ⟨p, 0, none⟩) := hk 3 (by decide)
        clear hk hd
        exact Yield.load rfl e3 (N5.out.ext hl).ldR ⟨Ext.refl _, rfl⟩
      · intro ev wy hp hl hk hd
        have e33 : ev (.tmp 33) = .agg (msgCells b rt2 et2 sv2 dv2) := hk 33 (by decide)
        clear hk hd
        refine Yield.call rfl hp Tryz.func12 rfl (by kernel_rfl) ?_
        simp only [List.map_toArray, List.map_cons, List.map_nil, e33]
        exact (own7_any _ b _ (N5.out.ext hl).isMsg).mono fun e w' ⟨u, he, hu, hE⟩ => ⟨u, he, hE, hu⟩
      · intro ev wy hp hl hk hd
        have f32 : (fun (v : Value) (w : World) => IsMsg w v a) (ev (.tmp 32)) wy := hk 32 (by decide)
        generalize hx32 : ev (.tmp 32) = x32 at *
        have f34 : (fun (v : Value) (w : World) => IsMsg w v b) (ev (.tmp 34)) wy := hk 34 (by decide)
        generalize hx34 : ev (.tmp 34) = x34 at *
        clear hk hd
        refine Yield.call rfl hp Tryz.func20 rfl (by kernel_rfl) ?_
        simp only [List.map_toArray, List.map_cons, List.map_nil, hx32, hx34]
        exact ((HSM.out ▸ same7_any _ _ a b _ f32 f34)).mono fun _ _ ⟨he, hb⟩ => ⟨_, he, hb, by first | rfl | simp⟩
      · intro ev wy hp hl hk hd
        have e35 : ev (.tmp 35) = .bool sm := hk 35 (by decide)
        clear hk hd
        exact Yield.as rfl ⟨Ext.refl _, e35⟩
    · intro vals wz hz hv
      have g31 : vals 0 = .agg (msgCells a rt et sv dv) := hv 0 (by decide)
      have g32 : (fun (v : Value) (w : World) => IsMsg w v a) (vals 1) wz := hv 1 (by decide)
      have g33 : vals 2 = .agg (msgCells b rt2 et2 sv2 dv2) := hv 2 (by decide)
      have g34 : (fun (v : Value) (w : World) => IsMsg w v b) (vals 3) wz := hv 3 (by decide)
      have g35 : vals 4 = .bool sm := hv 4 (by decide)
      have g9 : vals 5 = .bool sm := hv 5 (by decide)
      clear hv
      simp only [putAll, Act.put, List.setIfInBounds_toArray, List.set_cons_zero, List.set_cons_succ, g31, g33, g35, g9]
      clear g31
      generalize vals 1 = v32 at *
      clear g33
      generalize vals 3 = v34 at *
      clear g35
      clear g9
      obtain ⟨w6, hw6⟩ : ∃ w6, w6 = wz := ⟨_, rfl⟩
      rw [← hw6] at hz g32 g34 ⊢
      clear hw6 g32 g34
      have M6 := Lib.hid (M5.out.ext hz)
      have N6 := Lib.hid (N5.out.ext hz)
      have e6 := Lib.hid (e5.out.trans hz)
      have HC1 := Lib.hid (HB35.out.below hz)
      have HC2 := Lib.hid (HB5.out.below hz)
      clear hz M5 N5
      go_wp2_with fail
      cases hr1 : Msg.right a with
      | false =>
        cases hr2 : Msg.right b with
        | false =>
          clear hr1 hr2
          refine wp_region_facts (by kernel_rfl) Ext (fun iop v w => match iop with
              | 0 => v = .bool true
              | 1 => v = .bool true
              | 2 => v = .bool sm
              | 3 => v = .agg (msgCells a rt et sv dv)
              | 4 => v = .agg (msgCells b rt2 et2 sv2 dv2)
              | 5 => v = .bool sm
              | 6 => v = .bool true
              | 7 => v = .bool true
              | 8 => v = .bool true
              | 9 => v = .agg (msgCells a rt et sv dv)
              | 10 => IsMsg w v a
              | 11 => v = .agg (msgCells a rt et sv dv)
              | 12 => IsMsg w v a
              | 13 => v = .bool true
              | 14 => v = .bool true
              | 15 => v = .bool true
              | 16 => v = .int .i64 70
              | 17 => v = .bool true
              | 18 => v = .bool true
              | 19 => v = undef
              | 20 => v = undef
              | 21 => v = .bool true
              | 22 => v = .bool true
              | 23 => v = undef
              | 24 => v = undef
              | 25 => v = undef
              | 26 => v = undef
              | 27 => v = undef
              | 28 => v = undef
              | 29 => v = undef
              | 30 => v = .bool true
              | 31 => v = .bool true
              | _ => v = .bool true
              ) (by kernel_rfl) (fun _ _ _ h k => Ext.trans h k) (fun a => Ext.refl a) (Ext.drew _) ?_ ?_ ?_
          · intro iop v wa wb hF hL
            iterate 10 (rcases iop with _ | iop; exact hF)
            rcases iop with _ | iop; (first | exact hF | exact IsMsg.below hF hL)
            rcases iop with _ | iop; exact hF
            rcases iop with _ | iop; (first | exact hF | exact IsMsg.below hF hL)
            iterate 19 (rcases iop with _ | iop; exact hF)
            exact hF
          · refine Obls.cons ?_ (Obls.cons ?_ (Obls.cons ?_ (Obls.cons ?_ (Obls.cons ?_ (Obls.cons ?_ (Obls.cons ?_ (Obls.cons ?_ (Obls.cons ?_ (Obls.cons ?_ (Obls.cons ?_ (Obls.cons ?_ (Obls.cons ?_ (Obls.cons ?_ (Obls.cons ?_ (Obls.cons ?_ (Obls.cons ?_ (Obls.cons ?_ (Obls.cons ?_ (Obls.cons ?_ (Obls.cons ?_ (Obls.cons ?_ (Obls.cons ?_ (Obls.cons ?_ (Obls.cons ?_ (Obls.cons ?_ (Obls.cons ?_ (Obls.cons ?_ (Obls.cons ?_ (Obls.cons ?_ (Obls.cons ?_ (Obls.cons ?_ (Obls.cons ?_ (Obls.nil)))))))))))))))))))))))))))))))))
            · intro ev wy hp hl hk hd
              clear hk hd
              refine Yield.call rfl hp Tryz.func10 rfl (by kernel_rfl) ?_
              simp only [List.map_toArray, List.map_nil]
              exact ((alive7_any _)).mono fun _ _ ⟨he, hb⟩ => ⟨_, he, hb, by first | rfl | simp⟩
            · intro ev wy hp hl hk hd
              have e36 : ev (.tmp 36) = .bool true := hk 36 (by decide)
              clear hk hd
              exact Yield.mv rfl ⟨Ext.refl _, e36⟩
            · intro ev wy hp hl hk hd
              have e9 : ev (.tmp 9) = .bool sm := hk 9 (by decide)
              clear hk
              refine ⟨fun _ _ _ => ?_, fun _ hx hne => absurd hx hne⟩
              clear hd
              exact Yield.mv rfl ⟨Ext.refl _, e9⟩
            · intro ev wy hp hl hk hd
              have e2 : ev (.tmp 2) = .pointer (some ⟨q, 0, none⟩) := hk 2 (by decide)
              clear hk
              refine ⟨fun _ _ _ => ?_, fun _ hx hne => absurd hx hne⟩
              clear hd
              exact Yield.load rfl e2 (M6.out.ext hl).ldR ⟨Ext.refl _, rfl⟩
            · intro ev wy hp hl hk hd
              have e3 : ev (.tmp 3) = .pointer (some ⟨p, 0, none⟩) := hk 3 (by decide)
              clear hk
              refine ⟨fun _ _ _ => ?_, fun _ hx hne => absurd hx hne⟩
              clear hd
              exact Yield.load rfl e3 (N6.out.ext hl).ldR ⟨Ext.refl _, rfl⟩
            · intro ev wy hp hl hk hd
              have e39 : ev (.tmp 39) = .agg (msgCells a rt et sv dv) := hk 39 (by decide)
              have e40 : ev (.tmp 40) = .agg (msgCells b rt2 et2 sv2 dv2) := hk 40 (by decide)
              clear hk
              refine ⟨fun _ _ _ => ?_, fun _ hx hne => absurd hx hne⟩
              clear hd
              refine Yield.call rfl hp Tryz.func18 rfl (by kernel_rfl) ?_
              simp only [List.map_toArray, List.map_cons, List.map_nil, e39, e40]
              exact ((HSM.out ▸ refSame7_any _ _ a b _ (M6.out.ext hl).isMsg (N6.out.ext hl).isMsg)).mono fun _ _ ⟨he, hb⟩ => ⟨_, he, hb, by first | rfl | simp⟩
            · intro ev wy hp hl hk hd
              have e38 : ev (.tmp 38) = .bool sm := hk 38 (by decide)
              have e41 : ev (.tmp 41) = .bool sm := hk 41 (by decide)
              clear hk
              refine ⟨fun _ _ _ => ?_, fun _ hx hne => absurd hx hne⟩
              clear hd
              exact Yield.op (v := .bool true) (w' := wy) (by simp [execOp, go_sem, e38, e41]) ⟨Ext.refl _, rfl⟩
            · intro ev wy hp hl hk hd
              have e37 : ev (.tmp 37) = .bool true := hk 37 (by decide)
              have e42 : ev (.tmp 42) = .bool true := hk 42 (by decide)
              clear hk hd
              exact Yield.pick (t := true) rfl e37 ⟨Ext.refl _, e42⟩
            · intro ev wy hp hl hk hd
              have e43 : ev (.tmp 43) = .bool true := hk 43 (by decide)
              clear hk hd
              exact Yield.mv rfl ⟨Ext.refl _, e43⟩
            · intro ev wy hp hl hk hd
              have e2 : ev (.tmp 2) = .pointer (some ⟨q, 0, none⟩) := hk 2 (by decide)
              clear hk
              refine ⟨fun _ _ _ => ?_, fun _ hx hne => absurd hx hne⟩
              clear hd
              exact Yield.load rfl e2 (M6.out.ext hl).ldR ⟨Ext.refl _, rfl⟩
            · intro ev wy hp hl hk hd
              have e45 : ev (.tmp 45) = .agg (msgCells a rt et sv dv) := hk 45 (by decide)
              clear hk
              refine ⟨fun _ _ _ => ?_, fun _ hx hne => absurd hx hne⟩
              clear hd
              refine Yield.call rfl hp Tryz.func12 rfl (by kernel_rfl) ?_
              simp only [List.map_toArray, List.map_cons, List.map_nil, e45]
              exact (own7_any _ a _ (M6.out.ext hl).isMsg).mono fun e w' ⟨u, he, hu, hE⟩ => ⟨u, he, hE, hu⟩
            · intro ev wy hp hl hk hd
              have e2 : ev (.tmp 2) = .pointer (some ⟨q, 0, none⟩) := hk 2 (by decide)
              clear hk
              refine ⟨fun _ _ _ => ?_, fun _ hx hne => absurd hx hne⟩
              clear hd
              exact Yield.load rfl e2 (M6.out.ext hl).ldR ⟨Ext.refl _, rfl⟩
            · intro ev wy hp hl hk hd
              have e47 : ev (.tmp 47) = .agg (msgCells a rt et sv dv) := hk 47 (by decide)
              clear hk
              refine ⟨fun _ _ _ => ?_, fun _ hx hne => absurd hx hne⟩
              clear hd
              refine Yield.call rfl hp Tryz.func12 rfl (by kernel_rfl) ?_
              simp only [List.map_toArray, List.map_cons, List.map_nil, e47]
              exact (own7_any _ a _ (M6.out.ext hl).isMsg).mono fun e w' ⟨u, he, hu, hE⟩ => ⟨u, he, hE, hu⟩
            · intro ev wy hp hl hk hd
              have f46 : (fun (v : Value) (w : World) => IsMsg w v a) (ev (.tmp 46)) wy := hk 46 (by decide)
              generalize hx46 : ev (.tmp 46) = x46 at *
              have f48 : (fun (v : Value) (w : World) => IsMsg w v a) (ev (.tmp 48)) wy := hk 48 (by decide)
              generalize hx48 : ev (.tmp 48) = x48 at *
              clear hk
              refine ⟨fun _ _ _ => ?_, fun _ hx hne => absurd hx hne⟩
              clear hd
              refine Yield.call rfl hp Tryz.func20 rfl (by kernel_rfl) ?_
              simp only [List.map_toArray, List.map_cons, List.map_nil, hx46, hx48]
              exact ((Msg.alike_self a ▸ same7_any _ _ a a _ f46 f48)).mono fun _ _ ⟨he, hb⟩ => ⟨_, he, hb, by first | rfl | simp⟩
            · intro ev wy hp hl hk hd
              have e44 : ev (.tmp 44) = .bool true := hk 44 (by decide)
              have e49 : ev (.tmp 49) = .bool true := hk 49 (by decide)
              clear hk hd
              exact Yield.pick (t := true) rfl e44 ⟨Ext.refl _, e49⟩
            · intro ev wy hp hl hk hd
              have e50 : ev (.tmp 50) = .bool true := hk 50 (by decide)
              clear hk hd
              exact Yield.mv rfl ⟨Ext.refl _, e50⟩
            · intro ev wy hp hl hk hd
              have e6 : ev (.tmp 6) = .int .i64 70 := hk 6 (by decide)
              clear hk
              refine ⟨fun _ _ _ => ?_, fun _ hx hne => absurd hx hne⟩
              clear hd
              exact Yield.mv rfl ⟨Ext.refl _, e6⟩
            · intro ev wy hp hl hk hd
              have e52 : ev (.tmp 52) = .int .i64 70 := hk 52 (by decide)
              clear hk
              refine ⟨fun _ _ _ => ?_, fun _ hx hne => absurd hx hne⟩
              clear hd
              exact Yield.op (v := .bool true) (w' := wy) (by simp [execOp, go_sem, e52, hp.const]) ⟨Ext.refl _, rfl⟩
            · intro ev wy hp hl hk hd
              have e53 : ev (.tmp 53) = .bool true := hk 53 (by decide)
              clear hk
              refine ⟨fun _ _ _ => ?_, fun _ hx hne => absurd hx hne⟩
              clear hd
              exact Yield.mv rfl ⟨Ext.refl _, e53⟩
            · intro ev wy hp hl hk hd
              have e8 : ev (.tmp 8) = .int .i64 70 := hk 8 (by decide)
              clear hk
              exact ⟨fun x hx he => (by rw [show x = .bool true from hx] at he; cases he), fun _ _ _ => rfl⟩
            · intro ev wy hp hl hk hd
              have e55 : ev (.tmp 55) = undef := hk 55 (by decide)
              clear hk
              exact ⟨fun x hx he => (by rw [show x = .bool true from hx] at he; cases he), fun _ _ _ => rfl⟩
            · intro ev wy hp hl hk hd
              have e54 : ev (.tmp 54) = .bool true := hk 54 (by decide)
              have e56 : ev (.tmp 56) = undef := hk 56 (by decide)
              clear hk
              refine ⟨fun _ _ _ => ?_, fun _ hx hne => absurd hx hne⟩
              clear hd
              exact Yield.pick (t := true) rfl e54 ⟨Ext.refl _, hp.const _⟩
            · intro ev wy hp hl hk hd
              have e57 : ev (.tmp 57) = .bool true := hk 57 (by decide)
              clear hk
              refine ⟨fun _ _ _ => ?_, fun _ hx hne => absurd hx hne⟩
              clear hd
              exact Yield.mv rfl ⟨Ext.refl _, e57⟩
            · intro ev wy hp hl hk hd
              have e5 : ev (.tmp 5) = u3 := hk 5 (by decide)
              clear hk
              exact ⟨fun x hx he => (by rw [show x = .bool true from hx] at he; cases he), fun _ _ _ => rfl⟩
            · intro ev wy hp hl hk hd
              have e59 : ev (.tmp 59) = undef := hk 59 (by decide)
              clear hk
              exact ⟨fun x hx he => (by rw [show x = .bool true from hx] at he; cases he), fun _ _ _ => rfl⟩
            · intro ev wy hp hl hk hd
              have e7 : ev (.tmp 7) = u5 := hk 7 (by decide)
              clear hk
              exact ⟨fun x hx he => (by rw [show x = .bool true from hx] at he; cases he), fun _ _ _ => rfl⟩
            · intro ev wy hp hl hk hd
              have e61 : ev (.tmp 61) = undef := hk 61 (by decide)
              clear hk
              exact ⟨fun x hx he => (by rw [show x = .bool true from hx] at he; cases he), fun _ _ _ => rfl⟩
            · intro ev wy hp hl hk hd
              have e60 : ev (.tmp 60) = undef := hk 60 (by decide)
              have e62 : ev (.tmp 62) = undef := hk 62 (by decide)
              clear hk
              exact ⟨fun x hx he => (by rw [show x = .bool true from hx] at he; cases he), fun _ _ _ => rfl⟩
            · intro ev wy hp hl hk hd
              have e9 : ev (.tmp 9) = .bool sm := hk 9 (by decide)
              clear hk
              exact ⟨fun x hx he => (by rw [show x = .bool true from hx] at he; cases he), fun _ _ _ => rfl⟩
            · intro ev wy hp hl hk hd
              have e63 : ev (.tmp 63) = undef := hk 63 (by decide)
              have e64 : ev (.tmp 64) = undef := hk 64 (by decide)
              clear hk
              exact ⟨fun x hx he => (by rw [show x = .bool true from hx] at he; cases he), fun _ _ _ => rfl⟩
            · intro ev wy hp hl hk hd
              have e58 : ev (.tmp 58) = .bool true := hk 58 (by decide)
              have e65 : ev (.tmp 65) = undef := hk 65 (by decide)
              clear hk
              refine ⟨fun _ _ _ => ?_, fun _ hx hne => absurd hx hne⟩
              clear hd
              exact Yield.pick (t := true) rfl e58 ⟨Ext.refl _, hp.const _⟩
            · intro ev wy hp hl hk hd
              have e51 : ev (.tmp 51) = .bool true := hk 51 (by decide)
              have e66 : ev (.tmp 66) = .bool true := hk 66 (by decide)
              clear hk hd
              exact Yield.pick (t := true) rfl e51 ⟨Ext.refl _, e66⟩
            · intro ev wy hp hl hk hd
              have e67 : ev (.tmp 67) = .bool true := hk 67 (by decide)
              clear hk hd
              exact Yield.as rfl ⟨Ext.refl _, e67⟩
          · intro vals wz hz hv
            have g36 : vals 0 = .bool true := hv 0 (by decide)
            have g37 : vals 1 = .bool true := hv 1 (by decide)
            have g38 : vals 2 = .bool sm := hv 2 (by decide)
            have g39 : vals 3 = .agg (msgCells a rt et sv dv) := hv 3 (by decide)
            have g40 : vals 4 = .agg (msgCells b rt2 et2 sv2 dv2) := hv 4 (by decide)
            have g41 : vals 5 = .bool sm := hv 5 (by decide)
            have g42 : vals 6 = .bool true := hv 6 (by decide)
            have g43 : vals 7 = .bool true := hv 7 (by decide)
            have g44 : vals 8 = .bool true := hv 8 (by decide)
            have g45 : vals 9 = .agg (msgCells a rt et sv dv) := hv 9 (by decide)
            have g46 : (fun (v : Value) (w : World) => IsMsg w v a) (vals 10) wz := hv 10 (by decide)
            have g47 : vals 11 = .agg (msgCells a rt et sv dv) := hv 11 (by decide)
            have g48 : (fun (v : Value) (w : World) => IsMsg w v a) (vals 12) wz := hv 12 (by decide)
            have g49 : vals 13 = .bool true := hv 13 (by decide)
            have g50 : vals 14 = .bool true := hv 14 (by decide)
            have g51 : vals 15 = .bool true := hv 15 (by decide)
            have g52 : vals 16 = .int .i64 70 := hv 16 (by decide)
            have g53 : vals 17 = .bool true := hv 17 (by decide)
            have g54 : vals 18 = .bool true := hv 18 (by decide)
            have g55 : vals 19 = undef := hv 19 (by decide)
            have g56 : vals 20 = undef := hv 20 (by decide)
            have g57 : vals 21 = .bool true := hv 21 (by decide)
            have g58 : vals 22 = .bool true := hv 22 (by decide)
            have g59 : vals 23 = undef := hv 23 (by decide)
            have g60 : vals 24 = undef := hv 24 (by decide)
            have g61 : vals 25 = undef := hv 25 (by decide)
            have g62 : vals 26 = undef := hv 26 (by decide)
            have g63 : vals 27 = undef := hv 27 (by decide)
            have g64 : vals 28 = undef := hv 28 (by decide)
            have g65 : vals 29 = undef := hv 29 (by decide)
            have g66 : vals 30 = .bool true := hv 30 (by decide)
            have g67 : vals 31 = .bool true := hv 31 (by decide)
            have g4 : vals 32 = .bool true := hv 32 (by decide)
            clear hv
            simp only [putAll, Act.put, List.setIfInBounds_toArray, List.set_cons_zero, List.set_cons_succ, g36, g37, g38, g39, g40, g41, g42, g43, g44, g45, g47, g49, g50, g51, g52, g53, g54, g55, g56, g57, g58, g59, g60, g61, g62, g63, g64, g65, g66, g67, g4]
            clear g36
            clear g37
            clear g38
            clear g39
            clear g40
            clear g41
            clear g42
            clear g43
            clear g44
            clear g45
            generalize vals 10 = v46 at *
            clear g47
            generalize vals 12 = v48 at *
            clear g49
            clear g50
            clear g51
            clear g52
            clear g53
            clear g54
            clear g55
            clear g56
            clear g57
            clear g58
            clear g59
            clear g60
            clear g61
            clear g62
            clear g63
            clear g64
            clear g65
            clear g66
            clear g67
            clear g4
            go_wp2_with fail
            go_ret
            exact ⟨rfl, e6.out.trans hz⟩
        | true =>
          clear hr1 hr2
          refine wp_region_facts (by kernel_rfl) Ext (fun iop v w => match iop with
              | 0 => v = .bool true
              | 1 => v = .bool true
              | 2 => v = .bool sm
              | 3 => v = .agg (msgCells a rt et sv dv)
              | 4 => v = .agg (msgCells b rt2 et2 sv2 dv2)
              | 5 => v = .bool sm
              | 6 => v = .bool true
              | 7 => v = .bool true
              | 8 => v = .bool true
              | 9 => v = .agg (msgCells a rt et sv dv)
              | 10 => IsMsg w v a
              | 11 => v = .agg (msgCells a rt et sv dv)
              | 12 => IsMsg w v a
              | 13 => v = .bool true
              | 14 => v = .bool true
              | 15 => v = .bool true
              | 16 => v = .int .i64 70
              | 17 => v = .bool true
              | 18 => v = .bool true
              | 19 => v = undef
              | 20 => v = undef
              | 21 => v = .bool true
              | 22 => v = .bool true
              | 23 => v = undef
              | 24 => v = undef
              | 25 => v = undef
              | 26 => v = undef
              | 27 => v = undef
              | 28 => v = undef
              | 29 => v = undef
              | 30 => v = .bool true
              | 31 => v = .bool true
              | _ => v = .bool true
              ) (by kernel_rfl) (fun _ _ _ h k => Ext.trans h k) (fun a => Ext.refl a) (Ext.drew _) ?_ ?_ ?_
          · intro iop v wa wb hF hL
            iterate 10 (rcases iop with _ | iop; exact hF)
            rcases iop with _ | iop; (first | exact hF | exact IsMsg.below hF hL)
            rcases iop with _ | iop; exact hF
            rcases iop with _ | iop; (first | exact hF | exact IsMsg.below hF hL)
            iterate 19 (rcases iop with _ | iop; exact hF)
            exact hF
          · refine Obls.cons ?_ (Obls.cons ?_ (Obls.cons ?_ (Obls.cons ?_ (Obls.cons ?_ (Obls.cons ?_ (Obls.cons ?_ (Obls.cons ?_ (Obls.cons ?_ (Obls.cons ?_ (Obls.cons ?_ (Obls.cons ?_ (Obls.cons ?_ (Obls.cons ?_ (Obls.cons ?_ (Obls.cons ?_ (Obls.cons ?_ (Obls.cons ?_ (Obls.cons ?_ (Obls.cons ?_ (Obls.cons ?_ (Obls.cons ?_ (Obls.cons ?_ (Obls.cons ?_ (Obls.cons ?_ (Obls.cons ?_ (Obls.cons ?_ (Obls.cons ?_ (Obls.cons ?_ (Obls.cons ?_ (Obls.cons ?_ (Obls.cons ?_ (Obls.cons ?_ (Obls.nil)))))))))))))))))))))))))))))))))
            · intro ev wy hp hl hk hd
              clear hk hd
              refine Yield.call rfl hp Tryz.func10 rfl (by kernel_rfl) ?_
              simp only [List.map_toArray, List.map_nil]
              exact ((alive7_any _)).mono fun _ _ ⟨he, hb⟩ => ⟨_, he, hb, by first | rfl | simp⟩
            · intro ev wy hp hl hk hd
              have e36 : ev (.tmp 36) = .bool true := hk 36 (by decide)
              clear hk hd
              exact Yield.mv rfl ⟨Ext.refl _, e36⟩
            · intro ev wy hp hl hk hd
              have e9 : ev (.tmp 9) = .bool sm := hk 9 (by decide)
              clear hk
              refine ⟨fun _ _ _ => ?_, fun _ hx hne => absurd hx hne⟩
              clear hd
              exact Yield.mv rfl ⟨Ext.refl _, e9⟩
            · intro ev wy hp hl hk hd
              have e2 : ev (.tmp 2) = .pointer (some ⟨q, 0, none⟩) := hk 2 (by decide)
              clear hk
              refine ⟨fun _ _ _ => ?_, fun _ hx hne => absurd hx hne⟩
              clear hd
              exact Yield.load rfl e2 (M6.out.ext hl).ldR ⟨Ext.refl _, rfl⟩
            · intro ev wy hp hl hk hd
              have e3 : ev (.tmp 3) = .pointer (some ⟨p, 0, none⟩) := hk 3 (by decide)
              clear hk
              refine ⟨fun _ _ _ => ?_, fun _ hx hne => absurd hx hne⟩
              clear hd
              exact Yield.load rfl e3 (N6.out.ext hl).ldR ⟨Ext.refl _, rfl⟩
            · intro ev wy hp hl hk hd
              have e39 : ev (.tmp 39) = .agg (msgCells a rt et sv dv) := hk 39 (by decide)
              have e40 : ev (.tmp 40) = .agg (msgCells b rt2 et2 sv2 dv2) := hk 40 (by decide)
              clear hk
              refine ⟨fun _ _ _ => ?_, fun _ hx hne => absurd hx hne⟩
              clear hd
              refine Yield.call rfl hp Tryz.func18 rfl (by kernel_rfl) ?_
              simp only [List.map_toArray, List.map_cons, List.map_nil, e39, e40]
              exact ((HSM.out ▸ refSame7_any _ _ a b _ (M6.out.ext hl).isMsg (N6.out.ext hl).isMsg)).mono fun _ _ ⟨he, hb⟩ => ⟨_, he, hb, by first | rfl | simp⟩
            · intro ev wy hp hl hk hd
              have e38 : ev (.tmp 38) = .bool sm := hk 38 (by decide)
              have e41 : ev (.tmp 41) = .bool sm := hk 41 (by decide)
              clear hk
              refine ⟨fun _ _ _ => ?_, fun _ hx hne => absurd hx hne⟩
              clear hd
              exact Yield.op (v := .bool true) (w' := wy) (by simp [execOp, go_sem, e38, e41]) ⟨Ext.refl _, rfl⟩
            · intro ev wy hp hl hk hd
              have e37 : ev (.tmp 37) = .bool true := hk 37 (by decide)
              have e42 : ev (.tmp 42) = .bool true := hk 42 (by decide)
              clear hk hd
              exact Yield.pick (t := true) rfl e37 ⟨Ext.refl _, e42⟩
            · intro ev wy hp hl hk hd
              have e43 : ev (.tmp 43) = .bool true := hk 43 (by decide)
              clear hk hd
              exact Yield.mv rfl ⟨Ext.refl _, e43⟩
            · intro ev wy hp hl hk hd
              have e2 : ev (.tmp 2) = .pointer (some ⟨q, 0, none⟩) := hk 2 (by decide)
              clear hk
              refine ⟨fun _ _ _ => ?_, fun _ hx hne => absurd hx hne⟩
              clear hd
              exact Yield.load rfl e2 (M6.out.ext hl).ldR ⟨Ext.refl _, rfl⟩
            · intro ev wy hp hl hk hd
              have e45 : ev (.tmp 45) = .agg (msgCells a rt et sv dv) := hk 45 (by decide)
              clear hk
              refine ⟨fun _ _ _ => ?_, fun _ hx hne => absurd hx hne⟩
              clear hd
              refine Yield.call rfl hp Tryz.func12 rfl (by kernel_rfl) ?_
              simp only [List.map_toArray, List.map_cons, List.map_nil, e45]
              exact (own7_any _ a _ (M6.out.ext hl).isMsg).mono fun e w' ⟨u, he, hu, hE⟩ => ⟨u, he, hE, hu⟩
            · intro ev wy hp hl hk hd
              have e2 : ev (.tmp 2) = .pointer (some ⟨q, 0, none⟩) := hk 2 (by decide)
              clear hk
              refine ⟨fun _ _ _ => ?_, fun _ hx hne => absurd hx hne⟩
              clear hd
              exact Yield.load rfl e2 (M6.out.ext hl).ldR ⟨Ext.refl _, rfl⟩
            · intro ev wy hp hl hk hd
              have e47 : ev (.tmp 47) = .agg (msgCells a rt et sv dv) := hk 47 (by decide)
              clear hk
              refine ⟨fun _ _ _ => ?_, fun _ hx hne => absurd hx hne⟩
              clear hd
              refine Yield.call rfl hp Tryz.func12 rfl (by kernel_rfl) ?_
              simp only [List.map_toArray, List.map_cons, List.map_nil, e47]
              exact (own7_any _ a _ (M6.out.ext hl).isMsg).mono fun e w' ⟨u, he, hu, hE⟩ => ⟨u, he, hE, hu⟩
            · intro ev wy hp hl hk hd
              have f46 : (fun (v : Value) (w : World) => IsMsg w v a) (ev (.tmp 46)) wy := hk 46 (by decide)
              generalize hx46 : ev (.tmp 46) = x46 at *
              have f48 : (fun (v : Value) (w : World) => IsMsg w v a) (ev (.tmp 48)) wy := hk 48 (by decide)
              generalize hx48 : ev (.tmp 48) = x48 at *
              clear hk
              refine ⟨fun _ _ _ => ?_, fun _ hx hne => absurd hx hne⟩
              clear hd
              refine Yield.call rfl hp Tryz.func20 rfl (by kernel_rfl) ?_
              simp only [List.map_toArray, List.map_cons, List.map_nil, hx46, hx48]
              exact ((Msg.alike_self a ▸ same7_any _ _ a a _ f46 f48)).mono fun _ _ ⟨he, hb⟩ => ⟨_, he, hb, by first | rfl | simp⟩
            · intro ev wy hp hl hk hd
              have e44 : ev (.tmp 44) = .bool true := hk 44 (by decide)
              have e49 : ev (.tmp 49) = .bool true := hk 49 (by decide)
              clear hk hd
              exact Yield.pick (t := true) rfl e44 ⟨Ext.refl _, e49⟩
            · intro ev wy hp hl hk hd
              have e50 : ev (.tmp 50) = .bool true := hk 50 (by decide)
              clear hk hd
              exact Yield.mv rfl ⟨Ext.refl _, e50⟩
            · intro ev wy hp hl hk hd
              have e6 : ev (.tmp 6) = .int .i64 70 := hk 6 (by decide)
              clear hk
              refine ⟨fun _ _ _ => ?_, fun _ hx hne => absurd hx hne⟩
              clear hd
              exact Yield.mv rfl ⟨Ext.refl _, e6⟩
            · intro ev wy hp hl hk hd
              have e52 : ev (.tmp 52) = .int .i64 70 := hk 52 (by decide)
              clear hk
              refine ⟨fun _ _ _ => ?_, fun _ hx hne => absurd hx hne⟩
              clear hd
              exact Yield.op (v := .bool true) (w' := wy) (by simp [execOp, go_sem, e52, hp.const]) ⟨Ext.refl _, rfl⟩
            · intro ev wy hp hl hk hd
              have e53 : ev (.tmp 53) = .bool true := hk 53 (by decide)
              clear hk
              refine ⟨fun _ _ _ => ?_, fun _ hx hne => absurd hx hne⟩
              clear hd
              exact Yield.mv rfl ⟨Ext.refl _, e53⟩
            · intro ev wy hp hl hk hd
              have e8 : ev (.tmp 8) = .int .i64 0 := hk 8 (by decide)
              clear hk
              exact ⟨fun x hx he => (by rw [show x = .bool true from hx] at he; cases he), fun _ _ _ => rfl⟩
            · intro ev wy hp hl hk hd
              have e55 : ev (.tmp 55) = undef := hk 55 (by decide)
              clear hk
              exact ⟨fun x hx he => (by rw [show x = .bool true from hx] at he; cases he), fun _ _ _ => rfl⟩
            · intro ev wy hp hl hk hd
              have e54 : ev (.tmp 54) = .bool true := hk 54 (by decide)
              have e56 : ev (.tmp 56) = undef := hk 56 (by decide)
              clear hk
              refine ⟨fun _ _ _ => ?_, fun _ hx hne => absurd hx hne⟩
              clear hd
              exact Yield.pick (t := true) rfl e54 ⟨Ext.refl _, hp.const _⟩
            · intro ev wy hp hl hk hd
              have e57 : ev (.tmp 57) = .bool true := hk 57 (by decide)
              clear hk
              refine ⟨fun _ _ _ => ?_, fun _ hx hne => absurd hx hne⟩
              clear hd
              exact Yield.mv rfl ⟨Ext.refl _, e57⟩
            · intro ev wy hp hl hk hd
              have e5 : ev (.tmp 5) = u3 := hk 5 (by decide)
              clear hk
              exact ⟨fun x hx he => (by rw [show x = .bool true from hx] at he; cases he), fun _ _ _ => rfl⟩
            · intro ev wy hp hl hk hd
              have e59 : ev (.tmp 59) = undef := hk 59 (by decide)
              clear hk
              exact ⟨fun x hx he => (by rw [show x = .bool true from hx] at he; cases he), fun _ _ _ => rfl⟩
            · intro ev wy hp hl hk hd
              have e7 : ev (.tmp 7) = u5 := hk 7 (by decide)
              clear hk
              exact ⟨fun x hx he => (by rw [show x = .bool true from hx] at he; cases he), fun _ _ _ => rfl⟩
            · intro ev wy hp hl hk hd
              have e61 : ev (.tmp 61) = undef := hk 61 (by decide)
              clear hk
              exact ⟨fun x hx he => (by rw [show x = .bool true from hx] at he; cases he), fun _ _ _ => rfl⟩
            · intro ev wy hp hl hk hd
              have e60 : ev (.tmp 60) = undef := hk 60 (by decide)
              have e62 : ev (.tmp 62) = undef := hk 62 (by decide)
              clear hk
              exact ⟨fun x hx he => (by rw [show x = .bool true from hx] at he; cases he), fun _ _ _ => rfl⟩
            · intro ev wy hp hl hk hd
              have e9 : ev (.tmp 9) = .bool sm := hk 9 (by decide)
              clear hk
              exact ⟨fun x hx he => (by rw [show x = .bool true from hx] at he; cases he), fun _ _ _ => rfl⟩
            · intro ev wy hp hl hk hd
              have e63 : ev (.tmp 63) = undef := hk 63 (by decide)
              have e64 : ev (.tmp 64) = undef := hk 64 (by decide)
              clear hk
              exact ⟨fun x hx he => (by rw [show x = .bool true from hx] at he; cases he), fun _ _ _ => rfl⟩
            · intro ev wy hp hl hk hd
              have e58 : ev (.tmp 58) = .bool true := hk 58 (by decide)
              have e65 : ev (.tmp 65) = undef := hk 65 (by decide)
              clear hk
              refine ⟨fun _ _ _ => ?_, fun _ hx hne => absurd hx hne⟩
              clear hd
              exact Yield.pick (t := true) rfl e58 ⟨Ext.refl _, hp.const _⟩
            · intro ev wy hp hl hk hd
              have e51 : ev (.tmp 51) = .bool true := hk 51 (by decide)
              have e66 : ev (.tmp 66) = .bool true := hk 66 (by decide)
              clear hk hd
              exact Yield.pick (t := true) rfl e51 ⟨Ext.refl _, e66⟩
            · intro ev wy hp hl hk hd
              have e67 : ev (.tmp 67) = .bool true := hk 67 (by decide)
              clear hk hd
              exact Yield.as rfl ⟨Ext.refl _, e67⟩
          · intro vals wz hz hv
            have g36 : vals 0 = .bool true := hv 0 (by decide)
            have g37 : vals 1 = .bool true := hv 1 (by decide)
            have g38 : vals 2 = .bool sm := hv 2 (by decide)
            have g39 : vals 3 = .agg (msgCells a rt et sv dv) := hv 3 (by decide)
            have g40 : vals 4 = .agg (msgCells b rt2 et2 sv2 dv2) := hv 4 (by decide)
            have g41 : vals 5 = .bool sm := hv 5 (by decide)
            have g42 : vals 6 = .bool true := hv 6 (by decide)
            have g43 : vals 7 = .bool true := hv 7 (by decide)
            have g44 : vals 8 = .bool true := hv 8 (by decide)
            have g45 : vals 9 = .agg (msgCells a rt et sv dv) := hv 9 (by decide)
            have g46 : (fun (v : Value) (w : World) => IsMsg w v a) (vals 10) wz := hv 10 (by decide)
            have g47 : vals 11 = .agg (msgCells a rt et sv dv) := hv 11 (by decide)
            have g48 : (fun (v : Value) (w : World) => IsMsg w v a) (vals 12) wz := hv 12 (by decide)
            have g49 : vals 13 = .bool true := hv 13 (by decide)
            have g50 : vals 14 = .bool true := hv 14 (by decide)
            have g51 : vals 15 = .bool true := hv 15 (by decide)
            have g52 : vals 16 = .int .i64 70 := hv 16 (by decide)
            have g53 : vals 17 = .bool true := hv 17 (by decide)
            have g54 : vals 18 = .bool true := hv 18 (by decide)
            have g55 : vals 19 = undef := hv 19 (by decide)
            have g56 : vals 20 = undef := hv 20 (by decide)
            have g57 : vals 21 = .bool true := hv 21 (by decide)
            have g58 : vals 22 = .bool true := hv 22 (by decide)
            have g59 : vals 23 = undef := hv 23 (by decide)
            have g60 : vals 24 = undef := hv 24 (by decide)
            have g61 : vals 25 = undef := hv 25 (by decide)
            have g62 : vals 26 = undef := hv 26 (by decide)
            have g63 : vals 27 = undef := hv 27 (by decide)
            have g64 : vals 28 = undef := hv 28 (by decide)
            have g65 : vals 29 = undef := hv 29 (by decide)
            have g66 : vals 30 = .bool true := hv 30 (by decide)
            have g67 : vals 31 = .bool true := hv 31 (by decide)
            have g4 : vals 32 = .bool true := hv 32 (by decide)
            clear hv
            simp only [putAll, Act.put, List.setIfInBounds_toArray, List.set_cons_zero, List.set_cons_succ, g36, g37, g38, g39, g40, g41, g42, g43, g44, g45, g47, g49, g50, g51, g52, g53, g54, g55, g56, g57, g58, g59, g60, g61, g62, g63, g64, g65, g66, g67, g4]
            clear g36
            clear g37
            clear g38
            clear g39
            clear g40
            clear g41
            clear g42
            clear g43
            clear g44
            clear g45
            generalize vals 10 = v46 at *
            clear g47
            generalize vals 12 = v48 at *
            clear g49
            clear g50
            clear g51
            clear g52
            clear g53
            clear g54
            clear g55
            clear g56
            clear g57
            clear g58
            clear g59
            clear g60
            clear g61
            clear g62
            clear g63
            clear g64
            clear g65
            clear g66
            clear g67
            clear g4
            go_wp2_with fail
            go_ret
            exact ⟨rfl, e6.out.trans hz⟩
      | true =>
        cases hr2 : Msg.right b with
        | false =>
          clear hr1 hr2
          refine wp_region_facts (by kernel_rfl) Ext (fun iop v w => match iop with
              | 0 => v = .bool true
              | 1 => v = .bool true
              | 2 => v = .bool sm
              | 3 => v = .agg (msgCells a rt et sv dv)
              | 4 => v = .agg (msgCells b rt2 et2 sv2 dv2)
              | 5 => v = .bool sm
              | 6 => v = .bool true
              | 7 => v = .bool true
              | 8 => v = .bool true
              | 9 => v = .agg (msgCells a rt et sv dv)
              | 10 => IsMsg w v a
              | 11 => v = .agg (msgCells a rt et sv dv)
              | 12 => IsMsg w v a
              | 13 => v = .bool true
              | 14 => v = .bool true
              | 15 => v = .bool true
              | 16 => v = .int .i64 0
              | 17 => v = .bool false
              | 18 => v = .bool false
              | 19 => v = .int .i64 70
              | 20 => v = .bool true
              | 21 => v = .bool true
              | 22 => v = .bool true
              | 23 => v = undef
              | 24 => v = undef
              | 25 => v = undef
              | 26 => v = undef
              | 27 => v = undef
              | 28 => v = undef
              | 29 => v = undef
              | 30 => v = .bool true
              | 31 => v = .bool true
              | _ => v = .bool true
              ) (by kernel_rfl) (fun _ _ _ h k => Ext.trans h k) (fun a => Ext.refl a) (Ext.drew _) ?_ ?_ ?_
          · intro iop v wa wb hF hL
            iterate 10 (rcases iop with _ | iop; exact hF)
            rcases iop with _ | iop; (first | exact hF | exact IsMsg.below hF hL)
            rcases iop with _ | iop; exact hF
            rcases iop with _ | iop; (first | exact hF | exact IsMsg.below hF hL)
            iterate 19 (rcases iop with _ | iop; exact hF)
            exact hF
          · refine Obls.cons ?_ (Obls.cons ?_ (Obls.cons ?_ (Obls.cons ?_ (Obls.cons ?_ (Obls.cons ?_ (Obls.cons ?_ (Obls.cons ?_ (Obls.cons ?_ (Obls.cons ?_ (Obls.cons ?_ (Obls.cons ?_ (Obls.cons ?_ (Obls.cons ?_ (Obls.cons ?_ (Obls.cons ?_ (Obls.cons ?_ (Obls.cons ?_ (Obls.cons ?_ (Obls.cons ?_ (Obls.cons ?_ (Obls.cons ?_ (Obls.cons ?_ (Obls.cons ?_ (Obls.cons ?_ (Obls.cons ?_ (Obls.cons ?_ (Obls.cons ?_ (Obls.cons ?_ (Obls.cons ?_ (Obls.cons ?_ (Obls.cons ?_ (Obls.cons ?_ (Obls.nil)))))))))))))))))))))))))))))))))
            · intro ev wy hp hl hk hd
              clear hk hd
              refine Yield.call rfl hp Tryz.func10 rfl (by kernel_rfl) ?_
              simp only [List.map_toArray, List.map_nil]
              exact ((alive7_any _)).mono fun _ _ ⟨he, hb⟩ => ⟨_, he, hb, by first | rfl | simp⟩
            · intro ev wy hp hl hk hd
              have e36 : ev (.tmp 36) = .bool true := hk 36 (by decide)
              clear hk hd
              exact Yield.mv rfl ⟨Ext.refl _, e36⟩
            · intro ev wy hp hl hk hd
              have e9 : ev (.tmp 9) = .bool sm := hk 9 (by decide)
              clear hk
              refine ⟨fun _ _ _ => ?_, fun _ hx hne => absurd hx hne⟩
              clear hd
              exact Yield.mv rfl ⟨Ext.refl _, e9⟩
            · intro ev wy hp hl hk hd
              have e2 : ev (.tmp 2) = .pointer (some ⟨q, 0, none⟩) := hk 2 (by decide)
              clear hk
              refine ⟨fun _ _ _ => ?_, fun _ hx hne => absurd hx hne⟩
              clear hd
              exact Yield.load rfl e2 (M6.out.ext hl).ldR ⟨Ext.refl _, rfl⟩
            · intro ev wy hp hl hk hd
              have e3 : ev (.tmp 3) = .pointer (some ⟨p, 0, none⟩) := hk 3 (by decide)
              clear hk
              refine ⟨fun _ _ _ => ?_, fun _ hx hne => absurd hx hne⟩
              clear hd
              exact Yield.load rfl e3 (N6.out.ext hl).ldR ⟨Ext.refl _, rfl⟩
            · intro ev wy hp hl hk hd
              have e39 : ev (.tmp 39) = .agg (msgCells a rt et sv dv) := hk 39 (by decide)
              have e40 : ev (.tmp 40) = .agg (msgCells b rt2 et2 sv2 dv2) := hk 40 (by decide)
              clear hk
              refine ⟨fun _ _ _ => ?_, fun _ hx hne => absurd hx hne⟩
              clear hd
              refine Yield.call rfl hp Tryz.func18 rfl (by kernel_rfl) ?_
              simp only [List.map_toArray, List.map_cons, List.map_nil, e39, e40]
              exact ((HSM.out ▸ refSame7_any _ _ a b _ (M6.out.ext hl).isMsg (N6.out.ext hl).isMsg)).mono fun _ _ ⟨he, hb⟩ => ⟨_, he, hb, by first | rfl | simp⟩
            · intro ev wy hp hl hk hd
              have e38 : ev (.tmp 38) = .bool sm := hk 38 (by decide)
              have e41 : ev (.tmp 41) = .bool sm := hk 41 (by decide)
              clear hk
              refine ⟨fun _ _ _ => ?_, fun _ hx hne => absurd hx hne⟩
              clear hd
              exact Yield.op (v := .bool true) (w' := wy) (by simp [execOp, go_sem, e38, e41]) ⟨Ext.refl _, rfl⟩
            · intro ev wy hp hl hk hd
              have e37 : ev (.tmp 37) = .bool true := hk 37 (by decide)
              have e42 : ev (.tmp 42) = .bool true := hk 42 (by decide)
              clear hk hd
              exact Yield.pick (t := true) rfl e37 ⟨Ext.refl _, e42⟩
            · intro ev wy hp hl hk hd
              have e43 : ev (.tmp 43) = .bool true := hk 43 (by decide)
              clear hk hd
              exact Yield.mv rfl ⟨Ext.refl _, e43⟩
            · intro ev wy hp hl hk hd
              have e2 : ev (.tmp 2) = .pointer (some ⟨q, 0, none⟩) := hk 2 (by decide)
              clear hk
              refine ⟨fun _ _ _ => ?_, fun _ hx hne => absurd hx hne⟩
              clear hd
              exact Yield.load rfl e2 (M6.out.ext hl).ldR ⟨Ext.refl _, rfl⟩
            · intro ev wy hp hl hk hd
              have e45 : ev (.tmp 45) = .agg (msgCells a rt et sv dv) := hk 45 (by decide)
              clear hk
              refine ⟨fun _ _ _ => ?_, fun _ hx hne => absurd hx hne⟩
              clear hd
              refine Yield.call rfl hp Tryz.func12 rfl (by kernel_rfl) ?_
              simp only [List.map_toArray, List.map_cons, List.map_nil, e45]
              exact (own7_any _ a _ (M6.out.ext hl).isMsg).mono fun e w' ⟨u, he, hu, hE⟩ => ⟨u, he, hE, hu⟩
            · intro ev wy hp hl hk hd
              have e2 : ev (.tmp 2) = .pointer (some ⟨q, 0, none⟩) := hk 2 (by decide)
              clear hk
              refine ⟨fun _ _ _ => ?_, fun _ hx hne => absurd hx hne⟩
              clear hd
              exact Yield.load rfl e2 (M6.out.ext hl).ldR ⟨Ext.refl _, rfl⟩
            · intro ev wy hp hl hk hd
              have e47 : ev (.tmp 47) = .agg (msgCells a rt et sv dv) := hk 47 (by decide)
              clear hk
              refine ⟨fun _ _ _ => ?_, fun _ hx hne => absurd hx hne⟩
              clear hd
              refine Yield.call rfl hp Tryz.func12 rfl (by kernel_rfl) ?_
              simp only [List.map_toArray, List.map_cons, List.map_nil, e47]
              exact (own7_any _ a _ (M6.out.ext hl).isMsg).mono fun e w' ⟨u, he, hu, hE⟩ => ⟨u, he, hE, hu⟩
            · intro ev wy hp hl hk hd
              have f46 : (fun (v : Value) (w : World) => IsMsg w v a) (ev (.tmp 46)) wy := hk 46 (by decide)
              generalize hx46 : ev (.tmp 46) = x46 at *
              have f48 : (fun (v : Value) (w : World) => IsMsg w v a) (ev (.tmp 48)) wy := hk 48 (by decide)
              generalize hx48 : ev (.tmp 48) = x48 at *
              clear hk
              refine ⟨fun _ _ _ => ?_, fun _ hx hne => absurd hx hne⟩
              clear hd
              refine Yield.call rfl hp Tryz.func20 rfl (by kernel_rfl) ?_
              simp only [List.map_toArray, List.map_cons, List.map_nil, hx46, hx48]
              exact ((Msg.alike_self a ▸ same7_any _ _ a a _ f46 f48)).mono fun _ _ ⟨he, hb⟩ => ⟨_, he, hb, by first | rfl | simp⟩
            · intro ev wy hp hl hk hd
              have e44 : ev (.tmp 44) = .bool true := hk 44 (by decide)
              have e49 : ev (.tmp 49) = .bool true := hk 49 (by decide)
              clear hk hd
              exact Yield.pick (t := true) rfl e44 ⟨Ext.refl _, e49⟩
            · intro ev wy hp hl hk hd
              have e50 : ev (.tmp 50) = .bool true := hk 50 (by decide)
              clear hk hd
              exact Yield.mv rfl ⟨Ext.refl _, e50⟩
            · intro ev wy hp hl hk hd
              have e6 : ev (.tmp 6) = .int .i64 0 := hk 6 (by decide)
              clear hk
              refine ⟨fun _ _ _ => ?_, fun _ hx hne => absurd hx hne⟩
              clear hd
              exact Yield.mv rfl ⟨Ext.refl _, e6⟩
            · intro ev wy hp hl hk hd
              have e52 : ev (.tmp 52) = .int .i64 0 := hk 52 (by decide)
              clear hk
              refine ⟨fun _ _ _ => ?_, fun _ hx hne => absurd hx hne⟩
              clear hd
              exact Yield.op (v := .bool false) (w' := wy) (by simp [execOp, go_sem, e52, hp.const]) ⟨Ext.refl _, rfl⟩
            · intro ev wy hp hl hk hd
              have e53 : ev (.tmp 53) = .bool false := hk 53 (by decide)
              clear hk
              refine ⟨fun _ _ _ => ?_, fun _ hx hne => absurd hx hne⟩
              clear hd
              exact Yield.mv rfl ⟨Ext.refl _, e53⟩
            · intro ev wy hp hl hk hd
              have e8 : ev (.tmp 8) = .int .i64 70 := hk 8 (by decide)
              clear hk
              refine ⟨fun _ _ _ => ?_, fun _ hx hne => absurd hx hne⟩
              clear hd
              exact Yield.mv rfl ⟨Ext.refl _, e8⟩
            · intro ev wy hp hl hk hd
              have e55 : ev (.tmp 55) = .int .i64 70 := hk 55 (by decide)
              clear hk
              refine ⟨fun _ _ _ => ?_, fun _ hx hne => absurd hx hne⟩
              clear hd
              exact Yield.op (v := .bool true) (w' := wy) (by simp [execOp, go_sem, e55, hp.const]) ⟨Ext.refl _, rfl⟩
            · intro ev wy hp hl hk hd
              have e54 : ev (.tmp 54) = .bool false := hk 54 (by decide)
              have e56 : ev (.tmp 56) = .bool true := hk 56 (by decide)
              clear hk
              refine ⟨fun _ _ _ => ?_, fun _ hx hne => absurd hx hne⟩
              clear hd
              exact Yield.pick (t := false) rfl e54 ⟨Ext.refl _, e56⟩
            · intro ev wy hp hl hk hd
              have e57 : ev (.tmp 57) = .bool true := hk 57 (by decide)
              clear hk
              refine ⟨fun _ _ _ => ?_, fun _ hx hne => absurd hx hne⟩
              clear hd
              exact Yield.mv rfl ⟨Ext.refl _, e57⟩
            · intro ev wy hp hl hk hd
              have e5 : ev (.tmp 5) = u3 := hk 5 (by decide)
              clear hk
              exact ⟨fun x hx he => (by rw [show x = .bool true from hx] at he; cases he), fun _ _ _ => rfl⟩
            · intro ev wy hp hl hk hd
              have e59 : ev (.tmp 59) = undef := hk 59 (by decide)
              clear hk
              exact ⟨fun x hx he => (by rw [show x = .bool true from hx] at he; cases he), fun _ _ _ => rfl⟩
            · intro ev wy hp hl hk hd
              have e7 : ev (.tmp 7) = u5 := hk 7 (by decide)
              clear hk
              exact ⟨fun x hx he => (by rw [show x = .bool true from hx] at he; cases he), fun _ _ _ => rfl⟩
            · intro ev wy hp hl hk hd
              have e61 : ev (.tmp 61) = undef := hk 61 (by decide)
              clear hk
              exact ⟨fun x hx he => (by rw [show x = .bool true from hx] at he; cases he), fun _ _ _ => rfl⟩
            · intro ev wy hp hl hk hd
              have e60 : ev (.tmp 60) = undef := hk 60 (by decide)
              have e62 : ev (.tmp 62) = undef := hk 62 (by decide)
              clear hk
              exact ⟨fun x hx he => (by rw [show x = .bool true from hx] at he; cases he), fun _ _ _ => rfl⟩
            · intro ev wy hp hl hk hd
              have e9 : ev (.tmp 9) = .bool sm := hk 9 (by decide)
              clear hk
              exact ⟨fun x hx he => (by rw [show x = .bool true from hx] at he; cases he), fun _ _ _ => rfl⟩
            · intro ev wy hp hl hk hd
              have e63 : ev (.tmp 63) = undef := hk 63 (by decide)
              have e64 : ev (.tmp 64) = undef := hk 64 (by decide)
              clear hk
              exact ⟨fun x hx he => (by rw [show x = .bool true from hx] at he; cases he), fun _ _ _ => rfl⟩
            · intro ev wy hp hl hk hd
              have e58 : ev (.tmp 58) = .bool true := hk 58 (by decide)
              have e65 : ev (.tmp 65) = undef := hk 65 (by decide)
              clear hk
              refine ⟨fun _ _ _ => ?_, fun _ hx hne => absurd hx hne⟩
              clear hd
              exact Yield.pick (t := true) rfl e58 ⟨Ext.refl _, hp.const _⟩
            · intro ev wy hp hl hk hd
              have e51 : ev (.tmp 51) = .bool true := hk 51 (by decide)
              have e66 : ev (.tmp 66) = .bool true := hk 66 (by decide)
              clear hk hd
              exact Yield.pick (t := true) rfl e51 ⟨Ext.refl _, e66⟩
            · intro ev wy hp hl hk hd
              have e67 : ev (.tmp 67) = .bool true := hk 67 (by decide)
              clear hk hd
              exact Yield.as rfl ⟨Ext.refl _, e67⟩
          · intro vals wz hz hv
            have g36 : vals 0 = .bool true := hv 0 (by decide)
            have g37 : vals 1 = .bool true := hv 1 (by decide)
            have g38 : vals 2 = .bool sm := hv 2 (by decide)
            have g39 : vals 3 = .agg (msgCells a rt et sv dv) := hv 3 (by decide)
            have g40 : vals 4 = .agg (msgCells b rt2 et2 sv2 dv2) := hv 4 (by decide)
            have g41 : vals 5 = .bool sm := hv 5 (by decide)
            have g42 : vals 6 = .bool true := hv 6 (by decide)
            have g43 : vals 7 = .bool true := hv 7 (by decide)
            have g44 : vals 8 = .bool true := hv 8 (by decide)
            have g45 : vals 9 = .agg (msgCells a rt et sv dv) := hv 9 (by decide)
            have g46 : (fun (v : Value) (w : World) => IsMsg w v a) (vals 10) wz := hv 10 (by decide)
            have g47 : vals 11 = .agg (msgCells a rt et sv dv) := hv 11 (by decide)
            have g48 : (fun (v : Value) (w : World) => IsMsg w v a) (vals 12) wz := hv 12 (by decide)
            have g49 : vals 13 = .bool true := hv 13 (by decide)
            have g50 : vals 14 = .bool true := hv 14 (by decide)
            have g51 : vals 15 = .bool true := hv 15 (by decide)
            have g52 : vals 16 = .int .i64 0 := hv 16 (by decide)
            have g53 : vals 17 = .bool false := hv 17 (by decide)
            have g54 : vals 18 = .bool false := hv 18 (by decide)
            have g55 : vals 19 = .int .i64 70 := hv 19 (by decide)
            have g56 : vals 20 = .bool true := hv 20 (by decide)
            have g57 : vals 21 = .bool true := hv 21 (by decide)
            have g58 : vals 22 = .bool true := hv 22 (by decide)
            have g59 : vals 23 = undef := hv 23 (by decide)
            have g60 : vals 24 = undef := hv 24 (by decide)
            have g61 : vals 25 = undef := hv 25 (by decide)
            have g62 : vals 26 = undef := hv 26 (by decide)
            have g63 : vals 27 = undef := hv 27 (by decide)
            have g64 : vals 28 = undef := hv 28 (by decide)
            have g65 : vals 29 = undef := hv 29 (by decide)
            have g66 : vals 30 = .bool true := hv 30 (by decide)
            have g67 : vals 31 = .bool true := hv 31 (by decide)
            have g4 : vals 32 = .bool true := hv 32 (by decide)
            clear hv
            simp only [putAll, Act.put, List.setIfInBounds_toArray, List.set_cons_zero, List.set_cons_succ, g36, g37, g38, g39, g40, g41, g42, g43, g44, g45, g47, g49, g50, g51, g52, g53, g54, g55, g56, g57, g58, g59, g60, g61, g62, g63, g64, g65, g66, g67, g4]
            clear g36
            clear g37
            clear g38
            clear g39
            clear g40
            clear g41
            clear g42
            clear g43
            clear g44
            clear g45
            generalize vals 10 = v46 at *
            clear g47
            generalize vals 12 = v48 at *
            clear g49
            clear g50
            clear g51
            clear g52
            clear g53
            clear g54
            clear g55
            clear g56
            clear g57
            clear g58
            clear g59
            clear g60
            clear g61
            clear g62
            clear g63
            clear g64
            clear g65
            clear g66
            clear g67
            clear g4
            go_wp2_with fail
            go_ret
            exact ⟨rfl, e6.out.trans hz⟩
        | true =>
          have HEQ := Lib.hid (show (B1 == B2) = sm by rw [← HB1.out, ← HB2.out, hr1, hr2, bytesOr_true, bytesOr_true, Msg.alike_enc Ent.vd_back hr1 hr2]; exact HSM.out)
          clear hr1 hr2
          refine wp_region_facts (by kernel_rfl) Ext (fun iop v w => match iop with
              | 0 => v = .bool true
              | 1 => v = .bool true
              | 2 => v = .bool sm
              | 3 => v = .agg (msgCells a rt et sv dv)
              | 4 => v = .agg (msgCells b rt2 et2 sv2 dv2)
              | 5 => v = .bool sm
              | 6 => v = .bool true
              | 7 => v = .bool true
              | 8 => v = .bool true
              | 9 => v = .agg (msgCells a rt et sv dv)
              | 10 => IsMsg w v a
              | 11 => v = .agg (msgCells a rt et sv dv)
              | 12 => IsMsg w v a
              | 13 => v = .bool true
              | 14 => v = .bool true
              | 15 => v = .bool true
              | 16 => v = .int .i64 0
              | 17 => v = .bool false
              | 18 => v = .bool false
              | 19 => v = .int .i64 0
              | 20 => v = .bool false
              | 21 => v = .bool false
              | 22 => v = .bool false
              | 23 => v = u3
              | 24 => v = .string ⟨B1.toArray⟩
              | 25 => v = u5
              | 26 => v = .string ⟨B2.toArray⟩
              | 27 => v = .bool sm
              | 28 => v = .bool sm
              | 29 => v = .bool true
              | 30 => v = .bool true
              | 31 => v = .bool true
              | _ => v = .bool true
              ) (by kernel_rfl) (fun _ _ _ h k => Ext.trans h k) (fun a => Ext.refl a) (Ext.drew _) ?_ ?_ ?_
          · intro iop v wa wb hF hL
            iterate 10 (rcases iop with _ | iop; exact hF)
            rcases iop with _ | iop; (first | exact hF | exact IsMsg.below hF hL)
            rcases iop with _ | iop; exact hF
            rcases iop with _ | iop; (first | exact hF | exact IsMsg.below hF hL)
            iterate 19 (rcases iop with _ | iop; exact hF)
            exact hF
          · refine Obls.cons ?_ (Obls.cons ?_ (Obls.cons ?_ (Obls.cons ?_ (Obls.cons ?_ (Obls.cons ?_ (Obls.cons ?_ (Obls.cons ?_ (Obls.cons ?_ (Obls.cons ?_ (Obls.cons ?_ (Obls.cons ?_ (Obls.cons ?_ (Obls.cons ?_ (Obls.cons ?_ (Obls.cons ?_ (Obls.cons ?_ (Obls.cons ?_ (Obls.cons ?_ (Obls.cons ?_ (Obls.cons ?_ (Obls.cons ?_ (Obls.cons ?_ (Obls.cons ?_ (Obls.cons ?_ (Obls.cons ?_ (Obls.cons ?_ (Obls.cons ?_ (Obls.cons ?_ (Obls.cons ?_ (Obls.cons ?_ (Obls.cons ?_ (Obls.cons ?_ (Obls.nil)))))))))))))))))))))))))))))))))
            · intro ev wy hp hl hk hd
              clear hk hd
              refine Yield.call rfl hp Tryz.func10 rfl (by kernel_rfl) ?_
              simp only [List.map_toArray, List.map_nil]
              exact ((alive7_any _)).mono fun _ _ ⟨he, hb⟩ => ⟨_, he, hb, by first | rfl | simp⟩
            · intro ev wy hp hl hk hd
              have e36 : ev (.tmp 36) = .bool true := hk 36 (by decide)
              clear hk hd
              exact Yield.mv rfl ⟨Ext.refl _, e36⟩
            · intro ev wy hp hl hk hd
              have e9 : ev (.tmp 9) = .bool sm := hk 9 (by decide)
              clear hk
              refine ⟨fun _ _ _ => ?_, fun _ hx hne => absurd hx hne⟩
              clear hd
              exact Yield.mv rfl ⟨Ext.refl _, e9⟩
            · intro ev wy hp hl hk hd
              have e2 : ev (.tmp 2) = .pointer (some ⟨q, 0, none⟩) := hk 2 (by decide)
              clear hk
              refine ⟨fun _ _ _ => ?_, fun _ hx hne => absurd hx hne⟩
              clear hd
              exact Yield.load rfl e2 (M6.out.ext hl).ldR ⟨Ext.refl _, rfl⟩
            · intro ev wy hp hl hk hd
              have e3 : ev (.tmp 3) = .pointer (some ⟨p, 0, none⟩) := hk 3 (by decide)
              clear hk
              refine ⟨fun _ _ _ => ?_, fun _ hx hne => absurd hx hne⟩
              clear hd
              exact Yield.load rfl e3 (N6.out.ext hl).ldR ⟨Ext.refl _, rfl⟩
            · intro ev wy hp hl hk hd
              have e39 : ev (.tmp 39) = .agg (msgCells a rt et sv dv) := hk 39 (by decide)
              have e40 : ev (.tmp 40) = .agg (msgCells b rt2 et2 sv2 dv2) := hk 40 (by decide)
              clear hk
              refine ⟨fun _ _ _ => ?_, fun _ hx hne => absurd hx hne⟩
              clear hd
              refine Yield.call rfl hp Tryz.func18 rfl (by kernel_rfl) ?_
              simp only [List.map_toArray, List.map_cons, List.map_nil, e39, e40]
              exact ((HSM.out ▸ refSame7_any _ _ a b _ (M6.out.ext hl).isMsg (N6.out.ext hl).isMsg)).mono fun _ _ ⟨he, hb⟩ => ⟨_, he, hb, by first | rfl | simp⟩
            · intro ev wy hp hl hk hd
              have e38 : ev (.tmp 38) = .bool sm := hk 38 (by decide)
              have e41 : ev (.tmp 41) = .bool sm := hk 41 (by decide)
              clear hk
              refine ⟨fun _ _ _ => ?_, fun _ hx hne => absurd hx hne⟩
              clear hd
              exact Yield.op (v := .bool true) (w' := wy) (by simp [execOp, go_sem, e38, e41]) ⟨Ext.refl _, rfl⟩
            · intro ev wy hp hl hk hd
              have e37 : ev (.tmp 37) = .bool true := hk 37 (by decide)
              have e42 : ev (.tmp 42) = .bool true := hk 42 (by decide)
              clear hk hd
              exact Yield.pick (t := true) rfl e37 ⟨Ext.refl _, e42⟩
            · intro ev wy hp hl hk hd
              have e43 : ev (.tmp 43) = .bool true := hk 43 (by decide)
              clear hk hd
              exact Yield.mv rfl ⟨Ext.refl _, e43⟩
            · intro ev wy hp hl hk hd
              have e2 : ev (.tmp 2) = .pointer (some ⟨q, 0, none⟩) := hk 2 (by decide)
              clear hk
              refine ⟨fun _ _ _ => ?_, fun _ hx hne => absurd hx hne⟩
              clear hd
              exact Yield.load rfl e2 (M6.out.ext hl).ldR ⟨Ext.refl _, rfl⟩
            · intro ev wy hp hl hk hd
              have e45 : ev (.tmp 45) = .agg (msgCells a rt et sv dv) := hk 45 (by decide)
              clear hk
              refine ⟨fun _ _ _ => ?_, fun _ hx hne => absurd hx hne⟩
              clear hd
              refine Yield.call rfl hp Tryz.func12 rfl (by kernel_rfl) ?_
              simp only [List.map_toArray, List.map_cons, List.map_nil, e45]
              exact (own7_any _ a _ (M6.out.ext hl).isMsg).mono fun e w' ⟨u, he, hu, hE⟩ => ⟨u, he, hE, hu⟩
            · intro ev wy hp hl hk hd
              have e2 : ev (.tmp 2) = .pointer (some ⟨q, 0, none⟩) := hk 2 (by decide)
              clear hk
              refine ⟨fun _ _ _ => ?_, fun _ hx hne => absurd hx hne⟩
              clear hd
              exact Yield.load rfl e2 (M6.out.ext hl).ldR ⟨Ext.refl _, rfl⟩
            · intro ev wy hp hl hk hd
              have e47 : ev (.tmp 47) = .agg (msgCells a rt et sv dv) := hk 47 (by decide)
              clear hk
              refine ⟨fun _ _ _ => ?_, fun _ hx hne => absurd hx hne⟩
              clear hd
              refine Yield.call rfl hp Tryz.func12 rfl (by kernel_rfl) ?_
              simp only [List.map_toArray, List.map_cons, List.map_nil, e47]
              exact (own7_any _ a _ (M6.out.ext hl).isMsg).mono fun e w' ⟨u, he, hu, hE⟩ => ⟨u, he, hE, hu⟩
            · intro ev wy hp hl hk hd
              have f46 : (fun (v : Value) (w : World) => IsMsg w v a) (ev (.tmp 46)) wy := hk 46 (by decide)
              generalize hx46 : ev (.tmp 46) = x46 at *
              have f48 : (fun (v : Value) (w : World) => IsMsg w v a) (ev (.tmp 48)) wy := hk 48 (by decide)
              generalize hx48 : ev (.tmp 48) = x48 at *
              clear hk
              refine ⟨fun _ _ _ => ?_, fun _ hx hne => absurd hx hne⟩
              clear hd
              refine Yield.call rfl hp Tryz.func20 rfl (by kernel_rfl) ?_
              simp only [List.map_toArray, List.map_cons, List.map_nil, hx46, hx48]
              exact ((Msg.alike_self a ▸ same7_any _ _ a a _ f46 f48)).mono fun _ _ ⟨he, hb⟩ => ⟨_, he, hb, by first | rfl | simp⟩
            · intro ev wy hp hl hk hd
              have e44 : ev (.tmp 44) = .bool true := hk 44 (by decide)
              have e49 : ev (.tmp 49) = .bool true := hk 49 (by decide)
              clear hk hd
              exact Yield.pick (t := true) rfl e44 ⟨Ext.refl _, e49⟩
            · intro ev wy hp hl hk hd
              have e50 : ev (.tmp 50) = .bool true := hk 50 (by decide)
              clear hk hd
              exact Yield.mv rfl ⟨Ext.refl _, e50⟩
            · intro ev wy hp hl hk hd
              have e6 : ev (.tmp 6) = .int .i64 0 := hk 6 (by decide)
              clear hk
              refine ⟨fun _ _ _ => ?_, fun _ hx hne => absurd hx hne⟩
              clear hd
              exact Yield.mv rfl ⟨Ext.refl _, e6⟩
            · intro ev wy hp hl hk hd
              have e52 : ev (.tmp 52) = .int .i64 0 := hk 52 (by decide)
              clear hk
              refine ⟨fun _ _ _ => ?_, fun _ hx hne => absurd hx hne⟩
              clear hd
              exact Yield.op (v := .bool false) (w' := wy) (by simp [execOp, go_sem, e52, hp.const]) ⟨Ext.refl _, rfl⟩
            · intro ev wy hp hl hk hd
              have e53 : ev (.tmp 53) = .bool false := hk 53 (by decide)
              clear hk
              refine ⟨fun _ _ _ => ?_, fun _ hx hne => absurd hx hne⟩
              clear hd
              exact Yield.mv rfl ⟨Ext.refl _, e53⟩
            · intro ev wy hp hl hk hd
              have e8 : ev (.tmp 8) = .int .i64 0 := hk 8 (by decide)
              clear hk
              refine ⟨fun _ _ _ => ?_, fun _ hx hne => absurd hx hne⟩
              clear hd
              exact Yield.mv rfl ⟨Ext.refl _, e8⟩
            · intro ev wy hp hl hk hd
              have e55 : ev (.tmp 55) = .int .i64 0 := hk 55 (by decide)
              clear hk
              refine ⟨fun _ _ _ => ?_, fun _ hx hne => absurd hx hne⟩
              clear hd
              exact Yield.op (v := .bool false) (w' := wy) (by simp [execOp, go_sem, e55, hp.const]) ⟨Ext.refl _, rfl⟩
            · intro ev wy hp hl hk hd
              have e54 : ev (.tmp 54) = .bool false := hk 54 (by decide)
              have e56 : ev (.tmp 56) = .bool false := hk 56 (by decide)
              clear hk
              refine ⟨fun _ _ _ => ?_, fun _ hx hne => absurd hx hne⟩
              clear hd
              exact Yield.pick (t := false) rfl e54 ⟨Ext.refl _, e56⟩
            · intro ev wy hp hl hk hd
              have e57 : ev (.tmp 57) = .bool false := hk 57 (by decide)
              clear hk
              refine ⟨fun _ _ _ => ?_, fun _ hx hne => absurd hx hne⟩
              clear hd
              exact Yield.mv rfl ⟨Ext.refl _, e57⟩
            · intro ev wy hp hl hk hd
              have e5 : ev (.tmp 5) = u3 := hk 5 (by decide)
              clear hk
              refine ⟨fun _ _ _ => ?_, fun _ hx hne => absurd hx hne⟩
              clear hd
              exact Yield.mv rfl ⟨Ext.refl _, e5⟩
            · intro ev wy hp hl hk hd
              have e59 : ev (.tmp 59) = u3 := hk 59 (by decide)
              clear hk
              refine ⟨fun _ _ _ => ?_, fun _ hx hne => absurd hx hne⟩
              clear hd
              exact Yield.conv rfl e59 (run_str _ _ 5 Tryz.underlying38 Tryz.underlying5 Tryz.underlying9 ((HC1.out.below hl))) ⟨Ext.refl _, rfl⟩
            · intro ev wy hp hl hk hd
              have e7 : ev (.tmp 7) = u5 := hk 7 (by decide)
              clear hk
              refine ⟨fun _ _ _ => ?_, fun _ hx hne => absurd hx hne⟩
              clear hd
              exact Yield.mv rfl ⟨Ext.refl _, e7⟩
            · intro ev wy hp hl hk hd
              have e61 : ev (.tmp 61) = u5 := hk 61 (by decide)
              clear hk
              refine ⟨fun _ _ _ => ?_, fun _ hx hne => absurd hx hne⟩
              clear hd
              exact Yield.conv rfl e61 (run_str _ _ 5 Tryz.underlying38 Tryz.underlying5 Tryz.underlying9 ((HC2.out.below hl))) ⟨Ext.refl _, rfl⟩
            · intro ev wy hp hl hk hd
              have e60 : ev (.tmp 60) = .string ⟨B1.toArray⟩ := hk 60 (by decide)
              have e62 : ev (.tmp 62) = .string ⟨B2.toArray⟩ := hk 62 (by decide)
              clear hk
              refine ⟨fun _ _ _ => ?_, fun _ hx hne => absurd hx hne⟩
              clear hd
              exact Yield.op (v := .bool sm) (w' := wy) (by simp [execOp, go_sem, e60, e62]; exact HEQ.out) ⟨Ext.refl _, rfl⟩
            · intro ev wy hp hl hk hd
              have e9 : ev (.tmp 9) = .bool sm := hk 9 (by decide)
              clear hk
              refine ⟨fun _ _ _ => ?_, fun _ hx hne => absurd hx hne⟩
              clear hd
              exact Yield.mv rfl ⟨Ext.refl _, e9⟩
            · intro ev wy hp hl hk hd
              have e63 : ev (.tmp 63) = .bool sm := hk 63 (by decide)
              have e64 : ev (.tmp 64) = .bool sm := hk 64 (by decide)
              clear hk
              refine ⟨fun _ _ _ => ?_, fun _ hx hne => absurd hx hne⟩
              clear hd
              exact Yield.op (v := .bool true) (w' := wy) (by simp [execOp, go_sem, e63, e64]) ⟨Ext.refl _, rfl⟩
            · intro ev wy hp hl hk hd
              have e58 : ev (.tmp 58) = .bool false := hk 58 (by decide)
              have e65 : ev (.tmp 65) = .bool true := hk 65 (by decide)
              clear hk
              refine ⟨fun _ _ _ => ?_, fun _ hx hne => absurd hx hne⟩
              clear hd
              exact Yield.pick (t := false) rfl e58 ⟨Ext.refl _, e65⟩
            · intro ev wy hp hl hk hd
              have e51 : ev (.tmp 51) = .bool true := hk 51 (by decide)
              have e66 : ev (.tmp 66) = .bool true := hk 66 (by decide)
              clear hk hd
              exact Yield.pick (t := true) rfl e51 ⟨Ext.refl _, e66⟩
            · intro ev wy hp hl hk hd
              have e67 : ev (.tmp 67) = .bool true := hk 67 (by decide)
              clear hk hd
              exact Yield.as rfl ⟨Ext.refl _, e67⟩
          · intro vals wz hz hv
            have g36 : vals 0 = .bool true := hv 0 (by decide)
            have g37 : vals 1 = .bool true := hv 1 (by decide)
            have g38 : vals 2 = .bool sm := hv 2 (by decide)
            have g39 : vals 3 = .agg (msgCells a rt et sv dv) := hv 3 (by decide)
            have g40 : vals 4 = .agg (msgCells b rt2 et2 sv2 dv2) := hv 4 (by decide)
            have g41 : vals 5 = .bool sm := hv 5 (by decide)
            have g42 : vals 6 = .bool true := hv 6 (by decide)
            have g43 : vals 7 = .bool true := hv 7 (by decide)
            have g44 : vals 8 = .bool true := hv 8 (by decide)
            have g45 : vals 9 = .agg (msgCells a rt et sv dv) := hv 9 (by decide)
            have g46 : (fun (v : Value) (w : World) => IsMsg w v a) (vals 10) wz := hv 10 (by decide)
            have g47 : vals 11 = .agg (msgCells a rt et sv dv) := hv 11 (by decide)
            have g48 : (fun (v : Value) (w : World) => IsMsg w v a) (vals 12) wz := hv 12 (by decide)
            have g49 : vals 13 = .bool true := hv 13 (by decide)
            have g50 : vals 14 = .bool true := hv 14 (by decide)
            have g51 : vals 15 = .bool true := hv 15 (by decide)
            have g52 : vals 16 = .int .i64 0 := hv 16 (by decide)
            have g53 : vals 17 = .bool false := hv 17 (by decide)
            have g54 : vals 18 = .bool false := hv 18 (by decide)
            have g55 : vals 19 = .int .i64 0 := hv 19 (by decide)
            have g56 : vals 20 = .bool false := hv 20 (by decide)
            have g57 : vals 21 = .bool false := hv 21 (by decide)
            have g58 : vals 22 = .bool false := hv 22 (by decide)
            have g59 : vals 23 = u3 := hv 23 (by decide)
            have g60 : vals 24 = .string ⟨B1.toArray⟩ := hv 24 (by decide)
            have g61 : vals 25 = u5 := hv 25 (by decide)
            have g62 : vals 26 = .string ⟨B2.toArray⟩ := hv 26 (by decide)
            have g63 : vals 27 = .bool sm := hv 27 (by decide)
            have g64 : vals 28 = .bool sm := hv 28 (by decide)
            have g65 : vals 29 = .bool true := hv 29 (by decide)
            have g66 : vals 30 = .bool true := hv 30 (by decide)
            have g67 : vals 31 = .bool true := hv 31 (by decide)
            have g4 : vals 32 = .bool true := hv 32 (by decide)
            clear hv
            simp only [putAll, Act.put, List.setIfInBounds_toArray, List.set_cons_zero, List.set_cons_succ, g36, g37, g38, g39, g40, g41, g42, g43, g44, g45, g47, g49, g50, g51, g52, g53, g54, g55, g56, g57, g58, g59, g60, g61, g62, g63, g64, g65, g66, g67, g4]
            clear g36
            clear g37
            clear g38
            clear g39
            clear g40
            clear g41
            clear g42
            clear g43
            clear g44
            clear g45
            generalize vals 10 = v46 at *
            clear g47
            generalize vals 12 = v48 at *
            clear g49
            clear g50
            clear g51
            clear g52
            clear g53
            clear g54
            clear g55
            clear g56
            clear g57
            clear g58
            clear g59
            clear g60
            clear g61
            clear g62
            clear g63
            clear g64
            clear g65
            clear g66
            clear g67
            clear g4
            go_wp2_with fail
            go_ret
            exact ⟨rfl, e6.out.trans hz⟩

namespace messageSame
theorem own : ownKnob Tryz.prog.godebug = none := by kernel_rfl
theorem laidOut : laidOutB Tryz.prog = true := by kernel_rfl
set_option linter.unusedVariables false in
set_option maxRecDepth 100000 in
theorem lifted (os : Os) (started : os.Started) (H : Type) (enc : TypeId × Value → H) :
    ReturnsInHanded {} Tryz.checked os 6 .any (Rows.messageSameSpec.pre6 enc Tryz.prog Tryz.f6 Rows.messageSameRow.domain false) (Rows.messageSameSpec.post enc Tryz.prog Tryz.f6 false true false false) := by
  refine returnsInHanded_of_change_sized (C := Tryz.checked) own started (by kernel_rfl) Tryz.func6
    (ChangeSpec.witness6 (enc := enc) (C := Tryz.checked) false ⟨#[], #[.agg #[.int .i64 0, .int .i64 0, .int .i64 0, .int .i64 0, .int .i64 0, .int .i64 0, .bool false, .int .i64 0, .int .i64 0, .slice none 0 0, .string ByteArray.empty, .int .i64 0, .int .i64 0, .slice none 0 0, .int .i64 0, .int .i64 0, .int .i64 0, .int .i64 0, .int .i64 0, .int .i64 0, .slice none 0 0, .slice none 0 0], .agg #[.int .i64 0, .int .i64 0, .int .i64 0, .int .i64 0, .int .i64 0, .int .i64 0, .bool false, .int .i64 0, .int .i64 0, .slice none 0 0, .string ByteArray.empty, .int .i64 0, .int .i64 0, .slice none 0 0, .int .i64 0, .int .i64 0, .int .i64 0, .int .i64 0, .int .i64 0, .int .i64 0, .slice none 0 0, .slice none 0 0]], []⟩ 8 (by kernel_rfl) (by kernel_rfl) (by kernel_rfl) (by kernel_rfl)) ?_
  intro W base args ds gs before hval0 hW hcnd hsz _
  have hval : ∀ (j : Nat) t v, Tryz.f6.params[j]? = some t → args[j]? = some v → Value.okWide Tryz.prog W .any base t v := hval0
  have hW' := hW
  obtain ⟨p, q, hA0, hV, rfl, hfz, hnd⟩ := hW'
  have hA : DataW.TrodAll enc Tryz.prog W 0 (fun _ => true) true Tryz.f6.params.toList args.toList ds p := hA0
  rw [Tryz.params6] at hA hval
  obtain ⟨v0, vs0, d0, ds0, p0, q0, hargs, rfl, rfl, h0, r0⟩ := trodAll_cons hA
  obtain ⟨v1, vs1, d1, ds1, p1, q1, rfl, rfl, rfl, h1, r1⟩ := trodAll_cons r0
  obtain ⟨rfl, rfl, rfl⟩ := trodAll_nil r1
  obtain rfl : args = #[v0, v1] := by cases args; simp_all
  obtain ⟨rfl, rfl⟩ := trodVars_none hV
  have k0 := h0
  have lt0 : ∀ x ∈ p0, x.block < W.heap.size := by obtain ⟨m, hm⟩ := k0; exact DataW.trod_lt m _ _ _ hm
  obtain ⟨l0, w0⟩ := msg_arg (hval 0 35 v0 rfl rfl) h0
  have k1 := h1
  have lt1 : ∀ x ∈ p1, x.block < W.heap.size := by obtain ⟨m, hm⟩ := k1; exact DataW.trod_lt m _ _ _ hm
  obtain ⟨l1, w1⟩ := msg_arg (hval 1 35 v1 rfl rfl) h1
  clear hA0 hval0
  refine (messageSame_walk _ _ l0 l1 W w0 w1).mono fun e W' ⟨he, bel⟩ => ?_
  subst he
  exact ⟨_, rfl, _, _, _, [], _, [], hW, trodAll_mk1 (shut_bool Tryz.underlying4 _), (trodAll_cons_mk (Below.trod laidOut (by kernel_rfl) (of_decide_eq_true (by kernel_rfl)) k0 bel lt0) (trodAll_cons_mk (Below.trod laidOut (by kernel_rfl) (of_decide_eq_true (by kernel_rfl)) k1 bel lt1) trodAll_mk0)), rfl, bel.frame _, fun h => by cases h⟩
theorem over : Rows.messageSameRow.holds Tryz.pinned (OpenSpec.ofChange Rows.messageSameSpec) :=
  OpenClaim.holds_of_wide 6 Tryz.f6 rfl rfl rfl rfl rfl rfl rfl ⟨rfl, rfl, rfl, rfl, rfl⟩ rfl rfl rfl rfl rfl (by kernel_rfl) Tryz.func6 (by kernel_rfl)
    (of_decide_eq_true (by kernel_rfl)) (by unfold Func.isWrapper; first | (rw [if_pos (by decide +kernel)]; kernel_rfl) | (rw [if_neg (by decide +kernel)]; exact ⟨rfl, rfl⟩))
    (fun os started H enc _ => lifted os started H enc)
theorem proved : Rows.MessageSameSaid := over
end messageSame
end Go.Proofs.YtldfpklgbedgjaaGreat
