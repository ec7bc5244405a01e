/-
  TermWrites: any configuration is written as the document says, or refused; written, it is read as it was: for every input the statement's function returns true, and leaves what came in as it was.
-/
import Derived.Test.YtpfodkgncachiaaGreatTrmRaw
namespace Go.Proofs.YtpfodkgncachiaaGreat
set_option maxRecDepth 100000
set_option linter.unusedSimpArgs false
set_option linter.unusedVariables false
open Go.ChangeShapes Go.WideShapes Go.ChangeAt Go.RowKit

set_option maxHeartbeats 8000000 in
theorem termWrites_walk (v : Value) (c : Term.C) (W : World) (hv : IsConf W v c) :
    Calls Tryz.prog 3 #[v] W fun e W' => e = .returned (.bool true) ∧ Below W.heap.size W W' := by
  have HV := Lib.hid hv
  have hbx := box_confR
  obtain ⟨a1, n1, p1, b1, m1, q1, rfl⟩ := hv.shape
  clear hv
  obtain ⟨t, ht⟩ : ∃ t, c.term = t := ⟨_, rfl⟩
  rw [ht] at HV ⊢
  clear ht
  have hE0 : Ext W (W.alloc (.cells #[.int .i64 t, .slice a1 n1 p1, .slice b1 m1 q1] 25)) := Ext.alloc _ _
  have HA0 := Lib.hid (ConfAt.new 25 W t (.slice a1 n1 p1) (.slice b1 m1 q1))
  go_enter Tryz.func3, Tryz.ntmps3
  go_wp2_with fail
  refine (fewSome6_any _ c _ (HV.out.below hE0)).mono ?_
  unfold SomeBool
  rintro e w1 ⟨⟨fb, rfl⟩, hE1⟩
  have A1 := Lib.hid (HA0.out.ext hE1)
  have e1 := hE0.trans hE1
  obtain ⟨q, hq⟩ : ∃ q, W.heap.size = q := ⟨_, rfl⟩
  have HQ := Lib.hid hq
  rw [hq] at A1
  obtain ⟨c0, c1, c2⟩ := A1.out.cells
  cases fb with
  | false =>
    go_wp2_with fail
    refine (termAlive_any _).mono ?_
    rintro e w2 ⟨rfl, hE2⟩
    go_wp2_with fail
    go_ret
    exact ⟨rfl, e1.trans hE2⟩
  | true =>
    have h1 := fun w h => encode6_any (.agg #[.int .i64 t, .slice a1 n1 p1, .slice b1 m1 q1]) c w h
    have h2 := fun w h => refEncode6_any (.agg #[.int .i64 t, .slice a1 n1 p1, .slice b1 m1 q1]) c w h
    have h3 := fun w h => right6_any (.agg #[.int .i64 t, .slice a1 n1 p1, .slice b1 m1 q1]) c w h
    have h4 := fun w h => refRight6_any (.agg #[.int .i64 t, .slice a1 n1 p1, .slice b1 m1 q1]) c w h
    unfold GivesEnc6 at h1 h2
    obtain ⟨r, hr⟩ : ∃ r, Term.right c = r := ⟨_, rfl⟩
    rw [hr] at h1 h2
    simp only [hr] at h3 h4
    have HR := Lib.hid hr
    obtain ⟨B, hB⟩ : ∃ B, bytesOr r (Term.enc c) = B := ⟨_, rfl⟩
    have HBB := Lib.hid hB
    rw [hB] at h1 h2
    obtain ⟨er, her⟩ : ∃ er, orErr 60 r = er := ⟨_, rfl⟩
    have HER := Lib.hid her
    rw [her] at h1 h2
    have H1 := Lib.hid h1
    have H2 := Lib.hid h2
    have H3 := Lib.hid (show ∀ w, IsConf w (.agg #[.int .i64 t, .slice a1 n1 p1, .slice b1 m1 q1]) c → Calls Tryz.prog 13 #[.agg #[.int .i64 t, .slice a1 n1 p1, .slice b1 m1 q1]] w (fun x w' => x = .returned (.bool r) ∧ Ext w w') from h3)
    have H4 := Lib.hid (show ∀ w, IsConf w (.agg #[.int .i64 t, .slice a1 n1 p1, .slice b1 m1 q1]) c → Calls Tryz.prog 14 #[.agg #[.int .i64 t, .slice a1 n1 p1, .slice b1 m1 q1]] w (fun x w' => x = .returned (.bool r) ∧ Ext w w') from h4)
    clear h1 h2 h3 h4 hr hB her
    rw [hq]
    go_wp2_with fail
    refine (H1.out _ (HV.out.below e1)).mono ?_
    rintro e w2 ⟨u2, rfl, hb2, hE2⟩
    have e2 := e1.trans hE2
    have A2 := Lib.hid (A1.out.ext hE2)
    clear c0 c1 c2
    obtain ⟨c0, c1, c2⟩ := A2.out.cells
    have HB2 := Lib.hid hb2
    obtain ⟨x2, y2, z2, rfl⟩ := hb2.isSlice
    clear hb2
    go_wp2_with fail
    refine (H2.out _ (HV.out.below e2)).mono ?_
    rintro e w3 ⟨u3, rfl, hb3, hE3⟩
    have e3 := e2.trans hE3
    have A3 := Lib.hid (A2.out.ext hE3)
    clear c0 c1 c2
    have HB3 := Lib.hid hb3
    obtain ⟨x3, y3, z3, rfl⟩ := hb3.isSlice
    clear hb3
    have HB2' := Lib.hid (HB2.out.below hE3)
    have HBW := Lib.hid (fun (wy : World) (h : Ext w3 wy) => HB2'.out.below h)
    have HRW := Lib.hid (fun (wy : World) (h : Ext w3 wy) => H3.out wy (HV.out.below (e3.trans h)))
    have HRW2 := Lib.hid (fun (wy : World) (h : Ext w3 wy) => H4.out wy (HV.out.below (e3.trans h)))
    go_wp2_with fail
    refine wp_region_facts (by kernel_rfl) Ext (fun iop v w => match iop with
        | 0 => v = .slice x2 y2 z2
        | 1 => v = .string ⟨B.toArray⟩
        | 2 => v = .slice x3 y3 z3
        | 3 => v = .string ⟨B.toArray⟩
        | 4 => v = .bool false
        | 5 => v = .bool false
        | 6 => v = .int .i64 er
        | 7 => v = .int .i64 er
        | 8 => v = .bool false
        | 9 => v = .bool false
        | 10 => v = .bool false
        | 11 => v = .agg #[.int .i64 t, .slice a1 n1 p1, .slice b1 m1 q1]
        | 12 => v = .bool r
        | 13 => v = .agg #[.int .i64 t, .slice a1 n1 p1, .slice b1 m1 q1]
        | 14 => v = .bool r
        | 15 => v = .bool false
        | _ => v = .bool false
        ) (by kernel_rfl) (fun _ _ _ h k => Ext.trans h k) (fun a => Ext.refl a) (Ext.drew _) ?_ ?_ ?_
    · intro iop v wa wb hF hL
      cases iop with
      | zero => exact hF
      | succ iop =>
        cases iop with
        | zero => exact hF
        | succ iop =>
          cases iop with
          | zero => exact hF
          | succ iop =>
            cases iop with
            | zero => exact hF
            | succ iop =>
              cases iop with
              | zero => exact hF
              | succ iop =>
                cases iop with
                | zero => exact hF
                | succ iop =>
                  cases iop with
                  | zero => exact hF
                  | succ iop =>
                    cases iop with
                    | zero => exact hF
                    | succ iop =>
                      cases iop with
                      | zero => exact hF
                      | succ iop =>
                        cases iop with
                        | zero => exact hF
                        | succ iop =>
                          cases iop with
                          | zero => exact hF
                          | succ iop =>
                            cases iop with
                            | zero => exact hF
                            | succ iop =>
                              cases iop with
                              | zero => exact hF
                              | succ iop =>
                                cases iop with
                                | zero => exact hF
                                | succ iop =>
                                  cases iop with
                                  | zero => exact hF
                                  | succ iop =>
                                    cases iop with
                                    | zero => exact hF
                                    | succ iop =>
                                      exact hF
    · refine Obls.cons ?_ (Obls.cons ?_ (Obls.cons ?_ (Obls.cons ?_ (Obls.cons ?_ (Obls.cons ?_ (Obls.cons ?_ (Obls.cons ?_ (Obls.cons ?_ (Obls.cons ?_ (Obls.cons ?_ (Obls.cons ?_ (Obls.cons ?_ (Obls.cons ?_ (Obls.cons ?_ (Obls.cons ?_ (Obls.cons ?_ (Obls.nil)))))))))))))))))
      · intro ev wy hp hl hk hd
        have e3 : ev (.tmp 3) = .slice x2 y2 z2 := hk 3 (by decide)
        clear hk
        clear hd
        exact Yield.mv rfl ⟨Ext.refl _, e3⟩
      · intro ev wy hp hl hk hd
        have e23 : ev (.tmp 23) = .slice x2 y2 z2 := hk 23 (by decide)
        clear hk
        clear hd
        exact Yield.conv rfl e23 (run_str _ _ 5 Tryz.underlying28 Tryz.underlying5 Tryz.underlying9 (HBW.out wy hl)) ⟨Ext.refl _, rfl⟩
      · intro ev wy hp hl hk hd
        have e5 : ev (.tmp 5) = .slice x3 y3 z3 := hk 5 (by decide)
        clear hk
        clear hd
        exact Yield.mv rfl ⟨Ext.refl _, e5⟩
      · intro ev wy hp hl hk hd
        have e25 : ev (.tmp 25) = .slice x3 y3 z3 := hk 25 (by decide)
        clear hk
        clear hd
        exact Yield.conv rfl e25 (run_str _ _ 5 Tryz.underlying28 Tryz.underlying5 Tryz.underlying9 (HB3.out.below hl)) ⟨Ext.refl _, rfl⟩
      · intro ev wy hp hl hk hd
        have e24 : ev (.tmp 24) = .string ⟨B.toArray⟩ := hk 24 (by decide)
        have e26 : ev (.tmp 26) = .string ⟨B.toArray⟩ := hk 26 (by decide)
        clear hk
        clear hd
        exact Yield.op (v := .bool false) (w' := wy) (by simp [execOp, go_sem, e24, e26]) ⟨Ext.refl _, rfl⟩
      · intro ev wy hp hl hk hd
        have e27 : ev (.tmp 27) = .bool false := hk 27 (by decide)
        clear hk
        clear hd
        exact Yield.mv rfl ⟨Ext.refl _, e27⟩
      · intro ev wy hp hl hk hd
        have e4 : ev (.tmp 4) = .int .i64 er := hk 4 (by decide)
        clear hk
        refine ⟨fun _ _ _ => ?_, fun _ hx hne => absurd hx hne⟩
        clear hd
        exact Yield.mv rfl ⟨Ext.refl _, e4⟩
      · intro ev wy hp hl hk hd
        have e6 : ev (.tmp 6) = .int .i64 er := hk 6 (by decide)
        clear hk
        refine ⟨fun _ _ _ => ?_, fun _ hx hne => absurd hx hne⟩
        clear hd
        exact Yield.mv rfl ⟨Ext.refl _, e6⟩
      · intro ev wy hp hl hk hd
        have e29 : ev (.tmp 29) = .int .i64 er := hk 29 (by decide)
        have e30 : ev (.tmp 30) = .int .i64 er := hk 30 (by decide)
        clear hk
        refine ⟨fun _ _ _ => ?_, fun _ hx hne => absurd hx hne⟩
        clear hd
        exact Yield.op (v := .bool false) (w' := wy) (by simp [execOp, go_sem, e29, e30]) ⟨Ext.refl _, rfl⟩
      · intro ev wy hp hl hk hd
        have e28 : ev (.tmp 28) = .bool false := hk 28 (by decide)
        have e31 : ev (.tmp 31) = .bool false := hk 31 (by decide)
        clear hk
        clear hd
        exact Yield.pick (t := false) rfl e28 ⟨Ext.refl _, e31⟩
      · intro ev wy hp hl hk hd
        have e32 : ev (.tmp 32) = .bool false := hk 32 (by decide)
        clear hk
        clear hd
        exact Yield.mv rfl ⟨Ext.refl _, e32⟩
      · intro ev wy hp hl hk hd
        have e1 : ev (.tmp 1) = .pointer (some ⟨q, 0, none⟩) := hk 1 (by decide)
        clear hk
        refine ⟨fun _ _ _ => ?_, fun _ hx hne => absurd hx hne⟩
        clear hd
        exact Yield.load rfl e1 (by simp [go_sem, (A3.out.ext hl).cells.1, (A3.out.ext hl).cells.2.1, (A3.out.ext hl).cells.2.2]) ⟨Ext.refl _, rfl⟩
      · intro ev wy hp hl hk hd
        have e34 : ev (.tmp 34) = .agg #[.int .i64 t, .slice a1 n1 p1, .slice b1 m1 q1] := hk 34 (by decide)
        clear hk
        refine ⟨fun _ _ _ => ?_, fun _ hx hne => absurd hx hne⟩
        clear hd
        refine Yield.call rfl hp Tryz.func13 rfl (by kernel_rfl) ?_
        simp only [List.map_toArray, List.map_cons, List.map_nil, e34]
        exact (HRW.out wy hl).mono fun _ _ ⟨he, hb⟩ => ⟨_, he, hb, by first | rfl | simp⟩
      · intro ev wy hp hl hk hd
        have e1 : ev (.tmp 1) = .pointer (some ⟨q, 0, none⟩) := hk 1 (by decide)
        clear hk
        refine ⟨fun _ _ _ => ?_, fun _ hx hne => absurd hx hne⟩
        clear hd
        exact Yield.load rfl e1 (by simp [go_sem, (A3.out.ext hl).cells.1, (A3.out.ext hl).cells.2.1, (A3.out.ext hl).cells.2.2]) ⟨Ext.refl _, rfl⟩
      · intro ev wy hp hl hk hd
        have e36 : ev (.tmp 36) = .agg #[.int .i64 t, .slice a1 n1 p1, .slice b1 m1 q1] := hk 36 (by decide)
        clear hk
        refine ⟨fun _ _ _ => ?_, fun _ hx hne => absurd hx hne⟩
        clear hd
        refine Yield.call rfl hp Tryz.func14 rfl (by kernel_rfl) ?_
        simp only [List.map_toArray, List.map_cons, List.map_nil, e36]
        exact (HRW2.out wy hl).mono fun _ _ ⟨he, hb⟩ => ⟨_, he, hb, by first | rfl | simp⟩
      · intro ev wy hp hl hk hd
        have e35 : ev (.tmp 35) = .bool r := hk 35 (by decide)
        have e37 : ev (.tmp 37) = .bool r := hk 37 (by decide)
        clear hk
        refine ⟨fun _ _ _ => ?_, fun _ hx hne => absurd hx hne⟩
        clear hd
        exact Yield.op (v := .bool false) (w' := wy) (by simp [execOp, go_sem, e35, e37]) ⟨Ext.refl _, rfl⟩
      · intro ev wy hp hl hk hd
        have e33 : ev (.tmp 33) = .bool false := hk 33 (by decide)
        have e38 : ev (.tmp 38) = .bool false := hk 38 (by decide)
        clear hk
        clear hd
        exact Yield.pick (t := false) rfl e33 ⟨Ext.refl _, e38⟩
    · intro vals wz hz hv
      have g23 : vals 0 = .slice x2 y2 z2 := hv 0 (by decide)
      have g24 : vals 1 = .string ⟨B.toArray⟩ := hv 1 (by decide)
      have g25 : vals 2 = .slice x3 y3 z3 := hv 2 (by decide)
      have g26 : vals 3 = .string ⟨B.toArray⟩ := hv 3 (by decide)
      have g27 : vals 4 = .bool false := hv 4 (by decide)
      have g28 : vals 5 = .bool false := hv 5 (by decide)
      have g29 : vals 6 = .int .i64 er := hv 6 (by decide)
      have g30 : vals 7 = .int .i64 er := hv 7 (by decide)
      have g31 : vals 8 = .bool false := hv 8 (by decide)
      have g32 : vals 9 = .bool false := hv 9 (by decide)
      have g33 : vals 10 = .bool false := hv 10 (by decide)
      have g34 : vals 11 = .agg #[.int .i64 t, .slice a1 n1 p1, .slice b1 m1 q1] := hv 11 (by decide)
      have g35 : vals 12 = .bool r := hv 12 (by decide)
      have g36 : vals 13 = .agg #[.int .i64 t, .slice a1 n1 p1, .slice b1 m1 q1] := hv 13 (by decide)
      have g37 : vals 14 = .bool r := hv 14 (by decide)
      have g38 : vals 15 = .bool false := hv 15 (by decide)
      have g39 : vals 16 = .bool false := hv 16 (by decide)
      clear hv
      simp only [putAll, Act.put, List.setIfInBounds_toArray, List.set_cons_zero, List.set_cons_succ, g23, g24, g25, g26, g27, g28, g29, g30, g31, g32, g33, g34, g35, g36, g37, g38, g39]
      clear g23
      clear g24
      clear g25
      clear g26
      clear g27
      clear g28
      clear g29
      clear g30
      clear g31
      clear g32
      clear g33
      clear g34
      clear g35
      clear g36
      clear g37
      clear g38
      clear g39
      have e4 := e3.trans hz
      have A4 := Lib.hid (A3.out.ext hz)
      have B4 := Lib.hid (HBW.out wz hz)
      cases r with
      | true =>
        have hB : Term.enc c = B := HBB.out
        have her : (0 : Int) = er := HER.out
        subst hB her
        have H5 := Lib.hid (decode6_enc (.slice x2 y2 z2) c wz B4.out HR.out)
        clear HBB HER H1 H2 H3 H4
        go_wp2_with fail
        refine H5.out.mono ?_
        rintro e w5 ⟨u5, rfl, hi5, hE5⟩
        obtain ⟨a5, n5, p5, b5, m5, q5, rfl⟩ := hi5.shape
        have X5 := Lib.hid (ConfAt.new 32 w5 c.term (.slice a5 n5 p5) (.slice b5 m5 q5))
        have hE5' : Ext w5 (w5.alloc (.cells #[.int .i64 c.term, .slice a5 n5 p5, .slice b5 m5 q5] 32)) := Ext.alloc _ _
        have HI5 := Lib.hid (hi5.below hE5')
        have e5 := (e4.trans hE5).trans hE5'
        have A5 := Lib.hid ((A4.out.ext hE5).ext hE5')
        clear hi5
        go_wp2_with fail
        refine (termAlive_any _).mono ?_
        rintro e w6 ⟨rfl, hE6⟩
        obtain ⟨y0, y1, y2⟩ := (X5.out.ext hE6).cells
        obtain ⟨z0, z1, z2⟩ := (A5.out.ext hE6).cells
        have HSA := Lib.hid (Term.alike_self c)
        go_wp2_with fail
        refine (refSame6_any _ _ c c _ (HI5.out.below hE6) (HV.out.below (e5.trans hE6))).mono ?_
        rw [HSA.out]
        rintro e w7 ⟨rfl, hE7⟩
        go_wp2_with fail
        go_ret
        exact ⟨rfl, (e5.trans hE6).trans hE7⟩
      | false =>
        have hB : [] = B := HBB.out
        have her : (60 : Int) = er := HER.out
        subst hB her
        have h5 := decode6_any (.slice x2 y2 z2) [] wz B4.out (by simp)
        unfold GivesDec6 at h5
        generalize Term.confOf (Term.dec []) = D at *
        generalize Term.errOf (Term.dec []) = er at *
        have H5 := Lib.hid h5
        clear h5 HBB HER H1 H2 H3 H4
        go_wp2_with fail
        refine H5.out.mono ?_
        rintro e w5 ⟨u5, rfl, hi5, hE5⟩
        obtain ⟨a5, n5, p5, b5, m5, q5, rfl⟩ := hi5.shape
        have hE5' : Ext w5 (w5.alloc (.cells #[.int .i64 D.term, .slice a5 n5 p5, .slice b5 m5 q5] 32)) := Ext.alloc _ _
        have e5 := (e4.trans hE5).trans hE5'
        clear hi5
        go_wp2_with fail
        refine (termAlive_any _).mono ?_
        rintro e w6 ⟨rfl, hE6⟩
        go_wp2_with fail
        go_ret
        exact ⟨rfl, e5.trans hE6⟩

namespace termWrites
theorem own : ownKnob Tryz.prog.godebug = none := by kernel_rfl
theorem laidOut : laidOutB Tryz.prog = true := by kernel_rfl
set_option linter.unusedVariables false in
set_option maxRecDepth 100000 in
theorem lifted (os : Os) (started : os.Started) (H : Type) (enc : TypeId × Value → H) :
    ReturnsInHanded {} Tryz.checked os 3 .any (Rows.termWritesSpec.pre6 enc Tryz.prog Tryz.f3 Rows.termWritesRow.domain false) (Rows.termWritesSpec.post enc Tryz.prog Tryz.f3 false true false false) := by
  refine returnsInHanded_of_change_sized (C := Tryz.checked) own started (by kernel_rfl) Tryz.func3
    (ChangeSpec.witness6 (enc := enc) (C := Tryz.checked) false ⟨#[], #[.agg #[.int .i64 0, .slice none 0 0, .slice none 0 0]], []⟩ 8 (by kernel_rfl) (by kernel_rfl) (by kernel_rfl) (by kernel_rfl)) ?_
  intro W base args ds gs before hval0 hW hcnd hsz _
  have hval : ∀ (j : Nat) t v, Tryz.f3.params[j]? = some t → args[j]? = some v → Value.okWide Tryz.prog W .any base t v := hval0
  have hW' := hW
  obtain ⟨p, q, hA0, hV, rfl, hfz, hnd⟩ := hW'
  have hA : DataW.TrodAll enc Tryz.prog W 0 (fun _ => true) true Tryz.f3.params.toList args.toList ds p := hA0
  rw [Tryz.params3] at hA hval
  obtain ⟨v0, vs0, d0, ds0, p0, q0, hargs, rfl, rfl, h0, r0⟩ := trodAll_cons hA
  obtain ⟨rfl, rfl, rfl⟩ := trodAll_nil r0
  obtain rfl : args = #[v0] := by cases args; simp_all
  obtain ⟨rfl, rfl⟩ := trodVars_none hV
  have k0 := h0
  have lt0 : ∀ x ∈ p0, x.block < W.heap.size := by obtain ⟨m, hm⟩ := k0; exact DataW.trod_lt m _ _ _ hm
  obtain ⟨l0, w0⟩ := conf_arg (hval 0 25 v0 rfl rfl) h0
  clear hA0 hval0
  refine (termWrites_walk _ l0 W w0).mono fun e W' ⟨he, bel⟩ => ?_
  subst he
  exact ⟨_, rfl, _, _, _, [], _, [], hW, trodAll_mk1 (shut_bool Tryz.underlying4 _), (trodAll_cons_mk (Below.trod laidOut (by kernel_rfl) (of_decide_eq_true (by kernel_rfl)) k0 bel lt0) trodAll_mk0), rfl, bel.frame _, fun h => by cases h⟩
theorem over : Rows.termWritesRow.holds Tryz.pinned (OpenSpec.ofChange Rows.termWritesSpec) :=
  OpenClaim.holds_of_wide 3 Tryz.f3 rfl rfl rfl rfl rfl rfl rfl ⟨rfl, rfl, rfl, rfl, rfl⟩ rfl rfl rfl rfl rfl (by kernel_rfl) Tryz.func3 (by kernel_rfl)
    (of_decide_eq_true (by kernel_rfl)) (by unfold Func.isWrapper; first | (rw [if_pos (by decide +kernel)]; kernel_rfl) | (rw [if_neg (by decide +kernel)]; exact ⟨rfl, rfl⟩))
    (fun os started H enc _ => lifted os started H enc)
theorem proved : Rows.TermWritesSaid := over
end termWrites
end Go.Proofs.YtpfodkgncachiaaGreat
