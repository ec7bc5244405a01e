/-
  TermUnlike: configurations that are right, and unlike, are written as unlike bytes: for every input the statement's function returns true, and leaves what came in as it was.
-/
import Derived.Test.YtpfodkgncachiaaGreatTrmRaw
namespace Go.Proofs.YtpfodkgncachiaaGreat
set_option maxRecDepth 100000
set_option linter.unusedSimpArgs false
set_option linter.unusedVariables false
open Go.ChangeShapes Go.WideShapes Go.ChangeAt Go.RowKit

theorem Term.enc_same {a b : Term.C} (ha : Term.right a = true) (hb : Term.right b = true) : (Term.enc a == Term.enc b) = Term.alike a b := by
  cases h : Term.alike a b with
  | true => rw [(Term.alike_iff a b).1 h]; simp
  | false =>
    rw [beq_eq_false_iff_ne]
    intro e
    rw [Term.enc_inj ha hb e, Term.alike_self] at h
    cases h

set_option maxHeartbeats 16000000 in
theorem termUnlike_walk (v u : Value) (a b : Term.C) (W : World) (hv : IsConf W v a) (hu : IsConf W u b) :
    Calls Tryz.prog 7 #[v, u] W fun e W' => e = .returned (.bool true) ∧ Below W.heap.size W W' := by
  have hbx := box_confR
  have HV := Lib.hid hv
  have HU := Lib.hid hu
  obtain ⟨a1, n1, p1, b1, m1, q1, rfl⟩ := hv.shape
  obtain ⟨a2, n2, p2, b2, m2, q2, rfl⟩ := hu.shape
  clear hv hu
  obtain ⟨t, ht⟩ : ∃ t, a.term = t := ⟨_, rfl⟩
  obtain ⟨t2, ht2⟩ : ∃ t2, b.term = t2 := ⟨_, rfl⟩
  rw [ht] at HV ⊢
  rw [ht2] at HU ⊢
  clear ht ht2
  have hE0 := ext_two W (.cells #[.int .i64 t, .slice a1 n1 p1, .slice b1 m1 q1] 25) (.cells #[.int .i64 t2, .slice a2 n2 p2, .slice b2 m2 q2] 25)
  have hh := heap_two W (.cells #[.int .i64 t, .slice a1 n1 p1, .slice b1 m1 q1] 25) (.cells #[.int .i64 t2, .slice a2 n2 p2, .slice b2 m2 q2] 25)
  have HA0 := Lib.hid (show ConfAt 25 _ W.heap.size t (.slice a1 n1 p1) (.slice b1 m1 q1) from hh.1)
  have HB0 := Lib.hid (show ConfAt 25 _ (W.heap.size + 1) t2 (.slice a2 n2 p2) (.slice b2 m2 q2) from hh.2)
  obtain ⟨S, hS⟩ : ∃ S, Term.alike a b = S := ⟨_, rfl⟩
  have hes := fun h1 h2 => Term.enc_same (a := a) (b := b) h1 h2
  rw [hS] at hes
  have HES := Lib.hid hes
  have HS := Lib.hid hS
  have hSS : (S == S) = true := by cases S <;> rfl
  clear hh hS hes
  go_enter Tryz.func7, Tryz.ntmps7
  obtain ⟨k0, k1, k2⟩ := HA0.out.cells
  go_wp2_with fail
  clear k0 k1 k2
  refine (fewSome6_any _ a _ (HV.out.below hE0)).mono ?_
  unfold SomeBool
  rintro e w1 ⟨⟨fa, rfl⟩, hE1⟩
  have e1 := hE0.trans hE1
  have A1 := Lib.hid (HA0.out.ext hE1)
  have C1 := Lib.hid (HB0.out.ext hE1)
  cases fa with
  | false =>
    go_wp2_with fail
    refine (termAlive_any _).mono ?_
    rintro e w2 ⟨rfl, hE2⟩
    go_wp2_with fail
    go_ret
    exact ⟨rfl, e1.trans hE2⟩
  | true =>
    obtain ⟨j0, j1, j2⟩ := C1.out.cells
    go_wp2_with fail
    clear j0 j1 j2
    refine (fewSome6_any _ b _ (HU.out.below e1)).mono ?_
    unfold SomeBool
    rintro e w2 ⟨⟨fb, rfl⟩, hE2⟩
    have e2 := e1.trans hE2
    have A2 := Lib.hid (A1.out.ext hE2)
    have C2 := Lib.hid (C1.out.ext hE2)
    cases fb with
    | false =>
      go_wp2_with fail
      refine (termAlive_any _).mono ?_
      rintro e w3 ⟨rfl, hE3⟩
      go_wp2_with fail
      go_ret
      exact ⟨rfl, e2.trans hE3⟩
    | true =>
      obtain ⟨k0, k1, k2⟩ := A2.out.cells
      obtain ⟨j0, j1, j2⟩ := C2.out.cells
      cases hra : Term.right a with
      | true =>
        have HRA := Lib.hid hra
        clear hra
        cases hrb : Term.right b with
        | true =>
          have HRB := Lib.hid hrb
          clear hrb
          go_wp2_with fail
          clear k0 k1 k2 j0 j1 j2
          refine (encode6_own _ a _ (HV.out.below e2) HRA.out).mono ?_
          unfold OwnsEnc6
          rintro e w3 ⟨u3, rfl, ho3, hE3⟩
          obtain ⟨x3, y3, z3, rfl⟩ := ownSlice ho3
          have B3 := Lib.hid (show Bytes w3 (.slice x3 y3 z3) (Term.enc a) from Sl.ofOwn ho3)
          clear ho3
          have e3 := e2.trans hE3
          have A3 := Lib.hid (A2.out.ext hE3)
          have C3 := Lib.hid (C2.out.ext hE3)
          obtain ⟨k0, k1, k2⟩ := A3.out.cells
          obtain ⟨j0, j1, j2⟩ := C3.out.cells
          go_wp2_with fail
          clear k0 k1 k2 j0 j1 j2
          refine (encode6_own _ b _ (HU.out.below e3) HRB.out).mono ?_
          unfold OwnsEnc6
          rintro e w4 ⟨u4, rfl, ho4, hE4⟩
          obtain ⟨x4, y4, z4, rfl⟩ := ownSlice ho4
          have B4 := Lib.hid (show Bytes w4 (.slice x4 y4 z4) (Term.enc b) from Sl.ofOwn ho4)
          clear ho4
          have e4 := e3.trans hE4
          have A4 := Lib.hid (A3.out.ext hE4)
          have C4 := Lib.hid (C3.out.ext hE4)
          obtain ⟨k0, k1, k2⟩ := A4.out.cells
          obtain ⟨j0, j1, j2⟩ := C4.out.cells
          go_wp2_with fail
          clear k0 k1 k2 j0 j1 j2
          refine (same6_any _ _ a b _ (HV.out.below e4) (HU.out.below e4)).mono ?_
          rw [HS.out]
          rintro e w5 ⟨rfl, hE5⟩
          have e5 := e4.trans hE5
          have A5 := Lib.hid (A4.out.ext hE5)
          have C5 := Lib.hid (C4.out.ext hE5)
          go_wp2_with fail
          refine (termAlive_any _).mono ?_
          rintro e w6 ⟨rfl, hE6⟩
          have e6 := e5.trans hE6
          have A6 := Lib.hid (A5.out.ext hE6)
          have C6 := Lib.hid (C5.out.ext hE6)
          obtain ⟨k0, k1, k2⟩ := A6.out.cells
          obtain ⟨j0, j1, j2⟩ := C6.out.cells
          go_wp2_with fail
          clear k0 k1 k2 j0 j1 j2
          refine (refSame6_any _ _ a b _ (HV.out.below e6) (HU.out.below e6)).mono ?_
          rw [HS.out]
          rintro e w7 ⟨rfl, hE7⟩
          have e7 := e6.trans hE7
          have hst1 := run_str (P := Tryz.prog) 28 9 5 Tryz.underlying28 Tryz.underlying5 Tryz.underlying9 (B3.out.below (((hE4.trans hE5).trans hE6).trans hE7))
          have hst2 := run_str (P := Tryz.prog) 28 9 5 Tryz.underlying28 Tryz.underlying5 Tryz.underlying9 (B4.out.below ((hE5.trans hE6).trans hE7))
          have hes := HES.out HRA.out HRB.out
          obtain ⟨X, hX⟩ : ∃ X, Term.enc a = X := ⟨_, rfl⟩
          obtain ⟨Y, hY⟩ : ∃ Y, Term.enc b = Y := ⟨_, rfl⟩
          rw [hX] at hst1 hes
          rw [hY] at hst2 hes
          clear hX hY
          go_wp2_with fail
          go_ret
          exact ⟨rfl, e7⟩
        | false =>
          have HRB := Lib.hid hrb
          clear hrb
          go_wp2_with fail
          clear k0 k1 k2 j0 j1 j2
          refine (encode6_own _ a _ (HV.out.below e2) HRA.out).mono ?_
          unfold OwnsEnc6
          rintro e w3 ⟨u3, rfl, ho3, hE3⟩
          obtain ⟨x3, y3, z3, rfl⟩ := ownSlice ho3
          have B3 := Lib.hid (show Bytes w3 (.slice x3 y3 z3) (Term.enc a) from Sl.ofOwn ho3)
          clear ho3
          have e3 := e2.trans hE3
          have A3 := Lib.hid (A2.out.ext hE3)
          have C3 := Lib.hid (C2.out.ext hE3)
          obtain ⟨k0, k1, k2⟩ := A3.out.cells
          obtain ⟨j0, j1, j2⟩ := C3.out.cells
          go_wp2_with fail
          clear k0 k1 k2 j0 j1 j2
          refine (encode6_wrong _ b _ (HU.out.below e3) HRB.out).mono ?_
          rintro e w4 ⟨rfl, hE4⟩
          have e4 := e3.trans hE4
          have A4 := Lib.hid (A3.out.ext hE4)
          have C4 := Lib.hid (C3.out.ext hE4)
          obtain ⟨k0, k1, k2⟩ := A4.out.cells
          obtain ⟨j0, j1, j2⟩ := C4.out.cells
          go_wp2_with fail
          clear k0 k1 k2 j0 j1 j2
          refine (same6_any _ _ a b _ (HV.out.below e4) (HU.out.below e4)).mono ?_
          rw [HS.out]
          rintro e w5 ⟨rfl, hE5⟩
          have e5 := e4.trans hE5
          have A5 := Lib.hid (A4.out.ext hE5)
          have C5 := Lib.hid (C4.out.ext hE5)
          go_wp2_with fail
          refine (termAlive_any _).mono ?_
          rintro e w6 ⟨rfl, hE6⟩
          have e6 := e5.trans hE6
          have A6 := Lib.hid (A5.out.ext hE6)
          have C6 := Lib.hid (C5.out.ext hE6)
          obtain ⟨k0, k1, k2⟩ := A6.out.cells
          obtain ⟨j0, j1, j2⟩ := C6.out.cells
          go_wp2_with fail
          clear k0 k1 k2 j0 j1 j2
          refine (refSame6_any _ _ a b _ (HV.out.below e6) (HU.out.below e6)).mono ?_
          rw [HS.out]
          rintro e w7 ⟨rfl, hE7⟩
          have e7 := e6.trans hE7
          go_wp2_with fail
          go_ret
          exact ⟨rfl, e7⟩
      | false =>
        have HRA := Lib.hid hra
        clear hra
        cases hrb : Term.right b with
        | true =>
          have HRB := Lib.hid hrb
          clear hrb
          go_wp2_with fail
          clear k0 k1 k2 j0 j1 j2
          refine (encode6_wrong _ a _ (HV.out.below e2) HRA.out).mono ?_
          rintro e w3 ⟨rfl, hE3⟩
          have e3 := e2.trans hE3
          have A3 := Lib.hid (A2.out.ext hE3)
          have C3 := Lib.hid (C2.out.ext hE3)
          obtain ⟨k0, k1, k2⟩ := A3.out.cells
          obtain ⟨j0, j1, j2⟩ := C3.out.cells
          go_wp2_with fail
          clear k0 k1 k2 j0 j1 j2
          refine (encode6_own _ b _ (HU.out.below e3) HRB.out).mono ?_
          unfold OwnsEnc6
          rintro e w4 ⟨u4, rfl, ho4, hE4⟩
          obtain ⟨x4, y4, z4, rfl⟩ := ownSlice ho4
          have B4 := Lib.hid (show Bytes w4 (.slice x4 y4 z4) (Term.enc b) from Sl.ofOwn ho4)
          clear ho4
          have e4 := e3.trans hE4
          have A4 := Lib.hid (A3.out.ext hE4)
          have C4 := Lib.hid (C3.out.ext hE4)
          obtain ⟨k0, k1, k2⟩ := A4.out.cells
          obtain ⟨j0, j1, j2⟩ := C4.out.cells
          go_wp2_with fail
          clear k0 k1 k2 j0 j1 j2
          refine (same6_any _ _ a b _ (HV.out.below e4) (HU.out.below e4)).mono ?_
          rw [HS.out]
          rintro e w5 ⟨rfl, hE5⟩
          have e5 := e4.trans hE5
          have A5 := Lib.hid (A4.out.ext hE5)
          have C5 := Lib.hid (C4.out.ext hE5)
          go_wp2_with fail
          refine (termAlive_any _).mono ?_
          rintro e w6 ⟨rfl, hE6⟩
          have e6 := e5.trans hE6
          have A6 := Lib.hid (A5.out.ext hE6)
          have C6 := Lib.hid (C5.out.ext hE6)
          obtain ⟨k0, k1, k2⟩ := A6.out.cells
          obtain ⟨j0, j1, j2⟩ := C6.out.cells
          go_wp2_with fail
          clear k0 k1 k2 j0 j1 j2
          refine (refSame6_any _ _ a b _ (HV.out.below e6) (HU.out.below e6)).mono ?_
          rw [HS.out]
          rintro e w7 ⟨rfl, hE7⟩
          have e7 := e6.trans hE7
          go_wp2_with fail
          go_ret
          exact ⟨rfl, e7⟩
        | false =>
          have HRB := Lib.hid hrb
          clear hrb
          go_wp2_with fail
          clear k0 k1 k2 j0 j1 j2
          refine (encode6_wrong _ a _ (HV.out.below e2) HRA.out).mono ?_
          rintro e w3 ⟨rfl, hE3⟩
          have e3 := e2.trans hE3
          have A3 := Lib.hid (A2.out.ext hE3)
          have C3 := Lib.hid (C2.out.ext hE3)
          obtain ⟨k0, k1, k2⟩ := A3.out.cells
          obtain ⟨j0, j1, j2⟩ := C3.out.cells
          go_wp2_with fail
          clear k0 k1 k2 j0 j1 j2
          refine (encode6_wrong _ b _ (HU.out.below e3) HRB.out).mono ?_
          rintro e w4 ⟨rfl, hE4⟩
          have e4 := e3.trans hE4
          have A4 := Lib.hid (A3.out.ext hE4)
          have C4 := Lib.hid (C3.out.ext hE4)
          obtain ⟨k0, k1, k2⟩ := A4.out.cells
          obtain ⟨j0, j1, j2⟩ := C4.out.cells
          go_wp2_with fail
          clear k0 k1 k2 j0 j1 j2
          refine (same6_any _ _ a b _ (HV.out.below e4) (HU.out.below e4)).mono ?_
          rw [HS.out]
          rintro e w5 ⟨rfl, hE5⟩
          have e5 := e4.trans hE5
          have A5 := Lib.hid (A4.out.ext hE5)
          have C5 := Lib.hid (C4.out.ext hE5)
          go_wp2_with fail
          refine (termAlive_any _).mono ?_
          rintro e w6 ⟨rfl, hE6⟩
          have e6 := e5.trans hE6
          have A6 := Lib.hid (A5.out.ext hE6)
          have C6 := Lib.hid (C5.out.ext hE6)
          obtain ⟨k0, k1, k2⟩ := A6.out.cells
          obtain ⟨j0, j1, j2⟩ := C6.out.cells
          go_wp2_with fail
          clear k0 k1 k2 j0 j1 j2
          refine (refSame6_any _ _ a b _ (HV.out.below e6) (HU.out.below e6)).mono ?_
          rw [HS.out]
          rintro e w7 ⟨rfl, hE7⟩
          have e7 := e6.trans hE7
          go_wp2_with fail
          go_ret
          exact ⟨rfl, e7⟩

namespace termUnlike
theorem own : ownKnob Tryz.prog.godebug = none := by kernel_rfl
theorem laidOut : laidOutB Tryz.prog = true := by kernel_rfl
set_option linter.unusedVariables false in
set_option maxRecDepth 100000 in
theorem lifted (os : Os) (started : os.Started) (H : Type) (enc : TypeId × Value → H) :
    ReturnsInHanded {} Tryz.checked os 7 .any (Rows.termUnlikeSpec.pre6 enc Tryz.prog Tryz.f7 Rows.termUnlikeRow.domain false) (Rows.termUnlikeSpec.post enc Tryz.prog Tryz.f7 false true false false) := by
  refine returnsInHanded_of_change_sized (C := Tryz.checked) own started (by kernel_rfl) Tryz.func7
    (ChangeSpec.witness6 (enc := enc) (C := Tryz.checked) false ⟨#[], #[.agg #[.int .i64 0, .slice none 0 0, .slice none 0 0], .agg #[.int .i64 0, .slice none 0 0, .slice none 0 0]], []⟩ 8 (by kernel_rfl) (by kernel_rfl) (by kernel_rfl) (by kernel_rfl)) ?_
  intro W base args ds gs before hval0 hW hcnd hsz _
  have hval : ∀ (j : Nat) t v, Tryz.f7.params[j]? = some t → args[j]? = some v → Value.okWide Tryz.prog W .any base t v := hval0
  have hW' := hW
  obtain ⟨p, q, hA0, hV, rfl, hfz, hnd⟩ := hW'
  have hA : DataW.TrodAll enc Tryz.prog W 0 (fun _ => true) true Tryz.f7.params.toList args.toList ds p := hA0
  rw [Tryz.params7] at hA hval
  obtain ⟨v0, vs0, d0, ds0, p0, q0, hargs, rfl, rfl, h0, r0⟩ := trodAll_cons hA
  obtain ⟨v1, vs1, d1, ds1, p1, q1, rfl, rfl, rfl, h1, r1⟩ := trodAll_cons r0
  obtain ⟨rfl, rfl, rfl⟩ := trodAll_nil r1
  obtain rfl : args = #[v0, v1] := by cases args; simp_all
  obtain ⟨rfl, rfl⟩ := trodVars_none hV
  have k0 := h0
  have lt0 : ∀ x ∈ p0, x.block < W.heap.size := by obtain ⟨m, hm⟩ := k0; exact DataW.trod_lt m _ _ _ hm
  obtain ⟨l0, w0⟩ := conf_arg (hval 0 25 v0 rfl rfl) h0
  have k1 := h1
  have lt1 : ∀ x ∈ p1, x.block < W.heap.size := by obtain ⟨m, hm⟩ := k1; exact DataW.trod_lt m _ _ _ hm
  obtain ⟨l1, w1⟩ := conf_arg (hval 1 25 v1 rfl rfl) h1
  clear hA0 hval0
  refine (termUnlike_walk _ _ l0 l1 W w0 w1).mono fun e W' ⟨he, bel⟩ => ?_
  subst he
  exact ⟨_, rfl, _, _, _, [], _, [], hW, trodAll_mk1 (shut_bool Tryz.underlying4 _), (trodAll_cons_mk (Below.trod laidOut (by kernel_rfl) (of_decide_eq_true (by kernel_rfl)) k0 bel lt0) (trodAll_cons_mk (Below.trod laidOut (by kernel_rfl) (of_decide_eq_true (by kernel_rfl)) k1 bel lt1) trodAll_mk0)), rfl, bel.frame _, fun h => by cases h⟩
theorem over : Rows.termUnlikeRow.holds Tryz.pinned (OpenSpec.ofChange Rows.termUnlikeSpec) :=
  OpenClaim.holds_of_wide 7 Tryz.f7 rfl rfl rfl rfl rfl rfl rfl ⟨rfl, rfl, rfl, rfl, rfl⟩ rfl rfl rfl rfl rfl (by kernel_rfl) Tryz.func7 (by kernel_rfl)
    (of_decide_eq_true (by kernel_rfl)) (by unfold Func.isWrapper; first | (rw [if_pos (by decide +kernel)]; kernel_rfl) | (rw [if_neg (by decide +kernel)]; exact ⟨rfl, rfl⟩))
    (fun os started H enc _ => lifted os started H enc)
theorem proved : Rows.TermUnlikeSaid := over
end termUnlike
end Go.Proofs.YtpfodkgncachiaaGreat
