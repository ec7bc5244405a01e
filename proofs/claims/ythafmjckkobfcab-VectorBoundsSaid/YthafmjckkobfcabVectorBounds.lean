/-
  VectorBounds: the greater one covers both, and is covered by all that cover both; the lesser one likewise the other way round: for every input the statement's function returns true, and leaves what came in as it was.
-/
import Derived.Test.YthafmjckkobfcabVecAlive
import Derived.Test.YthafmjckkobfcabVecRaw
import Derived.Test.YthafmjckkobfcabRows
import Derived.Test.YthafmjckkobfcabChecked
import Derived.SizedLaws
namespace Go.Proofs.Ythafmjckkobfcab
open Go.ChangeShapes Go.WideShapes Go.ChangeAt Go.RowKit

set_option maxRecDepth 100000 in
set_option maxHeartbeats 8000000 in
theorem vectorBounds_walk (v u t : Value) (ns ms cs : List Int) (W : World) (hv : Ints W v ns) (hu : Ints W u ms) (ht : Ints W t cs) :
    Calls Try.prog 9 #[v, u, t] W fun e W' => e = .returned (.bool true) ∧ Below W.heap.size W W' := by
  have HV := Lib.hid hv
  have HU := Lib.hid hu
  have HT := Lib.hid ht
  clear hv hu ht
  cases hk : Vec.kind ns ms with
  | false =>
    have HK := Lib.hid hk
    clear hk
    go_enter Try.func9, Try.ntmps9
    go_wp2_with fail
    refine (max_any _ _ ns ms _ HV.out HU.out).mono ?_
    rw [HK.out]
    rintro e w1 ⟨v1, rfl, hi1, hE1⟩
    go_wp2_with fail
    refine (min_any _ _ ns ms _ (HV.out.below hE1) (HU.out.below hE1)).mono ?_
    rw [HK.out]
    rintro e w2 ⟨v2, rfl, hi2, hE2⟩
    go_wp2_with fail
    refine (vecAlive_any _).mono ?_
    rintro e w3 ⟨rfl, hE3⟩
    go_wp2_with fail
    go_ret
    exact ⟨rfl, (hE1.trans hE2).trans hE3⟩
  | true =>
    have c1 := Vec.max_covers hk
    have c2 := Vec.min_covered hk
    have hts := Vec.total_sums hk
    have hup := Lib.hid (fun h1 h2 => Vec.covers_max (c := cs) h1 h2 hk)
    have hdn := Lib.hid (fun h1 h2 => Vec.min_covers (c := cs) h1 h2 hk)
    have hb1 := Vec.total_bound (Vec.max ns ms)
    have hb2 := Vec.total_bound (Vec.min ns ms)
    have hb3 := Vec.total_bound ns
    have hb4 := Vec.total_bound ms
    obtain ⟨x1, hx1⟩ : ∃ x, Vec.total (Vec.max ns ms) = x := ⟨_, rfl⟩
    obtain ⟨x2, hx2⟩ : ∃ x, Vec.total (Vec.min ns ms) = x := ⟨_, rfl⟩
    obtain ⟨x3, hx3⟩ : ∃ x, Vec.total ns = x := ⟨_, rfl⟩
    obtain ⟨x4, hx4⟩ : ∃ x, Vec.total ms = x := ⟨_, rfl⟩
    rw [hx1, hx2, hx3, hx4] at hts
    rw [hx1] at hb1
    rw [hx2] at hb2
    rw [hx3] at hb3
    rw [hx4] at hb4
    have hne : ((x1 + x2) == (x3 + x4)) = true := by rw [hts]; simp
    have hw1 : IntKind.i64.wrap (x1 + x2) = x1 + x2 := IntWalk.i64_in _ (by omega)
    have hw2 : IntKind.i64.wrap (x3 + x4) = x3 + x4 := IntWalk.i64_in _ (by omega)
    have HK := Lib.hid hk
    have C1 := Lib.hid c1
    have C2 := Lib.hid c2
    have X1 := Lib.hid hx1
    have X2 := Lib.hid hx2
    have X3 := Lib.hid hx3
    have X4 := Lib.hid hx4
    clear hk c1 c2 hts hx1 hx2 hx3 hx4
    go_enter Try.func9, Try.ntmps9
    go_wp2_with fail
    refine (max_any _ _ ns ms _ HV.out HU.out).mono ?_
    rw [HK.out, orNone_true]
    rintro e w1 ⟨v1, rfl, hi1, hE1⟩
    go_wp2_with fail
    refine (min_any _ _ ns ms _ (HV.out.below hE1) (HU.out.below hE1)).mono ?_
    rw [HK.out, orNone_true]
    rintro e w2 ⟨v2, rfl, hi2, hE2⟩
    have e2 : Ext W w2 := hE1.trans hE2
    have hv2 := HV.out.below e2
    have hu2 := HU.out.below e2
    have hm2 := hi1.below hE2
    have HV2 := Lib.hid hv2
    have HU2 := Lib.hid hu2
    have HM2 := Lib.hid hm2
    have HN2 := Lib.hid hi2
    clear hv2 hu2 hm2 hi2
    go_wp2_with fail
    refine (covers_any _ _ _ _ _ HM2.out HV2.out).mono ?_
    rintro e w4 ⟨rfl, rfl⟩
    rw [C1.out.1]
    go_wp2_with fail
    refine (covers_any _ _ _ _ _ HM2.out HU2.out).mono ?_
    rintro e w4 ⟨rfl, rfl⟩
    rw [C1.out.2]
    go_wp2_with fail
    refine (covers_any _ _ _ _ _ HV2.out HN2.out).mono ?_
    rintro e w4 ⟨rfl, rfl⟩
    rw [C2.out.1]
    go_wp2_with fail
    refine (covers_any _ _ _ _ _ HU2.out HN2.out).mono ?_
    rintro e w4 ⟨rfl, rfl⟩
    rw [C2.out.2]
    go_wp2_with fail
    refine (total_any _ _ _ HM2.out).mono ?_
    rintro e w4 ⟨rfl, rfl⟩
    rw [X1.out]
    go_wp2_with fail
    refine (total_any _ _ _ HN2.out).mono ?_
    rintro e w4 ⟨rfl, rfl⟩
    rw [X2.out]
    go_wp2_with fail
    refine (total_any _ _ _ HV2.out).mono ?_
    rintro e w4 ⟨rfl, rfl⟩
    rw [X3.out]
    go_wp2_with fail
    refine (total_any _ _ _ HU2.out).mono ?_
    rintro e w4 ⟨rfl, rfl⟩
    rw [X4.out]
    go_wp2_with fail
    refine (vecAlive_any _).mono ?_
    rintro e w3 ⟨rfl, hE3⟩
    have e3 : Ext W w3 := e2.trans hE3
    have HV3 := Lib.hid (HV2.out.below hE3)
    have HU3 := Lib.hid (HU2.out.below hE3)
    have HM3 := Lib.hid (HM2.out.below hE3)
    have HN3 := Lib.hid (HN2.out.below hE3)
    have HT3 := Lib.hid (HT.out.below e3)
    go_wp2_with fail
    refine (covers_any _ _ _ _ _ HT3.out HV3.out).mono ?_
    rintro e w4 ⟨rfl, rfl⟩
    cases p1 : Vec.covers cs ns
    case' true =>
      have P1 := Lib.hid p1
      clear p1
      go_wp2_with fail
      refine (covers_any _ _ _ _ _ HT3.out HU3.out).mono ?_
      rintro e w4 ⟨rfl, rfl⟩
      cases p2 : Vec.covers cs ms
      case' true =>
        have P2 := Lib.hid p2
        clear p2
        go_wp2_with fail
        refine (covers_any _ _ _ _ _ HT3.out HM3.out).mono ?_
        rintro e w4 ⟨rfl, rfl⟩
        rw [hup.out P1.out P2.out]
    all_goals
      go_wp2_with fail
      refine (covers_any _ _ _ _ _ HV3.out HT3.out).mono ?_
      rintro e w4 ⟨rfl, rfl⟩
      cases p1' : Vec.covers ns cs
      case' true =>
        have P1' := Lib.hid p1'
        clear p1'
        go_wp2_with fail
        refine (covers_any _ _ _ _ _ HU3.out HT3.out).mono ?_
        rintro e w4 ⟨rfl, rfl⟩
        cases p2' : Vec.covers ms cs
        case' true =>
          have P2' := Lib.hid p2'
          clear p2'
          go_wp2_with fail
          refine (covers_any _ _ _ _ _ HN3.out HT3.out).mono ?_
          rintro e w4 ⟨rfl, rfl⟩
          rw [hdn.out P1'.out P2'.out]
      all_goals
        go_wp2_with fail
        go_ret
        exact ⟨rfl, e3⟩

namespace vectorBounds
theorem own : ownKnob Try.prog.godebug = none := by kernel_rfl
theorem laidOut : laidOutB Try.prog = true := by kernel_rfl
set_option linter.unusedVariables false in
set_option maxRecDepth 100000 in
theorem lifted (os : Os) (started : os.Started) (H : Type) (enc : TypeId × Value → H) :
    ReturnsInHanded {} Try.checked os 9 .any (Rows.vectorBoundsSpec.pre6 enc Try.prog Try.f9 Rows.vectorBoundsRow.domain false) (Rows.vectorBoundsSpec.post enc Try.prog Try.f9 false true false false) := by
  refine returnsInHanded_of_change_sized (C := Try.checked) own started (by kernel_rfl) Try.func9
    (ChangeSpec.witness6 (enc := enc) (C := Try.checked) false ⟨#[], #[.slice none 0 0, .slice none 0 0, .slice none 0 0], []⟩ 8 (by kernel_rfl) (by kernel_rfl) (by kernel_rfl) (by kernel_rfl)) ?_
  intro W base args ds gs before hval0 hW hcnd hsz _
  have hval : ∀ (j : Nat) t v, Try.f9.params[j]? = some t → args[j]? = some v → Value.okWide Try.prog W .any base t v := hval0
  have hW' := hW
  obtain ⟨p, q, hA0, hV, rfl, hfz, hnd⟩ := hW'
  have hA : DataW.TrodAll enc Try.prog W 0 (fun _ => true) true Try.f9.params.toList args.toList ds p := hA0
  rw [Try.params9] at hA hval
  obtain ⟨v0, vs0, d0, ds0, p0, q0, hargs, rfl, rfl, h0, r0⟩ := trodAll_cons hA
  obtain ⟨v1, vs1, d1, ds1, p1, q1, rfl, rfl, rfl, h1, r1⟩ := trodAll_cons r0
  obtain ⟨v2, vs2, d2, ds2, p2, q2, rfl, rfl, rfl, h2, r2⟩ := trodAll_cons r1
  obtain ⟨rfl, rfl, rfl⟩ := trodAll_nil r2
  obtain rfl : args = #[v0, v1, v2] := by cases args; simp_all
  obtain ⟨rfl, rfl⟩ := trodVars_none hV
  have k0 := h0
  have lt0 : ∀ x ∈ p0, x.block < W.heap.size := by obtain ⟨m, hm⟩ := k0; exact DataW.trod_lt m _ _ _ hm
  obtain ⟨a0, len0, cap0, rfl⟩ := okWide_slice Try.underlying32 (hval 0 32 v0 rfl rfl)
  obtain ⟨l0, w0⟩ : ∃ l, Ints W (.slice a0 len0 cap0) l := by
    obtain ⟨fuel, hf⟩ := h0
    obtain ⟨v, l, hcs, hb⟩ := ints_of_raw Try.underlying32 Try.underlying3 (by kernel_rfl) hf
    simp [Value.cells] at hcs
    subst hcs
    exact ⟨l, hb⟩
  have k1 := h1
  have lt1 : ∀ x ∈ p1, x.block < W.heap.size := by obtain ⟨m, hm⟩ := k1; exact DataW.trod_lt m _ _ _ hm
  obtain ⟨a1, len1, cap1, rfl⟩ := okWide_slice Try.underlying32 (hval 1 32 v1 rfl rfl)
  obtain ⟨l1, w1⟩ : ∃ l, Ints W (.slice a1 len1 cap1) l := by
    obtain ⟨fuel, hf⟩ := h1
    obtain ⟨v, l, hcs, hb⟩ := ints_of_raw Try.underlying32 Try.underlying3 (by kernel_rfl) hf
    simp [Value.cells] at hcs
    subst hcs
    exact ⟨l, hb⟩
  have k2 := h2
  have lt2 : ∀ x ∈ p2, x.block < W.heap.size := by obtain ⟨m, hm⟩ := k2; exact DataW.trod_lt m _ _ _ hm
  obtain ⟨a2, len2, cap2, rfl⟩ := okWide_slice Try.underlying32 (hval 2 32 v2 rfl rfl)
  obtain ⟨l2, w2⟩ : ∃ l, Ints W (.slice a2 len2 cap2) l := by
    obtain ⟨fuel, hf⟩ := h2
    obtain ⟨v, l, hcs, hb⟩ := ints_of_raw Try.underlying32 Try.underlying3 (by kernel_rfl) hf
    simp [Value.cells] at hcs
    subst hcs
    exact ⟨l, hb⟩
  clear hA0 hval0
  refine (vectorBounds_walk _ _ _ l0 l1 l2 W w0 w1 w2).mono fun e W' ⟨he, bel⟩ => ?_
  subst he
  exact ⟨_, rfl, _, _, _, [], _, [], hW, trodAll_mk1 (shut_bool Try.underlying4 _), (trodAll_cons_mk (Below.trod laidOut (by kernel_rfl) (of_decide_eq_true (by kernel_rfl)) k0 bel lt0) (trodAll_cons_mk (Below.trod laidOut (by kernel_rfl) (of_decide_eq_true (by kernel_rfl)) k1 bel lt1) (trodAll_cons_mk (Below.trod laidOut (by kernel_rfl) (of_decide_eq_true (by kernel_rfl)) k2 bel lt2) trodAll_mk0))), rfl, bel.frame _, fun h => by cases h⟩
theorem over : Rows.vectorBoundsRow.holds Try.pinned (OpenSpec.ofChange Rows.vectorBoundsSpec) :=
  OpenClaim.holds_of_wide 9 Try.f9 rfl rfl rfl rfl rfl rfl rfl ⟨rfl, rfl, rfl, rfl, rfl⟩ rfl rfl rfl rfl rfl (by kernel_rfl) Try.func9 (by kernel_rfl)
    (of_decide_eq_true (by kernel_rfl)) (by unfold Func.isWrapper; first | (rw [if_pos (by decide +kernel)]; kernel_rfl) | (rw [if_neg (by decide +kernel)]; exact ⟨rfl, rfl⟩))
    (fun os started H enc _ => lifted os started H enc)
theorem proved : Rows.VectorBoundsSaid := over
end vectorBounds
end Go.Proofs.Ythafmjckkobfcab
