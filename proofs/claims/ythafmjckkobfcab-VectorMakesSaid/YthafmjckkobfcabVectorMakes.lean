/-
  VectorMakes: of any two vectors what is greater, and lesser, which covers which, and by how much, is what the document says: for every input the statement's function returns true, and leaves what came in as it was.
-/
import Derived.Test.YthafmjckkobfcabVecAlive
import Derived.Test.YthafmjckkobfcabVecRaw
import Derived.Test.YthafmjckkobfcabRows
import Derived.Test.YthafmjckkobfcabChecked
import Derived.SizedLaws
namespace Go.Proofs.Ythafmjckkobfcab
open Go.ChangeShapes Go.WideShapes Go.ChangeAt Go.RowKit

set_option maxRecDepth 100000 in
set_option maxHeartbeats 8000000 in
theorem vectorMakes_walk (v u : Value) (ns ms : List Int) (W : World) (hv : Ints W v ns) (hu : Ints W u ms) :
    Calls Try.prog 5 #[v, u] W fun e W' => e = .returned (.bool true) ∧ Below W.heap.size W W' := by
  have HV := Lib.hid hv
  have HU := Lib.hid hu
  clear hv hu
  have same1 : ∀ l : List Int, (l == l) = true := fun l => by simp
  go_enter Try.func5, Try.ntmps5
  go_wp2_with fail
  refine (max_any _ _ ns ms _ HV.out HU.out).mono ?_
  rintro e w1 ⟨v1, rfl, hi1, hE1⟩
  have e1 : Ext W w1 := hE1
  go_wp2_with fail
  refine (refMax_any _ _ ns ms _ (HV.out.below e1) (HU.out.below e1)).mono ?_
  rintro e w2 ⟨v2, rfl, hi2, hE2⟩
  have e2 : Ext W w2 := e1.trans hE2
  go_wp2_with fail
  refine (equal3_any _ _ _ _ _ (hi1.below hE2) hi2).mono ?_
  rintro e w3 ⟨rfl, hE3⟩
  have e3 : Ext W w3 := e2.trans hE3
  rw [same1]
  go_wp2_with fail
  refine (min_any _ _ ns ms _ (HV.out.below e3) (HU.out.below e3)).mono ?_
  rintro e w4 ⟨v4, rfl, hi4, hE4⟩
  have e4 : Ext W w4 := e3.trans hE4
  go_wp2_with fail
  refine (refMin_any _ _ ns ms _ (HV.out.below e4) (HU.out.below e4)).mono ?_
  rintro e w5 ⟨v5, rfl, hi5, hE5⟩
  have e5 : Ext W w5 := e4.trans hE5
  go_wp2_with fail
  refine (equal3_any _ _ _ _ _ (hi4.below hE5) hi5).mono ?_
  rintro e w6 ⟨rfl, hE6⟩
  have e6 : Ext W w6 := e5.trans hE6
  rw [same1]
  go_wp2_with fail
  refine (gain_any _ _ ns ms _ (HV.out.below e6) (HU.out.below e6)).mono ?_
  rintro e w7 ⟨v7, rfl, hi7, hE7⟩
  have e7 : Ext W w7 := e6.trans hE7
  go_wp2_with fail
  refine (refGain_any _ _ ns ms _ (HV.out.below e7) (HU.out.below e7)).mono ?_
  rintro e w8 ⟨v8, rfl, hi8, hE8⟩
  have e8 : Ext W w8 := e7.trans hE8
  go_wp2_with fail
  refine (equal3_any _ _ _ _ _ (hi7.below hE8) hi8).mono ?_
  rintro e w9 ⟨rfl, hE9⟩
  have e9 : Ext W w9 := e8.trans hE9
  rw [same1]
  go_wp2_with fail
  refine (vecAlive_any _).mono ?_
  rintro e w10 ⟨rfl, hE10⟩
  have e10 : Ext W w10 := e9.trans hE10
  go_wp2_with fail
  refine (covers_any _ _ ns ms _ (HV.out.below e10) (HU.out.below e10)).mono ?_
  rintro e w11 ⟨rfl, rfl⟩
  go_wp2_with fail
  refine (refCovers_any _ _ ns ms _ (HV.out.below e10) (HU.out.below e10)).mono ?_
  rintro e w12 ⟨rfl, hE12⟩
  have e12 : Ext W w12 := e10.trans hE12
  go_wp2_with fail
  refine (same_any _ _ ns ms _ (HV.out.below e12) (HU.out.below e12)).mono ?_
  rintro e w13 ⟨rfl, hE13⟩
  have e13 : Ext W w13 := e12.trans hE13
  go_wp2_with fail
  refine (refSame_any _ _ ns ms _ (HV.out.below e13) (HU.out.below e13)).mono ?_
  rintro e w14 ⟨rfl, hE14⟩
  have e14 : Ext W w14 := e13.trans hE14
  go_wp2_with fail
  refine (total_any _ ns _ (HV.out.below e14)).mono ?_
  rintro e w15 ⟨rfl, rfl⟩
  go_wp2_with fail
  refine (refTotal_any _ ns _ (HV.out.below e14)).mono ?_
  rintro e w16 ⟨rfl, rfl⟩
  go_wp2_with fail
  refine (right_any _ ns _ (HV.out.below e14)).mono ?_
  rintro e w17 ⟨rfl, rfl⟩
  go_wp2_with fail
  refine (refRight_any _ ns _ (HV.out.below e14)).mono ?_
  rintro e w18 ⟨rfl, rfl⟩
  go_wp2_with fail
  go_ret
  exact ⟨rfl, e14⟩

namespace vectorMakes
theorem own : ownKnob Try.prog.godebug = none := by kernel_rfl
theorem laidOut : laidOutB Try.prog = true := by kernel_rfl
set_option linter.unusedVariables false in
set_option maxRecDepth 100000 in
theorem lifted (os : Os) (started : os.Started) (H : Type) (enc : TypeId × Value → H) :
    ReturnsInHanded {} Try.checked os 5 .any (Rows.vectorMakesSpec.pre6 enc Try.prog Try.f5 Rows.vectorMakesRow.domain false) (Rows.vectorMakesSpec.post enc Try.prog Try.f5 false true false false) := by
  refine returnsInHanded_of_change_sized (C := Try.checked) own started (by kernel_rfl) Try.func5
    (ChangeSpec.witness6 (enc := enc) (C := Try.checked) false ⟨#[], #[.slice none 0 0, .slice none 0 0], []⟩ 8 (by kernel_rfl) (by kernel_rfl) (by kernel_rfl) (by kernel_rfl)) ?_
  intro W base args ds gs before hval0 hW hcnd hsz _
  have hval : ∀ (j : Nat) t v, Try.f5.params[j]? = some t → args[j]? = some v → Value.okWide Try.prog W .any base t v := hval0
  have hW' := hW
  obtain ⟨p, q, hA0, hV, rfl, hfz, hnd⟩ := hW'
  have hA : DataW.TrodAll enc Try.prog W 0 (fun _ => true) true Try.f5.params.toList args.toList ds p := hA0
  rw [Try.params5] at hA hval
  obtain ⟨v0, vs0, d0, ds0, p0, q0, hargs, rfl, rfl, h0, r0⟩ := trodAll_cons hA
  obtain ⟨v1, vs1, d1, ds1, p1, q1, rfl, rfl, rfl, h1, r1⟩ := trodAll_cons r0
  obtain ⟨rfl, rfl, rfl⟩ := trodAll_nil r1
  obtain rfl : args = #[v0, v1] := by cases args; simp_all
  obtain ⟨rfl, rfl⟩ := trodVars_none hV
  have k0 := h0
  have lt0 : ∀ x ∈ p0, x.block < W.heap.size := by obtain ⟨m, hm⟩ := k0; exact DataW.trod_lt m _ _ _ hm
  obtain ⟨a0, len0, cap0, rfl⟩ := okWide_slice Try.underlying32 (hval 0 32 v0 rfl rfl)
  obtain ⟨l0, w0⟩ : ∃ l, Ints W (.slice a0 len0 cap0) l := by
    obtain ⟨fuel, hf⟩ := h0
    obtain ⟨v, l, hcs, hb⟩ := ints_of_raw Try.underlying32 Try.underlying3 (by kernel_rfl) hf
    simp [Value.cells] at hcs
    subst hcs
    exact ⟨l, hb⟩
  have k1 := h1
  have lt1 : ∀ x ∈ p1, x.block < W.heap.size := by obtain ⟨m, hm⟩ := k1; exact DataW.trod_lt m _ _ _ hm
  obtain ⟨a1, len1, cap1, rfl⟩ := okWide_slice Try.underlying32 (hval 1 32 v1 rfl rfl)
  obtain ⟨l1, w1⟩ : ∃ l, Ints W (.slice a1 len1 cap1) l := by
    obtain ⟨fuel, hf⟩ := h1
    obtain ⟨v, l, hcs, hb⟩ := ints_of_raw Try.underlying32 Try.underlying3 (by kernel_rfl) hf
    simp [Value.cells] at hcs
    subst hcs
    exact ⟨l, hb⟩
  clear hA0 hval0
  refine (vectorMakes_walk _ _ l0 l1 W w0 w1).mono fun e W' ⟨he, bel⟩ => ?_
  subst he
  exact ⟨_, rfl, _, _, _, [], _, [], hW, trodAll_mk1 (shut_bool Try.underlying4 _), (trodAll_cons_mk (Below.trod laidOut (by kernel_rfl) (of_decide_eq_true (by kernel_rfl)) k0 bel lt0) (trodAll_cons_mk (Below.trod laidOut (by kernel_rfl) (of_decide_eq_true (by kernel_rfl)) k1 bel lt1) trodAll_mk0)), rfl, bel.frame _, fun h => by cases h⟩
theorem over : Rows.vectorMakesRow.holds Try.pinned (OpenSpec.ofChange Rows.vectorMakesSpec) :=
  OpenClaim.holds_of_wide 5 Try.f5 rfl rfl rfl rfl rfl rfl rfl ⟨rfl, rfl, rfl, rfl, rfl⟩ rfl rfl rfl rfl rfl (by kernel_rfl) Try.func5 (by kernel_rfl)
    (of_decide_eq_true (by kernel_rfl)) (by unfold Func.isWrapper; first | (rw [if_pos (by decide +kernel)]; kernel_rfl) | (rw [if_neg (by decide +kernel)]; exact ⟨rfl, rfl⟩))
    (fun os started H enc _ => lifted os started H enc)
theorem proved : Rows.VectorMakesSaid := over
end vectorMakes
end Go.Proofs.Ythafmjckkobfcab
