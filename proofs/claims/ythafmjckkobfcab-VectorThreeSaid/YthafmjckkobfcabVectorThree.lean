/-
  VectorThree: of three vectors the greater, and the lesser, of two do not hang on the order in which they are put together: for every input the statement's function returns true, and leaves what came in as it was.
-/
import Derived.Test.YthafmjckkobfcabVecAlive
import Derived.Test.YthafmjckkobfcabVecRaw
import Derived.Test.YthafmjckkobfcabRows
import Derived.Test.YthafmjckkobfcabChecked
import Derived.SizedLaws
namespace Go.Proofs.Ythafmjckkobfcab
open Go.ChangeShapes Go.WideShapes Go.ChangeAt Go.RowKit

set_option maxRecDepth 100000 in
set_option maxHeartbeats 8000000 in
theorem vectorThree_walk (v u t : Value) (ns ms ks : List Int) (W : World) (hv : Ints W v ns) (hu : Ints W u ms) (ht : Ints W t ks) :
    Calls Try.prog 12 #[v, u, t] W fun e W' => e = .returned (.bool true) ∧ Below W.heap.size W W' := by
  have HV := Lib.hid hv
  have HU := Lib.hid hu
  have HT := Lib.hid ht
  clear hv hu ht
  by_cases hk : Vec.kind ns ms = true ∧ Vec.kind ms ks = true
  · obtain ⟨k1, k2⟩ := hk
    have q1 : Vec.kind (Vec.max ns ms) ks = true := Vec.kind_of (Vec.max_right k1) (Vec.kind_ok k2).2.1 (by rw [Vec.max_length k1, (Vec.kind_ok k1).2.2, (Vec.kind_ok k2).2.2])
    have q2 : Vec.kind ns (Vec.max ms ks) = true := Vec.kind_of (Vec.kind_ok k1).1 (Vec.max_right k2) (by rw [Vec.max_length k2, (Vec.kind_ok k1).2.2])
    have q3 : Vec.kind ms ns = true := by rw [Vec.kind_comm]; exact k1
    have s1 : Vec.same (Vec.max (Vec.max ns ms) ks) (Vec.max ns (Vec.max ms ks)) = true := by rw [Vec.max_assoc]; exact Vec.same_self (Vec.max_right q2)
    have s2 : Vec.same (Vec.min ns ms) (Vec.min ms ns) = true := by rw [Vec.min_comm]; exact Vec.same_self (Vec.min_right q3)
    have K1 := Lib.hid k1
    have K2 := Lib.hid k2
    have Q1 := Lib.hid q1
    have Q2 := Lib.hid q2
    have Q3 := Lib.hid q3
    have S1 := Lib.hid s1
    have S2 := Lib.hid s2
    clear k1 k2 q1 q2 q3 s1 s2
    go_enter Try.func12, Try.ntmps12
    go_wp2_with fail
    refine (max_any _ _ ns ms _ HV.out HU.out).mono ?_
    rw [K1.out, orNone_true]
    rintro e w1 ⟨v1, rfl, hi1, hE1⟩
    go_wp2_with fail
    refine (max_any _ _ ms ks _ (HU.out.below hE1) (HT.out.below hE1)).mono ?_
    rw [K2.out, orNone_true]
    rintro e w2 ⟨v2, rfl, hi2, hE2⟩
    have e2 : Ext W w2 := hE1.trans hE2
    go_wp2_with fail
    refine (max_any _ _ _ ks _ (hi1.below hE2) (HT.out.below e2)).mono ?_
    rw [Q1.out, orNone_true]
    rintro e w3 ⟨v3, rfl, hi3, hE3⟩
    have e3 : Ext W w3 := e2.trans hE3
    go_wp2_with fail
    refine (max_any _ _ ns _ _ (HV.out.below e3) (hi2.below hE3)).mono ?_
    rw [Q2.out, orNone_true]
    rintro e w4 ⟨v4, rfl, hi4, hE4⟩
    have e4 : Ext W w4 := e3.trans hE4
    go_wp2_with fail
    refine (min_any _ _ ns ms _ (HV.out.below e4) (HU.out.below e4)).mono ?_
    rw [K1.out, orNone_true]
    rintro e w5 ⟨v5, rfl, hi5, hE5⟩
    have e5 : Ext W w5 := e4.trans hE5
    go_wp2_with fail
    refine (min_any _ _ ms ns _ (HU.out.below e5) (HV.out.below e5)).mono ?_
    rw [Q3.out, orNone_true]
    rintro e w6 ⟨v6, rfl, hi6, hE6⟩
    have e6 : Ext W w6 := e5.trans hE6
    go_wp2_with fail
    refine (vecAlive_any _).mono ?_
    rintro e w7 ⟨rfl, hE7⟩
    have e7 : Ext W w7 := e6.trans hE7
    go_wp2_with fail
    refine (same_any _ _ _ _ _ ((((hi3.below hE4).below hE5).below hE6).below hE7) (((hi4.below hE5).below hE6).below hE7)).mono ?_
    rintro e w8 ⟨rfl, hE8⟩
    rw [S1.out]
    have e8 : Ext W w8 := e7.trans hE8
    go_wp2_with fail
    refine (same_any _ _ _ _ _ (((hi5.below hE6).below hE7).below hE8) ((hi6.below hE7).below hE8)).mono ?_
    rintro e w9 ⟨rfl, hE9⟩
    rw [S2.out]
    have e9 : Ext W w9 := e8.trans hE9
    go_wp2_with fail
    go_ret
    exact ⟨rfl, e9⟩
  · have ways : Vec.kind ns ms = false ∨ (Vec.kind ns ms = true ∧ Vec.kind ms ks = false) := by
      cases h1 : Vec.kind ns ms with
      | false => exact .inl rfl
      | true => exact .inr ⟨rfl, by cases h2 : Vec.kind ms ks with
        | false => rfl
        | true => exact absurd ⟨h1, h2⟩ hk⟩
    clear hk
    rcases ways with k1 | ⟨k1, k2⟩
    · have K1 := Lib.hid k1
      clear k1
      go_enter Try.func12, Try.ntmps12
      go_wp2_with fail
      refine (max_any _ _ ns ms _ HV.out HU.out).mono ?_
      rw [K1.out]
      rintro e w1 ⟨v1, rfl, hi1, hE1⟩
      go_wp2_with fail
      refine (max_any _ _ ms ks _ (HU.out.below hE1) (HT.out.below hE1)).mono ?_
      rintro e w2 ⟨v2, rfl, hi2, hE2⟩
      have e2 : Ext W w2 := hE1.trans hE2
      go_wp2_with fail
      refine (vecAlive_any _).mono ?_
      rintro e w7 ⟨rfl, hE7⟩
      go_wp2_with fail
      go_ret
      exact ⟨rfl, e2.trans hE7⟩
    · have K1 := Lib.hid k1
      have K2 := Lib.hid k2
      clear k1 k2
      go_enter Try.func12, Try.ntmps12
      go_wp2_with fail
      refine (max_any _ _ ns ms _ HV.out HU.out).mono ?_
      rw [K1.out]
      rintro e w1 ⟨v1, rfl, hi1, hE1⟩
      go_wp2_with fail
      refine (max_any _ _ ms ks _ (HU.out.below hE1) (HT.out.below hE1)).mono ?_
      rw [K2.out]
      rintro e w2 ⟨v2, rfl, hi2, hE2⟩
      have e2 : Ext W w2 := hE1.trans hE2
      go_wp2_with fail
      refine (vecAlive_any _).mono ?_
      rintro e w7 ⟨rfl, hE7⟩
      go_wp2_with fail
      go_ret
      exact ⟨rfl, e2.trans hE7⟩

namespace vectorThree
theorem own : ownKnob Try.prog.godebug = none := by kernel_rfl
theorem laidOut : laidOutB Try.prog = true := by kernel_rfl
set_option linter.unusedVariables false in
set_option maxRecDepth 100000 in
theorem lifted (os : Os) (started : os.Started) (H : Type) (enc : TypeId × Value → H) :
    ReturnsInHanded {} Try.checked os 12 .any (Rows.vectorThreeSpec.pre6 enc Try.prog Try.f12 Rows.vectorThreeRow.domain false) (Rows.vectorThreeSpec.post enc Try.prog Try.f12 false true false false) := by
  refine returnsInHanded_of_change_sized (C := Try.checked) own started (by kernel_rfl) Try.func12
    (ChangeSpec.witness6 (enc := enc) (C := Try.checked) false ⟨#[], #[.slice none 0 0, .slice none 0 0, .slice none 0 0], []⟩ 8 (by kernel_rfl) (by kernel_rfl) (by kernel_rfl) (by kernel_rfl)) ?_
  intro W base args ds gs before hval0 hW hcnd hsz _
  have hval : ∀ (j : Nat) t v, Try.f12.params[j]? = some t → args[j]? = some v → Value.okWide Try.prog W .any base t v := hval0
  have hW' := hW
  obtain ⟨p, q, hA0, hV, rfl, hfz, hnd⟩ := hW'
  have hA : DataW.TrodAll enc Try.prog W 0 (fun _ => true) true Try.f12.params.toList args.toList ds p := hA0
  rw [Try.params12] at hA hval
  obtain ⟨v0, vs0, d0, ds0, p0, q0, hargs, rfl, rfl, h0, r0⟩ := trodAll_cons hA
  obtain ⟨v1, vs1, d1, ds1, p1, q1, rfl, rfl, rfl, h1, r1⟩ := trodAll_cons r0
  obtain ⟨v2, vs2, d2, ds2, p2, q2, rfl, rfl, rfl, h2, r2⟩ := trodAll_cons r1
  obtain ⟨rfl, rfl, rfl⟩ := trodAll_nil r2
  obtain rfl : args = #[v0, v1, v2] := by cases args; simp_all
  obtain ⟨rfl, rfl⟩ := trodVars_none hV
  have k0 := h0
  have lt0 : ∀ x ∈ p0, x.block < W.heap.size := by obtain ⟨m, hm⟩ := k0; exact DataW.trod_lt m _ _ _ hm
  obtain ⟨a0, len0, cap0, rfl⟩ := okWide_slice Try.underlying32 (hval 0 32 v0 rfl rfl)
  obtain ⟨l0, w0⟩ : ∃ l, Ints W (.slice a0 len0 cap0) l := by
    obtain ⟨fuel, hf⟩ := h0
    obtain ⟨v, l, hcs, hb⟩ := ints_of_raw Try.underlying32 Try.underlying3 (by kernel_rfl) hf
    simp [Value.cells] at hcs
    subst hcs
    exact ⟨l, hb⟩
  have k1 := h1
  have lt1 : ∀ x ∈ p1, x.block < W.heap.size := by obtain ⟨m, hm⟩ := k1; exact DataW.trod_lt m _ _ _ hm
  obtain ⟨a1, len1, cap1, rfl⟩ := okWide_slice Try.underlying32 (hval 1 32 v1 rfl rfl)
  obtain ⟨l1, w1⟩ : ∃ l, Ints W (.slice a1 len1 cap1) l := by
    obtain ⟨fuel, hf⟩ := h1
    obtain ⟨v, l, hcs, hb⟩ := ints_of_raw Try.underlying32 Try.underlying3 (by kernel_rfl) hf
    simp [Value.cells] at hcs
    subst hcs
    exact ⟨l, hb⟩
  have k2 := h2
  have lt2 : ∀ x ∈ p2, x.block < W.heap.size := by obtain ⟨m, hm⟩ := k2; exact DataW.trod_lt m _ _ _ hm
  obtain ⟨a2, len2, cap2, rfl⟩ := okWide_slice Try.underlying32 (hval 2 32 v2 rfl rfl)
  obtain ⟨l2, w2⟩ : ∃ l, Ints W (.slice a2 len2 cap2) l := by
    obtain ⟨fuel, hf⟩ := h2
    obtain ⟨v, l, hcs, hb⟩ := ints_of_raw Try.underlying32 Try.underlying3 (by kernel_rfl) hf
    simp [Value.cells] at hcs
    subst hcs
    exact ⟨l, hb⟩
  clear hA0 hval0
  refine (vectorThree_walk _ _ _ l0 l1 l2 W w0 w1 w2).mono fun e W' ⟨he, bel⟩ => ?_
  subst he
  exact ⟨_, rfl, _, _, _, [], _, [], hW, trodAll_mk1 (shut_bool Try.underlying4 _), (trodAll_cons_mk (Below.trod laidOut (by kernel_rfl) (of_decide_eq_true (by kernel_rfl)) k0 bel lt0) (trodAll_cons_mk (Below.trod laidOut (by kernel_rfl) (of_decide_eq_true (by kernel_rfl)) k1 bel lt1) (trodAll_cons_mk (Below.trod laidOut (by kernel_rfl) (of_decide_eq_true (by kernel_rfl)) k2 bel lt2) trodAll_mk0))), rfl, bel.frame _, fun h => by cases h⟩
theorem over : Rows.vectorThreeRow.holds Try.pinned (OpenSpec.ofChange Rows.vectorThreeSpec) :=
  OpenClaim.holds_of_wide 12 Try.f12 rfl rfl rfl rfl rfl rfl rfl ⟨rfl, rfl, rfl, rfl, rfl⟩ rfl rfl rfl rfl rfl (by kernel_rfl) Try.func12 (by kernel_rfl)
    (of_decide_eq_true (by kernel_rfl)) (by unfold Func.isWrapper; first | (rw [if_pos (by decide +kernel)]; kernel_rfl) | (rw [if_neg (by decide +kernel)]; exact ⟨rfl, rfl⟩))
    (fun os started H enc _ => lifted os started H enc)
theorem proved : Rows.VectorThreeSaid := over
end vectorThree
end Go.Proofs.Ythafmjckkobfcab
