/-
  VectorGains: by how much one is ahead of another one is, in all, the difference of both: for every input the statement's function returns true, and leaves what came in as it was.
-/
import Derived.Test.YthafmjckkobfcabVecAlive
import Derived.Test.YthafmjckkobfcabVecRaw
import Derived.Test.YthafmjckkobfcabRows
import Derived.Test.YthafmjckkobfcabChecked
import Derived.SizedLaws
namespace Go.Proofs.Ythafmjckkobfcab
open Go.ChangeShapes Go.WideShapes Go.ChangeAt Go.RowKit

set_option maxRecDepth 100000 in
set_option maxHeartbeats 8000000 in
theorem vectorGains_walk (v u : Value) (ns ms : List Int) (W : World) (hv : Ints W v ns) (hu : Ints W u ms) :
    Calls Try.prog 11 #[v, u] W fun e W' => e = .returned (.bool true) ∧ Below W.heap.size W W' := by
  have HV := Lib.hid hv
  have HU := Lib.hid hu
  have hg := gain_any v u ns ms W hv hu
  obtain ⟨a, cap, rfl, hcap, hmax, _, _⟩ := hv.open
  unfold maxLen at hmax
  clear hv hu
  cases hc : Vec.covers ns ms with
  | false =>
    rw [hc] at hg
    have HG := Lib.hid hg
    have HC := Lib.hid hc
    clear hc hg
    go_enter Try.func11, Try.ntmps11
    go_wp2_with fail
    refine HG.out.mono ?_
    rintro e w1 ⟨v1, rfl, hi1, hE1⟩
    go_wp2_with fail
    refine (vecAlive_any _).mono ?_
    rintro e w2 ⟨rfl, hE2⟩
    have e2 : Ext W w2 := hE1.trans hE2
    go_wp2_with fail
    refine (covers_any _ _ ns ms _ (HV.out.below e2) (HU.out.below e2)).mono ?_
    rintro e w3 ⟨rfl, rfl⟩
    rw [HC.out]
    go_wp2_with fail
    go_ret
    exact ⟨rfl, e2⟩
  | true =>
    rw [hc, orNone_true] at hg
    have hl := (Vec.gain_right hc).2
    have ht := Vec.total_gain hc
    have hb1 := Vec.total_bound ns
    have hb2 := Vec.total_bound ms
    obtain ⟨x, hx⟩ : ∃ x, Vec.total ns = x := ⟨_, rfl⟩
    obtain ⟨y, hy⟩ : ∃ y, Vec.total ms = y := ⟨_, rfl⟩
    rw [hx] at ht hb1
    rw [hy] at ht hb2
    have hwr : IntKind.i64.wrap (x - y) = x - y := IntWalk.i64_in _ (by omega)
    have HG := Lib.hid hg
    have HL := Lib.hid hl
    have HT := Lib.hid ht
    have HX := Lib.hid hx
    have HY := Lib.hid hy
    clear hc hg hl ht hx hy
    go_enter Try.func11, Try.ntmps11
    go_wp2_with fail
    refine HG.out.mono ?_
    rintro e w1 ⟨v1, rfl, hi1, hE1⟩
    obtain ⟨a1, n1, c1, rfl⟩ := hi1.isSlice
    have hn1 := hi1.len.1
    rw [HL.out] at hn1
    subst hn1
    go_wp2_with fail
    refine (vecAlive_any _).mono ?_
    rintro e w2 ⟨rfl, hE2⟩
    have e2 : Ext W w2 := hE1.trans hE2
    go_wp2_with fail
    refine (total_any _ _ _ (hi1.below hE2)).mono ?_
    rintro e w3 ⟨rfl, rfl⟩
    rw [HT.out]
    go_wp2_with fail
    refine (total_any _ ns _ (HV.out.below e2)).mono ?_
    rintro e w3 ⟨rfl, rfl⟩
    rw [HX.out]
    go_wp2_with fail
    refine (total_any _ ms _ (HU.out.below e2)).mono ?_
    rintro e w3 ⟨rfl, rfl⟩
    rw [HY.out]
    go_wp2_with fail
    go_ret
    exact ⟨rfl, e2⟩

namespace vectorGains
theorem own : ownKnob Try.prog.godebug = none := by kernel_rfl
theorem laidOut : laidOutB Try.prog = true := by kernel_rfl
set_option linter.unusedVariables false in
set_option maxRecDepth 100000 in
theorem lifted (os : Os) (started : os.Started) (H : Type) (enc : TypeId × Value → H) :
    ReturnsInHanded {} Try.checked os 11 .any (Rows.vectorGainsSpec.pre6 enc Try.prog Try.f11 Rows.vectorGainsRow.domain false) (Rows.vectorGainsSpec.post enc Try.prog Try.f11 false true false false) := by
  refine returnsInHanded_of_change_sized (C := Try.checked) own started (by kernel_rfl) Try.func11
    (ChangeSpec.witness6 (enc := enc) (C := Try.checked) false ⟨#[], #[.slice none 0 0, .slice none 0 0], []⟩ 8 (by kernel_rfl) (by kernel_rfl) (by kernel_rfl) (by kernel_rfl)) ?_
  intro W base args ds gs before hval0 hW hcnd hsz _
  have hval : ∀ (j : Nat) t v, Try.f11.params[j]? = some t → args[j]? = some v → Value.okWide Try.prog W .any base t v := hval0
  have hW' := hW
  obtain ⟨p, q, hA0, hV, rfl, hfz, hnd⟩ := hW'
  have hA : DataW.TrodAll enc Try.prog W 0 (fun _ => true) true Try.f11.params.toList args.toList ds p := hA0
  rw [Try.params11] at hA hval
  obtain ⟨v0, vs0, d0, ds0, p0, q0, hargs, rfl, rfl, h0, r0⟩ := trodAll_cons hA
  obtain ⟨v1, vs1, d1, ds1, p1, q1, rfl, rfl, rfl, h1, r1⟩ := trodAll_cons r0
  obtain ⟨rfl, rfl, rfl⟩ := trodAll_nil r1
  obtain rfl : args = #[v0, v1] := by cases args; simp_all
  obtain ⟨rfl, rfl⟩ := trodVars_none hV
  have k0 := h0
  have lt0 : ∀ x ∈ p0, x.block < W.heap.size := by obtain ⟨m, hm⟩ := k0; exact DataW.trod_lt m _ _ _ hm
  obtain ⟨a0, len0, cap0, rfl⟩ := okWide_slice Try.underlying32 (hval 0 32 v0 rfl rfl)
  obtain ⟨l0, w0⟩ : ∃ l, Ints W (.slice a0 len0 cap0) l := by
    obtain ⟨fuel, hf⟩ := h0
    obtain ⟨v, l, hcs, hb⟩ := ints_of_raw Try.underlying32 Try.underlying3 (by kernel_rfl) hf
    simp [Value.cells] at hcs
    subst hcs
    exact ⟨l, hb⟩
  have k1 := h1
  have lt1 : ∀ x ∈ p1, x.block < W.heap.size := by obtain ⟨m, hm⟩ := k1; exact DataW.trod_lt m _ _ _ hm
  obtain ⟨a1, len1, cap1, rfl⟩ := okWide_slice Try.underlying32 (hval 1 32 v1 rfl rfl)
  obtain ⟨l1, w1⟩ : ∃ l, Ints W (.slice a1 len1 cap1) l := by
    obtain ⟨fuel, hf⟩ := h1
    obtain ⟨v, l, hcs, hb⟩ := ints_of_raw Try.underlying32 Try.underlying3 (by kernel_rfl) hf
    simp [Value.cells] at hcs
    subst hcs
    exact ⟨l, hb⟩
  clear hA0 hval0
  refine (vectorGains_walk _ _ l0 l1 W w0 w1).mono fun e W' ⟨he, bel⟩ => ?_
  subst he
  exact ⟨_, rfl, _, _, _, [], _, [], hW, trodAll_mk1 (shut_bool Try.underlying4 _), (trodAll_cons_mk (Below.trod laidOut (by kernel_rfl) (of_decide_eq_true (by kernel_rfl)) k0 bel lt0) (trodAll_cons_mk (Below.trod laidOut (by kernel_rfl) (of_decide_eq_true (by kernel_rfl)) k1 bel lt1) trodAll_mk0)), rfl, bel.frame _, fun h => by cases h⟩
theorem over : Rows.vectorGainsRow.holds Try.pinned (OpenSpec.ofChange Rows.vectorGainsSpec) :=
  OpenClaim.holds_of_wide 11 Try.f11 rfl rfl rfl rfl rfl rfl rfl ⟨rfl, rfl, rfl, rfl, rfl⟩ rfl rfl rfl rfl rfl (by kernel_rfl) Try.func11 (by kernel_rfl)
    (of_decide_eq_true (by kernel_rfl)) (by unfold Func.isWrapper; first | (rw [if_pos (by decide +kernel)]; kernel_rfl) | (rw [if_neg (by decide +kernel)]; exact ⟨rfl, rfl⟩))
    (fun os started H enc _ => lifted os started H enc)
theorem proved : Rows.VectorGainsSaid := over
end vectorGains
end Go.Proofs.Ythafmjckkobfcab
