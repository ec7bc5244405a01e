/-
  VectorSets: any vector with any number raised, and any vector of zeros, is what the document says: for every input the statement's function returns true, and leaves what came in as it was.
-/
import Derived.Test.YthafmjckkobfcabVecAlive
import Derived.Test.YthafmjckkobfcabVecRaw
import Derived.Test.YthafmjckkobfcabVecS
import Derived.Test.YthafmjckkobfcabRows
import Derived.Test.YthafmjckkobfcabChecked
import Derived.SizedLaws
namespace Go.Proofs.Ythafmjckkobfcab
open Go.ChangeShapes Go.WideShapes Go.ChangeAt Go.RowKit

set_option maxRecDepth 100000 in
set_option maxHeartbeats 8000000 in
theorem vectorSets_walk (v : Value) (ns : List Int) (k n : Int) (W : World) (hv : Ints W v ns) :
    Calls Try.prog 6 #[v, .int .i64 k, .int .i64 n] W fun e W' => e = .returned (.bool true) ∧ Below W.heap.size W W' := by
  have HV := Lib.hid hv
  clear hv
  have same1 : ∀ l : List Int, (l == l) = true := fun l => by simp
  have allm : ∀ x ∈ zeros k, x = 0 := by
    intro x hx
    unfold zeros at hx
    split at hx
    · exact List.eq_of_mem_replicate hx
    · cases hx
  have allz : ∀ i (h : i < (zeros k).length), (zeros k)[i] = 0 := fun i h => allm _ (List.getElem_mem h)
  clear allm
  have HZ := Lib.hid allz
  clear allz
  have hlen : (zeros k).length = (if 1 ≤ k ∧ k ≤ 8 then k.toNat else 0) := by
    unfold zeros
    split <;> simp
  have ways : (1 ≤ k ∧ k ≤ 8 ∧ ((zeros k).length : Int) = k) ∨ (k < 1 ∧ (zeros k).length = 0) ∨ (¬ k < 1 ∧ (8 : Int) < k ∧ (zeros k).length = 0) := by
    rw [hlen]
    by_cases h : 1 ≤ k ∧ k ≤ 8
    · rw [if_pos h]; omega
    · rw [if_neg h]; omega
  clear hlen
  go_enter Try.func6, Try.ntmps6
  go_wp2_with fail
  refine (set_any _ ns k n _ HV.out).mono ?_
  rintro e w1 ⟨v1, rfl, hi1, hE1⟩
  go_wp2_with fail
  refine (refSet_any _ ns k n _ (HV.out.below hE1)).mono ?_
  rintro e w2 ⟨v2, rfl, hi2, hE2⟩
  have e2 : Ext W w2 := hE1.trans hE2
  go_wp2_with fail
  refine (zero_any k _).mono ?_
  rintro e w3 ⟨v3, rfl, ho3, hE3⟩
  have e3 : Ext W w3 := e2.trans hE3
  have hi3 := ho3.ints
  clear ho3
  obtain ⟨q, hq⟩ : ∃ q, zeros k = q := ⟨_, rfl⟩
  rw [hq] at hi3 HZ ways
  clear hq
  obtain ⟨a3, cap3, rfl, hcap3, hmax3, _, hc3⟩ := hi3.open
  unfold maxLen at hmax3
  have HC3 := Lib.hid hc3
  clear hc3 hi3
  have HW := Lib.hid ways
  clear ways
  go_wp2_with fail
  go_loop [13, 32] (fun _ i => ∃ j : Nat, j ≤ q.length ∧ i = .int .i64 j) (fun _ i => q.length - (intOf i).toNat)
  case atStart => exact ⟨0, by omega, rfl⟩
  case round =>
    obtain ⟨j, hj, rfl⟩ := hrel
    by_cases hlt : j < q.length
    · obtain ⟨b, off, rfl, hcell⟩ := HC3.out j hlt
      rw [HZ.out j hlt] at hcell
      go_wp2
      go_round
      case rel => exact ⟨j + 1, by omega, by go_num⟩
      case measure => simp [intOf]; omega
    · go_wp2_with fail
      refine (vecAlive_any _).mono ?_
      rintro e w4 ⟨rfl, hE4⟩
      go_wp2_with fail
      refine (equal3_any _ _ _ _ _ (((hi1.below hE2).below hE3).below hE4) ((hi2.below hE3).below hE4)).mono ?_
      rintro e w5 ⟨rfl, hE5⟩
      rw [same1]
      have e5 : Ext W w5 := (e3.trans hE4).trans hE5
      rcases HW.out with ⟨h1, h2, h3⟩ | ⟨h1, h3⟩ | ⟨h1, h2, h3⟩
      · have h3' : ((q.length : Int) == k) = true := by rw [h3]; simp
        clear h3
        go_wp2
        go_ret
        exact ⟨rfl, e5⟩
      · have h3' : ((q.length : Int) == k) = (decide (k = 0)) := by rw [h3, Bool.eq_iff_iff]; simp; omega
        have h3'' : ((q.length : Int) == 0) = true := by rw [h3]; rfl
        by_cases h0 : k = 0
        · have h4 : ((q.length : Int) == k) = true := by rw [h3', decide_eq_true h0]
          clear h3 h3' h3'' h0
          go_wp2
          go_ret
          exact ⟨rfl, e5⟩
        · have h4 : ((q.length : Int) == k) = false := by rw [h3', decide_eq_false h0]
          clear h3 h3' h0
          go_wp2
          go_ret
          exact ⟨rfl, e5⟩
      · have h4 : ((q.length : Int) == k) = false := by rw [h3, beq_eq_false_iff_ne]; omega
        have h3'' : ((q.length : Int) == 0) = true := by rw [h3]; rfl
        clear h3
        go_wp2
        go_ret
        exact ⟨rfl, e5⟩

namespace vectorSets
theorem own : ownKnob Try.prog.godebug = none := by kernel_rfl
theorem laidOut : laidOutB Try.prog = true := by kernel_rfl
set_option linter.unusedVariables false in
set_option maxRecDepth 100000 in
theorem lifted (os : Os) (started : os.Started) (H : Type) (enc : TypeId × Value → H) :
    ReturnsInHanded {} Try.checked os 6 .any (Rows.vectorSetsSpec.pre6 enc Try.prog Try.f6 Rows.vectorSetsRow.domain false) (Rows.vectorSetsSpec.post enc Try.prog Try.f6 false true false false) := by
  refine returnsInHanded_of_change_sized (C := Try.checked) own started (by kernel_rfl) Try.func6
    (ChangeSpec.witness6 (enc := enc) (C := Try.checked) false ⟨#[], #[.slice none 0 0, .int .i64 0, .int .i64 0], []⟩ 8 (by kernel_rfl) (by kernel_rfl) (by kernel_rfl) (by kernel_rfl)) ?_
  intro W base args ds gs before hval0 hW hcnd hsz _
  have hval : ∀ (j : Nat) t v, Try.f6.params[j]? = some t → args[j]? = some v → Value.okWide Try.prog W .any base t v := hval0
  have hW' := hW
  obtain ⟨p, q, hA0, hV, rfl, hfz, hnd⟩ := hW'
  have hA : DataW.TrodAll enc Try.prog W 0 (fun _ => true) true Try.f6.params.toList args.toList ds p := hA0
  rw [Try.params6] at hA hval
  obtain ⟨v0, vs0, d0, ds0, p0, q0, hargs, rfl, rfl, h0, r0⟩ := trodAll_cons hA
  obtain ⟨v1, vs1, d1, ds1, p1, q1, rfl, rfl, rfl, h1, r1⟩ := trodAll_cons r0
  obtain ⟨v2, vs2, d2, ds2, p2, q2, rfl, rfl, rfl, h2, r2⟩ := trodAll_cons r1
  obtain ⟨rfl, rfl, rfl⟩ := trodAll_nil r2
  obtain rfl : args = #[v0, v1, v2] := by cases args; simp_all
  obtain ⟨rfl, rfl⟩ := trodVars_none hV
  have k0 := h0
  have lt0 : ∀ x ∈ p0, x.block < W.heap.size := by obtain ⟨m, hm⟩ := k0; exact DataW.trod_lt m _ _ _ hm
  obtain ⟨a0, len0, cap0, rfl⟩ := okWide_slice Try.underlying32 (hval 0 32 v0 rfl rfl)
  obtain ⟨l0, w0⟩ : ∃ l, Ints W (.slice a0 len0 cap0) l := by
    obtain ⟨fuel, hf⟩ := h0
    obtain ⟨v, l, hcs, hb⟩ := ints_of_raw Try.underlying32 Try.underlying3 (by kernel_rfl) hf
    simp [Value.cells] at hcs
    subst hcs
    exact ⟨l, hb⟩
  have k1 := h1
  have lt1 : ∀ x ∈ p1, x.block < W.heap.size := by obtain ⟨m, hm⟩ := k1; exact DataW.trod_lt m _ _ _ hm
  obtain ⟨a1, rfl, _, _, w1⟩ := open_int Try.underlying3 (hval 1 3 v1 rfl rfl) h1
  have k2 := h2
  have lt2 : ∀ x ∈ p2, x.block < W.heap.size := by obtain ⟨m, hm⟩ := k2; exact DataW.trod_lt m _ _ _ hm
  obtain ⟨a2, rfl, _, _, w2⟩ := open_int Try.underlying3 (hval 2 3 v2 rfl rfl) h2
  clear hA0 hval0
  refine (vectorSets_walk _ l0 a1 a2 W w0).mono fun e W' ⟨he, bel⟩ => ?_
  subst he
  exact ⟨_, rfl, _, _, _, [], _, [], hW, trodAll_mk1 (shut_bool Try.underlying4 _), (trodAll_cons_mk (Below.trod laidOut (by kernel_rfl) (of_decide_eq_true (by kernel_rfl)) k0 bel lt0) (trodAll_cons_mk (Below.trod laidOut (by kernel_rfl) (of_decide_eq_true (by kernel_rfl)) k1 bel lt1) (trodAll_cons_mk (Below.trod laidOut (by kernel_rfl) (of_decide_eq_true (by kernel_rfl)) k2 bel lt2) trodAll_mk0))), rfl, bel.frame _, fun h => by cases h⟩
theorem over : Rows.vectorSetsRow.holds Try.pinned (OpenSpec.ofChange Rows.vectorSetsSpec) :=
  OpenClaim.holds_of_wide 6 Try.f6 rfl rfl rfl rfl rfl rfl rfl ⟨rfl, rfl, rfl, rfl, rfl⟩ rfl rfl rfl rfl rfl (by kernel_rfl) Try.func6 (by kernel_rfl)
    (of_decide_eq_true (by kernel_rfl)) (by unfold Func.isWrapper; first | (rw [if_pos (by decide +kernel)]; kernel_rfl) | (rw [if_neg (by decide +kernel)]; exact ⟨rfl, rfl⟩))
    (fun os started H enc _ => lifted os started H enc)
theorem proved : Rows.VectorSetsSaid := over
end vectorSets
end Go.Proofs.Ythafmjckkobfcab
