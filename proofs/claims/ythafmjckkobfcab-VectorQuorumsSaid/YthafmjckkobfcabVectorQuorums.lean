/-
  VectorQuorums: what so many of any vectors have is what the document says: for every input the statement's function returns true, and leaves what came in as it was.
-/
import Derived.Test.YthafmjckkobfcabVecAlive
import Derived.Test.YthafmjckkobfcabVecRaw
import Derived.Test.YthafmjckkobfcabVecR
import Derived.Test.YthafmjckkobfcabRows
import Derived.Test.YthafmjckkobfcabChecked
import Derived.SizedLaws
namespace Go.Proofs.Ythafmjckkobfcab
open Go.ChangeShapes Go.WideShapes Go.ChangeAt Go.RowKit

set_option maxRecDepth 100000 in
set_option maxHeartbeats 8000000 in
theorem vectorQuorums_walk (v : Value) (ls : List (List Int)) (need : Int) (W : World) (hv : IRows W v ls) :
    Calls Try.prog 7 #[v, .int .i64 need] W fun e W' => e = .returned (.bool true) ∧ Below W.heap.size W W' := by
  have HV := Lib.hid hv
  obtain ⟨a, cap, rfl, hcap, hmax, _⟩ := hv.open
  unfold maxLen at hmax
  clear hv
  have same1 : ∀ l : List Int, (l == l) = true := fun l => by simp
  by_cases h60 : (60 : Int) < (ls.length : Int)
  · go_enter Try.func7, Try.ntmps7
    go_wp2_with fail
    refine (vecAlive_any _).mono ?_
    rintro e w1 ⟨rfl, hE1⟩
    go_wp2_with fail
    go_ret
    exact ⟨rfl, hE1⟩
  · go_enter Try.func7, Try.ntmps7
    go_wp2_with fail
    refine (quorum_any _ ls need _ HV.out (by omega)).mono ?_
    rintro e w1 ⟨v1, rfl, hi1, hE1⟩
    go_wp2_with fail
    refine (refQuorum_any _ ls need _ (HV.out.below hE1) (by omega)).mono ?_
    rintro e w2 ⟨v2, rfl, hi2, hE2⟩
    go_wp2_with fail
    refine (vecAlive_any _).mono ?_
    rintro e w3 ⟨rfl, hE3⟩
    go_wp2_with fail
    refine (equal3_any _ _ _ _ _ ((hi1.below hE2).below hE3) (hi2.below hE3)).mono ?_
    rintro e w4 ⟨rfl, hE4⟩
    rw [same1]
    go_wp2_with fail
    go_ret
    exact ⟨rfl, ((Below.trans (B := W.heap.size) hE1 (Below.mono hE2 hE1.size)).trans (Below.mono hE3 (Nat.le_trans hE1.size hE2.size))).trans (Below.mono hE4 (Nat.le_trans hE1.size (Nat.le_trans hE2.size hE3.size)))⟩

namespace vectorQuorums
theorem own : ownKnob Try.prog.godebug = none := by kernel_rfl
theorem laidOut : laidOutB Try.prog = true := by kernel_rfl
set_option linter.unusedVariables false in
set_option maxRecDepth 100000 in
theorem lifted (os : Os) (started : os.Started) (H : Type) (enc : TypeId × Value → H) :
    ReturnsInHanded {} Try.checked os 7 .any (Rows.vectorQuorumsSpec.pre6 enc Try.prog Try.f7 Rows.vectorQuorumsRow.domain false) (Rows.vectorQuorumsSpec.post enc Try.prog Try.f7 false true false false) := by
  refine returnsInHanded_of_change_sized (C := Try.checked) own started (by kernel_rfl) Try.func7
    (ChangeSpec.witness6 (enc := enc) (C := Try.checked) false ⟨#[], #[.slice none 0 0, .int .i64 0], []⟩ 8 (by kernel_rfl) (by kernel_rfl) (by kernel_rfl) (by kernel_rfl)) ?_
  intro W base args ds gs before hval0 hW hcnd hsz _
  have hval : ∀ (j : Nat) t v, Try.f7.params[j]? = some t → args[j]? = some v → Value.okWide Try.prog W .any base t v := hval0
  have hW' := hW
  obtain ⟨p, q, hA0, hV, rfl, hfz, hnd⟩ := hW'
  have hA : DataW.TrodAll enc Try.prog W 0 (fun _ => true) true Try.f7.params.toList args.toList ds p := hA0
  rw [Try.params7] at hA hval
  obtain ⟨v0, vs0, d0, ds0, p0, q0, hargs, rfl, rfl, h0, r0⟩ := trodAll_cons hA
  obtain ⟨v1, vs1, d1, ds1, p1, q1, rfl, rfl, rfl, h1, r1⟩ := trodAll_cons r0
  obtain ⟨rfl, rfl, rfl⟩ := trodAll_nil r1
  obtain rfl : args = #[v0, v1] := by cases args; simp_all
  obtain ⟨rfl, rfl⟩ := trodVars_none hV
  have k0 := h0
  have lt0 : ∀ x ∈ p0, x.block < W.heap.size := by obtain ⟨m, hm⟩ := k0; exact DataW.trod_lt m _ _ _ hm
  obtain ⟨a0, len0, cap0, rfl⟩ := okWide_slice Try.underlying41 (hval 0 41 v0 rfl rfl)
  obtain ⟨l0, w0⟩ : ∃ l, IRows W (.slice a0 len0 cap0) l := by
    obtain ⟨fuel, hf⟩ := h0
    obtain ⟨v, l, hcs, hb⟩ := irows_of_raw Try.underlying41 (by kernel_rfl) Try.underlying32 Try.underlying3 (by kernel_rfl) hf
    simp [Value.cells] at hcs
    subst hcs
    exact ⟨l, hb⟩
  have k1 := h1
  have lt1 : ∀ x ∈ p1, x.block < W.heap.size := by obtain ⟨m, hm⟩ := k1; exact DataW.trod_lt m _ _ _ hm
  obtain ⟨a1, rfl, _, _, w1⟩ := open_int Try.underlying3 (hval 1 3 v1 rfl rfl) h1
  clear hA0 hval0
  refine (vectorQuorums_walk _ l0 a1 W w0).mono fun e W' ⟨he, bel⟩ => ?_
  subst he
  exact ⟨_, rfl, _, _, _, [], _, [], hW, trodAll_mk1 (shut_bool Try.underlying4 _), (trodAll_cons_mk (Below.trod laidOut (by kernel_rfl) (of_decide_eq_true (by kernel_rfl)) k0 bel lt0) (trodAll_cons_mk (Below.trod laidOut (by kernel_rfl) (of_decide_eq_true (by kernel_rfl)) k1 bel lt1) trodAll_mk0)), rfl, bel.frame _, fun h => by cases h⟩
theorem over : Rows.vectorQuorumsRow.holds Try.pinned (OpenSpec.ofChange Rows.vectorQuorumsSpec) :=
  OpenClaim.holds_of_wide 7 Try.f7 rfl rfl rfl rfl rfl rfl rfl ⟨rfl, rfl, rfl, rfl, rfl⟩ rfl rfl rfl rfl rfl (by kernel_rfl) Try.func7 (by kernel_rfl)
    (of_decide_eq_true (by kernel_rfl)) (by unfold Func.isWrapper; first | (rw [if_pos (by decide +kernel)]; kernel_rfl) | (rw [if_neg (by decide +kernel)]; exact ⟨rfl, rfl⟩))
    (fun os started H enc _ => lifted os started H enc)
theorem proved : Rows.VectorQuorumsSaid := over
end vectorQuorums
end Go.Proofs.Ythafmjckkobfcab
