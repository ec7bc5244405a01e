/-
  EntryChains: how many of any entries follow one another, and their last cut, is what the document says: for every input the statement's function returns true, and leaves what came in as it was.
-/
import Derived.Test.YtboopfbflfimlaaEntZ
namespace Go.Proofs.Ytboopfbflfimlaa
set_option maxRecDepth 100000
set_option linter.unusedSimpArgs false
set_option linter.unusedVariables false
open Go.ChangeShapes Go.WideShapes Go.ChangeAt Go.RowKit

set_option maxHeartbeats 8000000 in
theorem entryChains_walk (v : Value) (l : List Ent.E) (n : Int) (W : World) (hv : Ents W v l) :
    Calls Try.prog 6 #[v, .int .i64 n] W fun e W' => e = .returned (.bool true) ∧ Below W.heap.size W W' := by
  have HV := Lib.hid hv
  obtain ⟨a, cap, rfl, hcap, hmax⟩ := hv.shape
  clear hv
  have same1 : ∀ l : List Int, (l == l) = true := fun l => by simp
  by_cases hl : (200 : Int) < (l.length : Int)
  · go_enter Try.func6, Try.ntmps6
    go_wp2_with fail
    refine (entAlive_any _).mono ?_
    rintro e w1 ⟨rfl, hE1⟩
    go_wp2_with fail
    go_ret
    exact ⟨rfl, hE1⟩
  · have h64 : l.length * 64 ≤ 140737488355328 := by omega
    go_enter Try.func6, Try.ntmps6
    go_wp2_with fail
    refine (entAlive_any _).mono ?_
    rintro e w1 ⟨rfl, hE1⟩
    go_wp2_with fail
    refine (own5_any _ l _ (HV.out.below hE1) h64).mono ?_
    rintro e w2 ⟨u2, rfl, ho2, hE2⟩
    have e2 := hE1.trans hE2
    have HO2 := Lib.hid (ho2.ents hE2)
    obtain ⟨a2, c2, rfl⟩ := ho2.isSlice
    clear ho2
    go_wp2_with fail
    refine (chain5_any _ l _ HO2.out).mono ?_
    rintro e w3 ⟨rfl, hE3⟩
    have e3 := e2.trans hE3
    go_wp2_with fail
    refine (refChain5_any _ l _ (HV.out.below e3) (by omega)).mono ?_
    rintro e w4 ⟨rfl, hE4⟩
    have e4 := e3.trans hE4
    go_wp2_with fail
    refine (own5_any _ l _ (HV.out.below e4) h64).mono ?_
    rintro e w5 ⟨u5, rfl, ho5, hE5⟩
    have e5 := e4.trans hE5
    have HO5 := Lib.hid (ho5.ents hE5)
    obtain ⟨a5, c5, rfl⟩ := ho5.isSlice
    clear ho5
    go_wp2_with fail
    refine (last5_any _ l n _ HO5.out).mono ?_
    rintro e w6 ⟨u6, rfl, hi6, hE6⟩
    have e6 := e5.trans hE6
    obtain ⟨a6, n6, c6, rfl⟩ := Ints.isSlice hi6
    have HI6 := Lib.hid hi6
    clear hi6
    go_wp2_with fail
    refine (refLast5_any _ l n _ (HV.out.below e6) (by omega)).mono ?_
    rintro e w7 ⟨u7, rfl, hi7, hE7⟩
    obtain ⟨a7, n7, c7, rfl⟩ := Ints.isSlice hi7
    have HI7 := Lib.hid hi7
    clear hi7
    go_wp2_with fail
    refine (equal3_any _ _ _ _ _ (HI6.out.below hE7) HI7.out).mono ?_
    rw [same1]
    rintro e w8 ⟨rfl, hE8⟩
    go_wp2_with fail
    go_ret
    exact ⟨rfl, (e6.trans hE7).trans hE8⟩

namespace entryChains
theorem own : ownKnob Try.prog.godebug = none := by kernel_rfl
theorem laidOut : laidOutB Try.prog = true := by kernel_rfl
set_option linter.unusedVariables false in
set_option maxRecDepth 100000 in
theorem lifted (os : Os) (started : os.Started) (H : Type) (enc : TypeId × Value → H) :
    ReturnsInHanded {} Try.checked os 6 .any (Rows.entryChainsSpec.pre6 enc Try.prog Try.f6 Rows.entryChainsRow.domain false) (Rows.entryChainsSpec.post enc Try.prog Try.f6 false true false false) := by
  refine returnsInHanded_of_change_sized (C := Try.checked) own started (by kernel_rfl) Try.func6
    (ChangeSpec.witness6 (enc := enc) (C := Try.checked) false ⟨#[], #[.slice none 0 0, .int .i64 0], []⟩ 8 (by kernel_rfl) (by kernel_rfl) (by kernel_rfl) (by kernel_rfl)) ?_
  intro W base args ds gs before hval0 hW hcnd hsz _
  have hval : ∀ (j : Nat) t v, Try.f6.params[j]? = some t → args[j]? = some v → Value.okWide Try.prog W .any base t v := hval0
  have hW' := hW
  obtain ⟨p, q, hA0, hV, rfl, hfz, hnd⟩ := hW'
  have hA : DataW.TrodAll enc Try.prog W 0 (fun _ => true) true Try.f6.params.toList args.toList ds p := hA0
  rw [Try.params6] at hA hval
  obtain ⟨v0, vs0, d0, ds0, p0, q0, hargs, rfl, rfl, h0, r0⟩ := trodAll_cons hA
  obtain ⟨v1, vs1, d1, ds1, p1, q1, rfl, rfl, rfl, h1, r1⟩ := trodAll_cons r0
  obtain ⟨rfl, rfl, rfl⟩ := trodAll_nil r1
  obtain rfl : args = #[v0, v1] := by cases args; simp_all
  obtain ⟨rfl, rfl⟩ := trodVars_none hV
  have k0 := h0
  have lt0 : ∀ x ∈ p0, x.block < W.heap.size := by obtain ⟨m, hm⟩ := k0; exact DataW.trod_lt m _ _ _ hm
  obtain ⟨a0, len0, cap0, rfl⟩ := okWide_slice Try.underlying43 (hval 0 43 v0 rfl rfl)
  obtain ⟨l0, w0⟩ : ∃ l, Ents W (.slice a0 len0 cap0) l := by
    obtain ⟨fuel, hf⟩ := h0
    obtain ⟨v, l, hcs, hb⟩ := ents_of_raw hf
    simp [Value.cells] at hcs
    subst hcs
    exact ⟨l, hb⟩
  have sz0 : len0 * 64 ≤ 140737488351232 := by obtain ⟨fuel, hf⟩ := h0; exact reach_of_raw (P := Try.prog) (x := (d0, p0)) (j := 0) hsz (by rw [Try.params6]; rfl) rfl Try.underlying43 (by kernel_rfl) hf
  have k1 := h1
  have lt1 : ∀ x ∈ p1, x.block < W.heap.size := by obtain ⟨m, hm⟩ := k1; exact DataW.trod_lt m _ _ _ hm
  obtain ⟨a1, rfl, _, _, w1⟩ := open_int Try.underlying3 (hval 1 3 v1 rfl rfl) h1
  clear hA0 hval0
  refine (entryChains_walk _ l0 a1 W w0).mono fun e W' ⟨he, bel⟩ => ?_
  subst he
  exact ⟨_, rfl, _, _, _, [], _, [], hW, trodAll_mk1 (shut_bool Try.underlying4 _), (trodAll_cons_mk (Below.trod laidOut (by kernel_rfl) (of_decide_eq_true (by kernel_rfl)) k0 bel lt0) (trodAll_cons_mk (Below.trod laidOut (by kernel_rfl) (of_decide_eq_true (by kernel_rfl)) k1 bel lt1) trodAll_mk0)), rfl, bel.frame _, fun h => by cases h⟩
theorem over : Rows.entryChainsRow.holds Try.pinned (OpenSpec.ofChange Rows.entryChainsSpec) :=
  OpenClaim.holds_of_wide 6 Try.f6 rfl rfl rfl rfl rfl rfl rfl ⟨rfl, rfl, rfl, rfl, rfl⟩ rfl rfl rfl rfl rfl (by kernel_rfl) Try.func6 (by kernel_rfl)
    (of_decide_eq_true (by kernel_rfl)) (by unfold Func.isWrapper; first | (rw [if_pos (by decide +kernel)]; kernel_rfl) | (rw [if_neg (by decide +kernel)]; exact ⟨rfl, rfl⟩))
    (fun os started H enc _ => lifted os started H enc)
theorem proved : Rows.EntryChainsSaid := over
end entryChains
end Go.Proofs.Ytboopfbflfimlaa
