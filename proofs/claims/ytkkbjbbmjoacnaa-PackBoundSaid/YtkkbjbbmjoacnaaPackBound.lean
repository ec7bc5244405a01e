/-
  PackBound: a number above what is asked for is refused; one that is not is read: for every input the statement's function returns true, and leaves what came in as it was.
-/
import Derived.Test.YtkkbjbbmjoacnaaPackAlive
import Derived.Test.YtkkbjbbmjoacnaaRows
import Derived.Test.YtkkbjbbmjoacnaaChecked
import Derived.SizedLaws
namespace Go.Proofs.Ytkkbjbbmjoacnaa
open Go.ChangeShapes Go.WideShapes Go.ChangeAt Go.RowKit

set_option maxRecDepth 100000 in
set_option maxHeartbeats 4000000 in
theorem packBound_walk (n most : Int) (W : World) :
    Calls Try.prog 15 #[.int .i64 n, .int .i64 most] W fun e W' => e = .returned (.bool true) ∧ Below W.heap.size W W' := by
  have hnum := packNum_any (.slice none 0 0) _ [] [n] _ (bytes_none _) (Ints.one W n) (by simp) (by simp)
  rw [all_one] at hnum
  cases hok : okNum n with
  | false =>
    rw [hok] at hnum
    unfold okNum at hok
    have parts : n < 0 ∨ (¬ n < 0 ∧ (4611686018427387904 : Int) < n) := by
      simp only [decide_eq_false_iff_not] at hok
      omega
    clear hok
    rcases parts with p1 | ⟨p1, p2⟩
    all_goals
      go_enter Try.func15, Try.ntmps15
      go_wp2_with fail
      refine hnum.mono ?_
      rintro e w1 ⟨v1, rfl, ho1, hb1⟩
      have hE1 : Ext W w1 := (Ext.alloc _ _).trans hb1
      have hby1 := ho1.bytes
      obtain ⟨a1, n1, c1, rfl⟩ := ho1.isSlice
      obtain ⟨hn1, _, _⟩ := hby1.len
      have hn0 : n1 = 0 := by simpa using hn1
      subst hn0
      clear hn1 ho1 hnum
      go_wp2_with fail
      refine (newReader_any _ _ _ hby1 (by simp)).mono ?_
      rintro e w2 ⟨p, rfl, hp, hr2, hb2⟩
      go_wp2_with fail
      refine (packAlive_any _).mono ?_
      rintro e w3 ⟨rfl, hb3⟩
      go_wp2_with fail
      go_ret
      exact ⟨rfl, (hE1.trans hb2).trans hb3⟩
  | true =>
    rw [hok] at hnum
    unfold okNum at hok
    simp only [decide_eq_true_eq] at hok
    obtain ⟨m, rfl⟩ : ∃ m : Nat, n = (m : Int) := ⟨n.toNat, by omega⟩
    rw [nums_one] at hnum
    have h9 := Pack.num_nine (n := m) (by omega)
    simp only [if_true, List.nil_append] at hnum
    by_cases hle : (m : Int) ≤ most
    · have hread : Pack.St.num ⟨Pack.num m, 0⟩ most = (⟨[], 0⟩, m) := by
        have := Pack.read_num m [] 0 most (by omega) hle
        rwa [List.append_nil] at this
      clear hok
      go_enter Try.func15, Try.ntmps15
      go_wp2_with fail
      refine hnum.mono ?_
      rintro e w1 ⟨v1, rfl, ho1, hb1⟩
      have hE1 : Ext W w1 := (Ext.alloc _ _).trans hb1
      have hby1 := ho1.bytes
      obtain ⟨a1, n1, c1, rfl⟩ := ho1.isSlice
      clear ho1 hnum
      go_wp2_with fail
      refine (newReader_any _ _ _ hby1 (by omega)).mono ?_
      rintro e w2 ⟨p, rfl, hp, hr2, hb2⟩
      have hE2 := hE1.trans hb2
      go_wp2_with fail
      refine (num_any p _ most _ hr2).mono ?_
      rw [hread]
      rintro e w3 ⟨rfl, hB3, hr3⟩
      have hE3 : Ext W w3 := Below.trans (B := W.heap.size) hE2 (hB3.below (Nat.le_trans hE1.size hp) hE2.size)
      go_wp2_with fail
      refine (packAlive_any _).mono ?_
      rintro e w4 ⟨rfl, hb4⟩
      go_wp2_with fail
      refine (end_any p _ _ (hr3.ext hb4)).mono ?_
      rintro e w5 ⟨rfl, rfl⟩
      go_wp2_with fail
      go_ret
      exact ⟨rfl, hE3.trans hb4⟩
    · have hread : Pack.St.num ⟨Pack.num m, 0⟩ most = (⟨[], 21⟩, 0) := by
        have := Pack.read_num_over m [] most (by omega) hle
        rwa [List.append_nil] at this
      clear hok
      go_enter Try.func15, Try.ntmps15
      go_wp2_with fail
      refine hnum.mono ?_
      rintro e w1 ⟨v1, rfl, ho1, hb1⟩
      have hE1 : Ext W w1 := (Ext.alloc _ _).trans hb1
      have hby1 := ho1.bytes
      obtain ⟨a1, n1, c1, rfl⟩ := ho1.isSlice
      clear ho1 hnum
      go_wp2_with fail
      refine (newReader_any _ _ _ hby1 (by omega)).mono ?_
      rintro e w2 ⟨p, rfl, hp, hr2, hb2⟩
      have hE2 := hE1.trans hb2
      go_wp2_with fail
      refine (num_any p _ most _ hr2).mono ?_
      rw [hread]
      rintro e w3 ⟨rfl, hB3, hr3⟩
      have hE3 : Ext W w3 := Below.trans (B := W.heap.size) hE2 (hB3.below (Nat.le_trans hE1.size hp) hE2.size)
      go_wp2_with fail
      refine (packAlive_any _).mono ?_
      rintro e w4 ⟨rfl, hb4⟩
      go_wp2_with fail
      refine (end_any p _ _ (hr3.ext hb4)).mono ?_
      rintro e w5 ⟨rfl, rfl⟩
      go_wp2_with fail
      go_ret
      exact ⟨rfl, hE3.trans hb4⟩

namespace packBound
theorem own : ownKnob Try.prog.godebug = none := by kernel_rfl
theorem laidOut : laidOutB Try.prog = true := by kernel_rfl
set_option linter.unusedVariables false in
set_option maxRecDepth 100000 in
theorem lifted (os : Os) (started : os.Started) (H : Type) (enc : TypeId × Value → H) :
    ReturnsInHanded {} Try.checked os 15 .any (Rows.packBoundSpec.pre6 enc Try.prog Try.f15 Rows.packBoundRow.domain false) (Rows.packBoundSpec.post enc Try.prog Try.f15 false true false false) := by
  refine returnsInHanded_of_change (C := Try.checked) own started (by kernel_rfl) Try.func15
    (ChangeSpec.witness6 (enc := enc) (C := Try.checked) false ⟨#[], #[.int .i64 0, .int .i64 0], []⟩ 8 (by kernel_rfl) (by kernel_rfl) (by kernel_rfl) (by kernel_rfl)) ?_
  intro W base args ds gs before hval0 hW hcnd _
  have hval : ∀ (j : Nat) t v, Try.f15.params[j]? = some t → args[j]? = some v → Value.okWide Try.prog W .any base t v := hval0
  have hW' := hW
  obtain ⟨p, q, hA0, hV, rfl, hfz, hnd⟩ := hW
  have hA : DataW.TrodAll enc Try.prog W 0 (fun _ => true) true Try.f15.params.toList args.toList ds p := hA0
  rw [Try.params15] at hA hval
  obtain ⟨v0, vs0, d0, ds0, p0, q0, hargs, rfl, rfl, h0, r0⟩ := trodAll_cons hA
  obtain ⟨v1, vs1, d1, ds1, p1, q1, rfl, rfl, rfl, h1, r1⟩ := trodAll_cons r0
  obtain ⟨rfl, rfl, rfl⟩ := trodAll_nil r1
  obtain rfl : args = #[v0, v1] := by cases args; simp_all
  obtain ⟨rfl, rfl⟩ := trodVars_none hV
  have k0 := h0
  have lt0 : ∀ x ∈ p0, x.block < W.heap.size := by obtain ⟨m, hm⟩ := k0; exact DataW.trod_lt m _ _ _ hm
  obtain ⟨a0, rfl, _, _, w0⟩ := open_int Try.underlying3 (hval 0 3 v0 rfl rfl) h0
  have k1 := h1
  have lt1 : ∀ x ∈ p1, x.block < W.heap.size := by obtain ⟨m, hm⟩ := k1; exact DataW.trod_lt m _ _ _ hm
  obtain ⟨a1, rfl, _, _, w1⟩ := open_int Try.underlying3 (hval 1 3 v1 rfl rfl) h1
  clear hA0 hval0
  refine (packBound_walk a0 a1 W).mono fun e W' ⟨he, bel⟩ => ?_
  subst he
  exact ⟨_, rfl, _, _, _, [], _, [], hW', trodAll_mk1 (shut_bool Try.underlying4 _), (trodAll_cons_mk (Below.trod laidOut (by kernel_rfl) (of_decide_eq_true (by kernel_rfl)) k0 bel lt0) (trodAll_cons_mk (Below.trod laidOut (by kernel_rfl) (of_decide_eq_true (by kernel_rfl)) k1 bel lt1) trodAll_mk0)), rfl, bel.frame _, fun h => by cases h⟩
theorem over : Rows.packBoundRow.holds Try.pinned (OpenSpec.ofChange Rows.packBoundSpec) :=
  OpenClaim.holds_of_wide 15 Try.f15 rfl rfl rfl rfl rfl rfl rfl ⟨rfl, rfl, rfl, rfl, rfl⟩ rfl rfl rfl rfl rfl (by kernel_rfl) Try.func15 (by kernel_rfl)
    (of_decide_eq_true (by kernel_rfl)) (by unfold Func.isWrapper; first | (rw [if_pos (by decide +kernel)]; kernel_rfl) | (rw [if_neg (by decide +kernel)]; exact ⟨rfl, rfl⟩))
    (fun os started H enc _ => lifted os started H enc)
theorem proved : Rows.PackBoundSaid := over
end packBound
end Go.Proofs.Ytkkbjbbmjoacnaa
