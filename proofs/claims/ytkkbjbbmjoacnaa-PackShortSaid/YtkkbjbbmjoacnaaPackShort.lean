/-
  PackShort: of two numbers the lesser one is never written longer; none is longer than nine bytes: for every input the statement's function returns true, and leaves what came in as it was.
-/
import Derived.Test.YtkkbjbbmjoacnaaPackAlive
import Derived.Test.YtkkbjbbmjoacnaaRows
import Derived.Test.YtkkbjbbmjoacnaaChecked
import Derived.SizedLaws
namespace Go.Proofs.Ytkkbjbbmjoacnaa
open Go.ChangeShapes Go.WideShapes Go.ChangeAt Go.RowKit

set_option maxRecDepth 100000 in
set_option maxHeartbeats 4000000 in
theorem packShort_bad (n m : Int) (h : okNum n = false ∨ okNum m = false) (W : World) :
    Calls Try.prog 16 #[.int .i64 n, .int .i64 m] W fun e W' => e = .returned (.bool true) ∧ Below W.heap.size W W' := by
  cases hx : okNum n with
  | false =>
    have z1 : (oneNum n).length = 0 := by unfold oneNum; rw [hx]; rfl
    cases hy : okNum m with
    | false =>
      have z2 : (oneNum m).length = 0 := by unfold oneNum; rw [hy]; rfl
      have hnum1 := numOne_any n
      have hnum2 := numOne_any m
      rw [hx] at hnum1
      rw [hy] at hnum2
      clear hx hy h
      go_enter Try.func16, Try.ntmps16
      go_wp2_with fail
      refine (hnum1 _).mono ?_
      rintro e w1 ⟨a1, k1, c1, rfl, hby1, hk1, hE1⟩
      go_wp2_with fail
      refine (hnum2 _).mono ?_
      rintro e w2 ⟨a2, k2, c2, rfl, hby2, hk2, hE2⟩
      rw [z1] at hk1
      rw [z2] at hk2
      subst hk1 hk2
      clear hby1 hby2 z1 z2
      go_wp2_with fail
      refine (packAlive_any _).mono ?_
      rintro e w3 ⟨rfl, hb3⟩
      go_wp2_with fail
      go_ret
      exact ⟨rfl, (hE1.trans hE2).trans hb3⟩
    | true =>
      have hnum1 := numOne_any n
      have hnum2 := numOne_any m
      rw [hx] at hnum1
      rw [hy] at hnum2
      clear hx hy h
      go_enter Try.func16, Try.ntmps16
      go_wp2_with fail
      refine (hnum1 _).mono ?_
      rintro e w1 ⟨a1, k1, c1, rfl, hby1, hk1, hE1⟩
      go_wp2_with fail
      refine (hnum2 _).mono ?_
      rintro e w2 ⟨a2, k2, c2, rfl, hby2, hk2, hE2⟩
      rw [z1] at hk1
      subst hk1
      clear hby1 hby2 z1 hk2
      go_wp2_with fail
      refine (packAlive_any _).mono ?_
      rintro e w3 ⟨rfl, hb3⟩
      go_wp2_with fail
      go_ret
      exact ⟨rfl, (hE1.trans hE2).trans hb3⟩
  | true =>
    have hy : okNum m = false := by
      rcases h with h | h
      · rw [hx] at h; cases h
      · exact h
    have z2 : (oneNum m).length = 0 := by unfold oneNum; rw [hy]; rfl
    have hnum1 := numOne_any n
    have hnum2 := numOne_any m
    rw [hx] at hnum1
    rw [hy] at hnum2
    clear hx hy h
    go_enter Try.func16, Try.ntmps16
    go_wp2_with fail
    refine (hnum1 _).mono ?_
    rintro e w1 ⟨a1, k1, c1, rfl, hby1, hk1, hE1⟩
    go_wp2_with fail
    refine (hnum2 _).mono ?_
    rintro e w2 ⟨a2, k2, c2, rfl, hby2, hk2, hE2⟩
    rw [z2] at hk2
    subst hk2
    clear hby1 hby2 z2 hk1
    go_wp2_with fail
    refine (packAlive_any _).mono ?_
    rintro e w3 ⟨rfl, hb3⟩
    go_wp2_with fail
    go_ret
    exact ⟨rfl, (hE1.trans hE2).trans hb3⟩

set_option maxRecDepth 100000 in
set_option maxHeartbeats 4000000 in
theorem packShort_good (n m : Int) (hx : okNum n = true) (hy : okNum m = true) (W : World) :
    Calls Try.prog 16 #[.int .i64 n, .int .i64 m] W fun e W' => e = .returned (.bool true) ∧ Below W.heap.size W W' := by
  have hnum1 := numOne_any n
  have hnum2 := numOne_any m
  rw [hx] at hnum1
  rw [hy] at hnum2
  have e1 : oneNum n = Pack.num n.toNat := by unfold oneNum; rw [hx]; rfl
  have e2 : oneNum m = Pack.num m.toNat := by unfold oneNum; rw [hy]; rfl
  unfold okNum at hx hy
  simp only [decide_eq_true_eq] at hx hy
  obtain ⟨x, rfl⟩ : ∃ x : Nat, n = (x : Int) := ⟨n.toNat, by omega⟩
  obtain ⟨y, rfl⟩ : ∃ y : Nat, m = (y : Int) := ⟨m.toNat, by omega⟩
  simp only [Int.toNat_natCast] at e1 e2
  rw [e1] at hnum1
  rw [e2] at hnum2
  have h1 := Pack.num_pos x
  have h9 := Pack.num_nine (n := x) (by omega)
  have hmono : ¬ (y : Int) < (x : Int) → (Pack.num x).length ≤ (Pack.num y).length := fun h => Pack.num_mono y x (by omega)
  have hq : ((Pack.num x == Pack.num y) == ((x : Int) == (y : Int))) = true := by
    have : (Pack.num x == Pack.num y) = ((x : Int) == (y : Int)) := by
      rw [Bool.eq_iff_iff]
      simp
      constructor
      · intro h; have := Pack.num_inj h; omega
      · intro h; rw [show x = y from by omega]
    rw [this]
    simp
  have hgt : (y : Int) < (x : Int) ∨ ¬ (y : Int) < (x : Int) := by omega
  clear e1 e2 hx hy
  rcases hgt with hgt | hgt
  · clear hmono
    go_enter Try.func16, Try.ntmps16
    go_wp2_with fail
    refine (hnum1 _).mono ?_
    rintro e w1 ⟨a1, k1, c1, rfl, hby1, hk1, hE1⟩
    go_wp2_with fail
    refine (hnum2 _).mono ?_
    rintro e w2 ⟨a2, k2, c2, rfl, hby2, hk2, hE2⟩
    subst hk1 hk2
    go_wp2_with fail
    refine (packAlive_any _).mono ?_
    rintro e w3 ⟨rfl, hb3⟩
    have g1 : (1 : Int) ≤ ((Pack.num x).length : Int) := by omega
    have g2 : ((Pack.num x).length : Int) ≤ 9 := by omega
    have s1 := run_str (P := Try.prog) 22 9 5 Try.underlying22 Try.underlying5 Try.underlying9 (hby1.below (hE2.trans hb3))
    have s2 := run_str (P := Try.prog) 22 9 5 Try.underlying22 Try.underlying5 Try.underlying9 (hby2.below hb3)
    clear hby1 hby2 hnum1 hnum2 h1 h9
    go_wp2_with fail
    go_ret
    exact ⟨rfl, (hE1.trans hE2).trans hb3⟩
  · have hle := hmono hgt
    clear hmono
    go_enter Try.func16, Try.ntmps16
    go_wp2_with fail
    refine (hnum1 _).mono ?_
    rintro e w1 ⟨a1, k1, c1, rfl, hby1, hk1, hE1⟩
    go_wp2_with fail
    refine (hnum2 _).mono ?_
    rintro e w2 ⟨a2, k2, c2, rfl, hby2, hk2, hE2⟩
    subst hk1 hk2
    go_wp2_with fail
    refine (packAlive_any _).mono ?_
    rintro e w3 ⟨rfl, hb3⟩
    have g1 : (1 : Int) ≤ ((Pack.num x).length : Int) := by omega
    have g2 : ((Pack.num x).length : Int) ≤ 9 := by omega
    have g3 : ((Pack.num x).length : Int) ≤ ((Pack.num y).length : Int) := by omega
    have s1 := run_str (P := Try.prog) 22 9 5 Try.underlying22 Try.underlying5 Try.underlying9 (hby1.below (hE2.trans hb3))
    have s2 := run_str (P := Try.prog) 22 9 5 Try.underlying22 Try.underlying5 Try.underlying9 (hby2.below hb3)
    clear hby1 hby2 hnum1 hnum2 h1 h9 hle
    go_wp2_with fail
    go_ret
    exact ⟨rfl, (hE1.trans hE2).trans hb3⟩

theorem packShort_walk (n m : Int) (W : World) :
    Calls Try.prog 16 #[.int .i64 n, .int .i64 m] W fun e W' => e = .returned (.bool true) ∧ Below W.heap.size W W' := by
  cases hx : okNum n with
  | false => exact packShort_bad n m (.inl hx) W
  | true =>
    cases hy : okNum m with
    | false => exact packShort_bad n m (.inr hy) W
    | true => exact packShort_good n m hx hy W

namespace packShort
theorem own : ownKnob Try.prog.godebug = none := by kernel_rfl
theorem laidOut : laidOutB Try.prog = true := by kernel_rfl
set_option linter.unusedVariables false in
set_option maxRecDepth 100000 in
theorem lifted (os : Os) (started : os.Started) (H : Type) (enc : TypeId × Value → H) :
    ReturnsInHanded {} Try.checked os 16 .any (Rows.packShortSpec.pre6 enc Try.prog Try.f16 Rows.packShortRow.domain false) (Rows.packShortSpec.post enc Try.prog Try.f16 false true false false) := by
  refine returnsInHanded_of_change (C := Try.checked) own started (by kernel_rfl) Try.func16
    (ChangeSpec.witness6 (enc := enc) (C := Try.checked) false ⟨#[], #[.int .i64 0, .int .i64 0], []⟩ 8 (by kernel_rfl) (by kernel_rfl) (by kernel_rfl) (by kernel_rfl)) ?_
  intro W base args ds gs before hval0 hW hcnd _
  have hval : ∀ (j : Nat) t v, Try.f16.params[j]? = some t → args[j]? = some v → Value.okWide Try.prog W .any base t v := hval0
  have hW' := hW
  obtain ⟨p, q, hA0, hV, rfl, hfz, hnd⟩ := hW
  have hA : DataW.TrodAll enc Try.prog W 0 (fun _ => true) true Try.f16.params.toList args.toList ds p := hA0
  rw [Try.params16] at hA hval
  obtain ⟨v0, vs0, d0, ds0, p0, q0, hargs, rfl, rfl, h0, r0⟩ := trodAll_cons hA
  obtain ⟨v1, vs1, d1, ds1, p1, q1, rfl, rfl, rfl, h1, r1⟩ := trodAll_cons r0
  obtain ⟨rfl, rfl, rfl⟩ := trodAll_nil r1
  obtain rfl : args = #[v0, v1] := by cases args; simp_all
  obtain ⟨rfl, rfl⟩ := trodVars_none hV
  have k0 := h0
  have lt0 : ∀ x ∈ p0, x.block < W.heap.size := by obtain ⟨m, hm⟩ := k0; exact DataW.trod_lt m _ _ _ hm
  obtain ⟨a0, rfl, _, _, w0⟩ := open_int Try.underlying3 (hval 0 3 v0 rfl rfl) h0
  have k1 := h1
  have lt1 : ∀ x ∈ p1, x.block < W.heap.size := by obtain ⟨m, hm⟩ := k1; exact DataW.trod_lt m _ _ _ hm
  obtain ⟨a1, rfl, _, _, w1⟩ := open_int Try.underlying3 (hval 1 3 v1 rfl rfl) h1
  clear hA0 hval0
  refine (packShort_walk a0 a1 W).mono fun e W' ⟨he, bel⟩ => ?_
  subst he
  exact ⟨_, rfl, _, _, _, [], _, [], hW', trodAll_mk1 (shut_bool Try.underlying4 _), (trodAll_cons_mk (Below.trod laidOut (by kernel_rfl) (of_decide_eq_true (by kernel_rfl)) k0 bel lt0) (trodAll_cons_mk (Below.trod laidOut (by kernel_rfl) (of_decide_eq_true (by kernel_rfl)) k1 bel lt1) trodAll_mk0)), rfl, bel.frame _, fun h => by cases h⟩
theorem over : Rows.packShortRow.holds Try.pinned (OpenSpec.ofChange Rows.packShortSpec) :=
  OpenClaim.holds_of_wide 16 Try.f16 rfl rfl rfl rfl rfl rfl rfl ⟨rfl, rfl, rfl, rfl, rfl⟩ rfl rfl rfl rfl rfl (by kernel_rfl) Try.func16 (by kernel_rfl)
    (of_decide_eq_true (by kernel_rfl)) (by unfold Func.isWrapper; first | (rw [if_pos (by decide +kernel)]; kernel_rfl) | (rw [if_neg (by decide +kernel)]; exact ⟨rfl, rfl⟩))
    (fun os started H enc _ => lifted os started H enc)
theorem proved : Rows.PackShortSaid := over
end packShort
end Go.Proofs.Ytkkbjbbmjoacnaa
