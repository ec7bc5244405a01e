/-
  Layer 5: which entries may be: the document's own answer.
-/
import Derived.Test.YtboopfbflfimlaaEntB
namespace Go.Proofs.Ytboopfbflfimlaa
set_option linter.unusedSimpArgs false
set_option linter.unusedVariables false
set_option maxRecDepth 100000
open Go.RowKit

set_option maxHeartbeats 4000000 in
theorem refRight5_any (v : Value) (e : Ent.E) (w : World) (hv : IsEnt w v e) :
    Calls Try.prog 15 #[v] w fun x w' => x = .returned (.bool (Ent.right e)) ∧ Ext w w' := by
  have hbx := box_entR
  obtain ⟨u, rfl, hu⟩ := hv
  obtain ⟨n, k, c, t, m, p⟩ := e
  unfold entV
  simp only at hu ⊢
  have HU := Lib.hid hu
  obtain ⟨a, cap, rfl, hcap, hmax, _, _⟩ := hu.open
  unfold maxLen at hmax
  clear hu
  have hE0 : Ext w (w.alloc (.cells #[.int .i64 n, .int .i64 k, .slice a c.length cap, .int .i64 t, .int .i64 m, .int .i64 p] 26)) := Ext.alloc _ _
  by_cases n0 : n < 1
  · have HR := Lib.hid (show Ent.right ⟨n, k, c, t, m, p⟩ = false by exact Ent.right_no (by simp; omega))
    go_enter Try.func15, Try.ntmps15
    go_wp2_with fail
    go_ret
    exact ⟨by rw [HR.out]; rfl, hE0⟩
  by_cases n1 : (1099511627776 : Int) < n
  · have HR := Lib.hid (show Ent.right ⟨n, k, c, t, m, p⟩ = false by exact Ent.right_no (by simp; omega))
    go_enter Try.func15, Try.ntmps15
    go_wp2_with fail
    go_ret
    exact ⟨by rw [HR.out]; rfl, hE0⟩
  have hn : decide (1 ≤ n ∧ n ≤ 1099511627776) = true := by simp; omega
  by_cases k1 : k = 1
  · subst k1
    have HD := Lib.hid (Ent.right_one (c := c) (t := t) (m := m) (p := p) hn)
    clear hn
    cases hv : Vec.right c with
    | false =>
      have HV := Lib.hid hv
      have HR := Lib.hid (show Ent.right ⟨n, 1, c, t, m, p⟩ = false by rw [HD.out, hv]; rfl)
      clear hv
      go_enter Try.func15, Try.ntmps15
      go_wp2_with fail
      refine (refRight_any _ c _ (HU.out.below hE0)).mono ?_
      rw [HV.out]
      rintro e w1 ⟨rfl, rfl⟩
      go_wp2_with fail
      go_ret
      exact ⟨by rw [HR.out]; rfl, hE0⟩
    | true =>
      have HV := Lib.hid hv
      clear hv
      by_cases t0 : t = 0
      rotate_left
      · have HR := Lib.hid (show Ent.right ⟨n, 1, c, t, m, p⟩ = false by rw [HD.out]; simp [t0])
        go_enter Try.func15, Try.ntmps15
        go_wp2_with fail
        refine (refRight_any _ c _ (HU.out.below hE0)).mono ?_
        rw [HV.out]
        rintro e w1 ⟨rfl, rfl⟩
        go_wp2_with fail
        go_ret
        exact ⟨by rw [HR.out]; rfl, hE0⟩
      subst t0
      by_cases m0 : m = 0
      rotate_left
      · have HR := Lib.hid (show Ent.right ⟨n, 1, c, 0, m, p⟩ = false by rw [HD.out]; simp [m0])
        go_enter Try.func15, Try.ntmps15
        go_wp2_with fail
        refine (refRight_any _ c _ (HU.out.below hE0)).mono ?_
        rw [HV.out]
        rintro e w1 ⟨rfl, rfl⟩
        go_wp2_with fail
        go_ret
        exact ⟨by rw [HR.out]; rfl, hE0⟩
      subst m0
      by_cases p0 : p = 0
      rotate_left
      · have HR := Lib.hid (show Ent.right ⟨n, 1, c, 0, 0, p⟩ = false by rw [HD.out]; simp [p0])
        go_enter Try.func15, Try.ntmps15
        go_wp2_with fail
        refine (refRight_any _ c _ (HU.out.below hE0)).mono ?_
        rw [HV.out]
        rintro e w1 ⟨rfl, rfl⟩
        go_wp2_with fail
        go_ret
        exact ⟨by rw [HR.out]; show Ending.returned (.bool (p == 0)) = _; rw [beq_eq_false_iff_ne.2 p0], hE0⟩
      subst p0
      have HR := Lib.hid (show Ent.right ⟨n, 1, c, 0, 0, 0⟩ = true by rw [HD.out, HV.out]; rfl)
      go_enter Try.func15, Try.ntmps15
      go_wp2_with fail
      refine (refRight_any _ c _ (HU.out.below hE0)).mono ?_
      rw [HV.out]
      rintro e w1 ⟨rfl, rfl⟩
      go_wp2_with fail
      go_ret
      exact ⟨by rw [HR.out]; rfl, hE0⟩
  · by_cases k2 : k = 2
    rotate_left
    · have HR := Lib.hid (Ent.right_other (n := n) (c := c) (t := t) (m := m) (p := p) k1 k2)
      clear hn
      go_enter Try.func15, Try.ntmps15
      go_wp2_with fail
      go_ret
      exact ⟨by rw [HR.out]; rfl, hE0⟩
    subst k2
    have HD := Lib.hid (Ent.right_two (c := c) (t := t) (m := m) (p := p) hn)
    clear hn
    by_cases c0 : (0 : Int) < (c.length : Int)
    · have HR := Lib.hid (show Ent.right ⟨n, 2, c, t, m, p⟩ = false by rw [HD.out, isEmpty_len, decide_eq_false (by omega)]; rfl)
      have hce : ¬ c = [] := by rintro rfl; simp at c0
      go_enter Try.func15, Try.ntmps15
      go_wp2_with fail
      go_ret
      exact ⟨by rw [HR.out]; rfl, hE0⟩
    obtain rfl : c = [] := by cases c with
      | nil => rfl
      | cons x c => exact absurd (show (0 : Int) < ((x :: c).length : Int) by simp) c0
    by_cases c1 : t < 0
    · have HR := Lib.hid (show Ent.right ⟨n, 2, [], t, m, p⟩ = false by rw [HD.out]; simp; omega)
      go_enter Try.func15, Try.ntmps15
      go_wp2_with fail
      go_ret
      exact ⟨by rw [HR.out]; rfl, hE0⟩
    by_cases c2 : (1073741824 : Int) < t
    · have HR := Lib.hid (show Ent.right ⟨n, 2, [], t, m, p⟩ = false by rw [HD.out]; simp; omega)
      go_enter Try.func15, Try.ntmps15
      go_wp2_with fail
      go_ret
      exact ⟨by rw [HR.out]; rfl, hE0⟩
    by_cases c3 : m < 1
    · have HR := Lib.hid (show Ent.right ⟨n, 2, [], t, m, p⟩ = false by rw [HD.out]; simp; omega)
      go_enter Try.func15, Try.ntmps15
      go_wp2_with fail
      go_ret
      exact ⟨by rw [HR.out]; rfl, hE0⟩
    by_cases c4 : (64 : Int) < m
    · have HR := Lib.hid (show Ent.right ⟨n, 2, [], t, m, p⟩ = false by rw [HD.out]; simp; omega)
      go_enter Try.func15, Try.ntmps15
      go_wp2_with fail
      go_ret
      exact ⟨by rw [HR.out]; rfl, hE0⟩
    by_cases c5 : p < 0
    · have HR := Lib.hid (show Ent.right ⟨n, 2, [], t, m, p⟩ = false by rw [HD.out]; simp; omega)
      go_enter Try.func15, Try.ntmps15
      go_wp2_with fail
      go_ret
      exact ⟨by rw [HR.out]; rfl, hE0⟩
    by_cases c6 : (1099511627776 : Int) < p
    · have HR := Lib.hid (show Ent.right ⟨n, 2, [], t, m, p⟩ = false by rw [HD.out]; simp; omega)
      go_enter Try.func15, Try.ntmps15
      go_wp2_with fail
      go_ret
      exact ⟨by rw [HR.out]; show Ending.returned (.bool (decide (p ≤ 1099511627776))) = _; rw [decide_eq_false (by omega)], hE0⟩
    have HR := Lib.hid (show Ent.right ⟨n, 2, [], t, m, p⟩ = true by rw [HD.out, isEmpty_len, decide_eq_true (by omega), decide_eq_true (by omega), decide_eq_true (by omega), decide_eq_true (by omega)]; rfl)
    go_enter Try.func15, Try.ntmps15
    go_wp2_with fail
    go_ret
    exact ⟨by rw [HR.out]; rfl, hE0⟩
end Go.Proofs.Ytboopfbflfimlaa
