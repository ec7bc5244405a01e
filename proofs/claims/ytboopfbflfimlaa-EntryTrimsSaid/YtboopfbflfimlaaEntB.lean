/-
  Layer 5, the program: which entries may be.
-/
import Derived.Test.YtboopfbflfimlaaEntA
namespace Go.Proofs.Ytboopfbflfimlaa
set_option linter.unusedSimpArgs false
set_option linter.unusedVariables false
set_option maxRecDepth 100000
open Go.RowKit

theorem Ent.right_no {n k : Int} {c : List Int} {t m p : Int} (h : decide (1 ≤ n ∧ n ≤ 1099511627776) = false) : Ent.right ⟨n, k, c, t, m, p⟩ = false := by
  unfold Ent.right; simp only [h, Bool.false_and]
theorem Ent.right_one {n : Int} {c : List Int} {t m p : Int} (h : decide (1 ≤ n ∧ n ≤ 1099511627776) = true) : Ent.right ⟨n, 1, c, t, m, p⟩ = (Vec.right c && decide (t = 0 ∧ m = 0 ∧ p = 0)) := by
  unfold Ent.right Ent.rightCut Ent.rightTrim; simp only [h]; simp
theorem Ent.right_two {n : Int} {c : List Int} {t m p : Int} (h : decide (1 ≤ n ∧ n ≤ 1099511627776) = true) : Ent.right ⟨n, 2, c, t, m, p⟩ = (c.isEmpty && (decide (0 ≤ t ∧ t ≤ 1073741824) && (decide (1 ≤ m ∧ m ≤ 64) && decide (0 ≤ p ∧ p ≤ 1099511627776)))) := by
  unfold Ent.right Ent.rightCut Ent.rightTrim; simp only [h]; simp
theorem Ent.right_other {n k : Int} {c : List Int} {t m p : Int} (h1 : k ≠ 1) (h2 : k ≠ 2) : Ent.right ⟨n, k, c, t, m, p⟩ = false := by
  unfold Ent.right; simp [h1, h2]
theorem isEmpty_len (c : List Int) : c.isEmpty = decide ((c.length : Int) = 0) := by
  cases c with
  | nil => rfl
  | cons x c => simp; omega

set_option maxHeartbeats 4000000 in
theorem right5_any (v : Value) (e : Ent.E) (w : World) (hv : IsEnt w v e) :
    Calls Try.prog 14 #[v] w fun x w' => x = .returned (.bool (Ent.right e)) ∧ Ext w w' := by
  have hbx := box_ent
  have hb0 := build_seq0
  obtain ⟨u, rfl, hu⟩ := hv
  obtain ⟨n, k, c, t, m, p⟩ := e
  unfold entV
  simp only at hu ⊢
  have HU := Lib.hid hu
  obtain ⟨a, cap, rfl, hcap, hmax, _, _⟩ := hu.open
  unfold maxLen at hmax
  clear hu
  have hE0 : Ext w (w.alloc (.cells #[.int .i64 n, .int .i64 k, .slice a c.length cap, .int .i64 t, .int .i64 m, .int .i64 p] 31)) := Ext.alloc _ _
  cases hn : decide (1 ≤ n ∧ n ≤ 1099511627776) with
  | false =>
    have HN := Lib.hid hn
    have HR := Lib.hid (Ent.right_no (k := k) (c := c) (t := t) (m := m) (p := p) hn)
    clear hn
    go_enter Try.func14, Try.ntmps14
    go_wp2_with fail
    refine (isBetween5_any _ _ _ _).mono ?_
    rw [HN.out]
    rintro e w1 ⟨rfl, rfl⟩
    go_wp2_with fail
    go_ret
    exact ⟨by rw [HR.out]; rfl, hE0⟩
  | true =>
    by_cases k1 : k = 1
    · subst k1
      have HN := Lib.hid hn
      have HR := Lib.hid (Ent.right_one (c := c) (t := t) (m := m) (p := p) hn)
      clear hn
      cases hv : Vec.right c with
      | false =>
        have HV := Lib.hid hv
        clear hv
        go_enter Try.func14, Try.ntmps14
        go_wp2_with fail
        refine (isBetween5_any _ _ _ _).mono ?_
        rw [HN.out]
        rintro e w1 ⟨rfl, rfl⟩
        go_wp2_with fail
        refine (right_any _ c _ (HU.out.below hE0)).mono ?_
        rw [HV.out]
        rintro e w1 ⟨rfl, rfl⟩
        go_wp2_with fail
        go_ret
        exact ⟨by rw [HR.out, HV.out]; rfl, hE0⟩
      | true =>
        have HV := Lib.hid hv
        clear hv
        by_cases t0 : t = 0
        · by_cases m0 : m = 0
          · by_cases p0 : p = 0
            · subst t0 m0 p0
              replace HR := Lib.hid (show Ent.right ⟨n, 1, c, 0, 0, 0⟩ = true by rw [HR.out, HV.out]; rfl)
              go_enter Try.func14, Try.ntmps14
              go_wp2_with fail
              refine (isBetween5_any _ _ _ _).mono ?_
              rw [HN.out]
              rintro e w1 ⟨rfl, rfl⟩
              go_wp2_with fail
              refine (right_any _ c _ (HU.out.below hE0)).mono ?_
              rw [HV.out]
              rintro e w1 ⟨rfl, rfl⟩
              go_wp2_with fail
              go_ret
              exact ⟨by rw [HR.out]; rfl, hE0⟩
            · subst t0 m0
              replace HR := Lib.hid (show Ent.right ⟨n, 1, c, 0, 0, p⟩ = false by rw [HR.out, HV.out]; simp [p0])
              go_enter Try.func14, Try.ntmps14
              go_wp2_with fail
              refine (isBetween5_any _ _ _ _).mono ?_
              rw [HN.out]
              rintro e w1 ⟨rfl, rfl⟩
              go_wp2_with fail
              refine (right_any _ c _ (HU.out.below hE0)).mono ?_
              rw [HV.out]
              rintro e w1 ⟨rfl, rfl⟩
              go_wp2_with fail
              go_ret
              exact ⟨by rw [HR.out]; rfl, hE0⟩
          · subst t0
            replace HR := Lib.hid (show Ent.right ⟨n, 1, c, 0, m, p⟩ = false by rw [HR.out, HV.out]; simp [m0])
            go_enter Try.func14, Try.ntmps14
            go_wp2_with fail
            refine (isBetween5_any _ _ _ _).mono ?_
            rw [HN.out]
            rintro e w1 ⟨rfl, rfl⟩
            go_wp2_with fail
            refine (right_any _ c _ (HU.out.below hE0)).mono ?_
            rw [HV.out]
            rintro e w1 ⟨rfl, rfl⟩
            go_wp2_with fail
            go_ret
            exact ⟨by rw [HR.out]; rfl, hE0⟩
        · replace HR := Lib.hid (show Ent.right ⟨n, 1, c, t, m, p⟩ = false by rw [HR.out, HV.out]; simp [t0])
          go_enter Try.func14, Try.ntmps14
          go_wp2_with fail
          refine (isBetween5_any _ _ _ _).mono ?_
          rw [HN.out]
          rintro e w1 ⟨rfl, rfl⟩
          go_wp2_with fail
          refine (right_any _ c _ (HU.out.below hE0)).mono ?_
          rw [HV.out]
          rintro e w1 ⟨rfl, rfl⟩
          go_wp2_with fail
          go_ret
          exact ⟨by rw [HR.out]; rfl, hE0⟩
    · by_cases k2 : k = 2
      · subst k2
        have HN := Lib.hid hn
        have HR := Lib.hid (Ent.right_two (c := c) (t := t) (m := m) (p := p) hn)
        clear hn
        by_cases hc : (c.length : Int) = 0
        · have HC := Lib.hid (show c.isEmpty = true by rw [isEmpty_len]; simpa using hc)
          cases ht : decide (0 ≤ t ∧ t ≤ 1073741824) with
          | false =>
            rw [HC.out, ht] at HR
            have HT := Lib.hid ht
            clear ht
            go_enter Try.func14, Try.ntmps14
            go_wp2_with fail
            refine (isBetween5_any _ _ _ _).mono ?_
            rw [HN.out]
            rintro e w1 ⟨rfl, rfl⟩
            go_wp2_with fail
            refine (isBetween5_any _ _ _ _).mono ?_
            rw [HT.out]
            rintro e w1 ⟨rfl, rfl⟩
            go_wp2_with fail
            go_ret
            exact ⟨by rw [HR.out]; rfl, hE0⟩
          | true =>
            cases hm : decide (1 ≤ m ∧ m ≤ 64) with
            | false =>
              rw [HC.out, ht, hm] at HR
              have HT := Lib.hid ht
              have HM := Lib.hid hm
              clear ht hm
              go_enter Try.func14, Try.ntmps14
              go_wp2_with fail
              refine (isBetween5_any _ _ _ _).mono ?_
              rw [HN.out]
              rintro e w1 ⟨rfl, rfl⟩
              go_wp2_with fail
              refine (isBetween5_any _ _ _ _).mono ?_
              rw [HT.out]
              rintro e w1 ⟨rfl, rfl⟩
              go_wp2_with fail
              refine (isBetween5_any _ _ _ _).mono ?_
              rw [HM.out]
              rintro e w1 ⟨rfl, rfl⟩
              go_wp2_with fail
              go_ret
              exact ⟨by rw [HR.out]; rfl, hE0⟩
            | true =>
              rw [HC.out, ht, hm] at HR
              have HT := Lib.hid ht
              have HM := Lib.hid hm
              clear ht hm
              go_enter Try.func14, Try.ntmps14
              go_wp2_with fail
              refine (isBetween5_any _ _ _ _).mono ?_
              rw [HN.out]
              rintro e w1 ⟨rfl, rfl⟩
              go_wp2_with fail
              refine (isBetween5_any _ _ _ _).mono ?_
              rw [HT.out]
              rintro e w1 ⟨rfl, rfl⟩
              go_wp2_with fail
              refine (isBetween5_any _ _ _ _).mono ?_
              rw [HM.out]
              rintro e w1 ⟨rfl, rfl⟩
              go_wp2_with fail
              refine (isBetween5_any _ _ _ _).mono ?_
              generalize decide (0 ≤ p ∧ p ≤ 1099511627776) = dp at *
              rintro e w1 ⟨rfl, rfl⟩
              cases dp <;> (go_wp2_with fail; go_ret; exact ⟨by rw [HR.out]; rfl, hE0⟩)
        · have HC := Lib.hid (show c.isEmpty = false by rw [isEmpty_len]; simpa using hc)
          rw [HC.out] at HR
          have hcb : ((c.length : Int) == 0) = false := by simpa using hc
          go_enter Try.func14, Try.ntmps14
          go_wp2_with fail
          refine (isBetween5_any _ _ _ _).mono ?_
          rw [HN.out]
          rintro e w1 ⟨rfl, rfl⟩
          go_wp2_with fail
          go_ret
          exact ⟨by rw [HR.out]; rfl, hE0⟩
      · have HN := Lib.hid hn
        have HR := Lib.hid (Ent.right_other (n := n) (c := c) (t := t) (m := m) (p := p) k1 k2)
        clear hn
        go_enter Try.func14, Try.ntmps14
        go_wp2_with fail
        refine (isBetween5_any _ _ _ _).mono ?_
        rw [HN.out]
        rintro e w1 ⟨rfl, rfl⟩
        go_wp2_with fail
        go_ret
        exact ⟨by rw [HR.out]; rfl, hE0⟩
end Go.Proofs.Ytboopfbflfimlaa
