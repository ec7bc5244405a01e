/-
  Merged: Layer 9, mathematics: one record more, whatever stands.
-/
import Derived.Test.YtpefengjpedifaaSgRow

set_option linter.unusedSimpArgs false
set_option linter.unusedVariables false

/- Layer 9, mathematics: one record more, whatever stands. (No function of the program.) -/
namespace Go.Proofs.Ytpefengjpedifaa.Seg
set_option linter.unusedSimpArgs false
set_option linter.unusedVariables false

/-- One more onto whatever stands: there is one more, or it is full. -/
theorem full_step {G : Sg} {r : Rec.R} (ho : G.s.off = false) (hb : G.w.broken = false) (hl : G.len ≤ 512) (hr : Rec.right r = true) :
    (G.appErr (G.len : Int) r = 0 ∧ (G.app (G.len : Int) r).len = G.len + 1 ∧ G.len + 1 ≤ 512 ∧ (G.app (G.len : Int) r).s.off = false ∧ (G.app (G.len : Int) r).w.broken = false) ∨ ((G.appErr (G.len : Int) r = 90 ∨ G.appErr (G.len : Int) r = 80) ∧ G.app (G.len : Int) r = G) := by
  by_cases h512 : 512 ≤ G.len
  · have hc : G.case (G.len : Int) r = .full := by
      unfold Sg.case
      rw [if_neg (by rintro (h1 | h1); omega; rw [hr] at h1; cases h1), if_neg (by omega), if_neg (by omega), if_pos (.inr h512)]
    exact .inr ⟨.inl (by unfold Sg.appErr; rw [hc]), by unfold Sg.app; rw [hc]⟩
  · have hc : G.case (G.len : Int) r = .next := by
      unfold Sg.case
      rw [if_neg (by rintro (h1 | h1); omega; rw [hr] at h1; cases h1), if_neg (by omega), if_neg (by omega), if_neg (by rintro (h1 | h1); rw [hb] at h1; cases h1; omega)]
    have e1 : G.appErr (G.len : Int) r = G.s.appendErr (recFrame r) := by unfold Sg.appErr; rw [hc]
    have e2 : G.app (G.len : Int) r = ⟨G.s.append (recFrame r), G.safe⟩ := by unfold Sg.app; rw [hc]
    rw [e1, e2]
    cases hroom : Page.room G.s (recFrame r) with
    | true =>
      have he : G.s.appendErr (recFrame r) = 0 := by unfold Page.St.appendErr; rw [ho, hroom]; rfl
      have hw : (⟨G.s.append (recFrame r), G.safe⟩ : Sg).w = ⟨G.w.l ++ [r], G.w.trimmed, false⟩ := next_w (S := G.s) hb hr he
      refine .inl ⟨he, ?_, by omega, ?_, by rw [hw]⟩
      · unfold Sg.len
        rw [hw]
        simp
      · show (G.s.append (recFrame r)).off = false
        rw [append_off]
        exact ho
    | false =>
      have he : G.s.appendErr (recFrame r) = 80 := by unfold Page.St.appendErr; rw [ho, hroom]; rfl
      refine .inr ⟨.inr he, ?_⟩
      rw [same_w (by rw [he]; decide)]
theorem bad_step {G : Sg} {r : Rec.R} (n : Int) (hr : Rec.right r = false) : G.appErr n r = 1 ∧ G.app n r = G := by
  have hc : G.case n r = .bad := by
    unfold Sg.case
    rw [if_pos (.inr hr)]
  exact ⟨by unfold Sg.appErr; rw [hc], by unfold Sg.app; rw [hc]⟩
end Go.Proofs.Ytpefengjpedifaa.Seg
