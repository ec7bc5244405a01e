/-
  Merged: Layer 9, mathematics: one record more, whatever stands.
-/
import Derived.Test.YtfgjhagfpafmoaaSgRow

set_option linter.unusedSimpArgs false
set_option linter.unusedVariables false

/- Layer 9, mathematics: one record more, whatever stands. (No function of the program.) -/
namespace Go.Proofs.Ytfgjhagfpafmoaa.Seg
set_option linter.unusedSimpArgs false
set_option linter.unusedVariables false

/-- A Trim of what is there, whatever is trimmed. -/
theorem trim_step {G : Sg} {l : List Rec.R} {t : Nat} (hok : G.s.Ok) (hw : G.w = ⟨l, t, false⟩) (ho : G.s.off = false) (hb : (Page.bytes G.s.l).length + 40 ≤ 65536) (hl : l.length ≤ 50) (m : Nat) (hm : m ≤ l.length) :
    G.trimErr (m : Int) = 0 ∧ (G.trim (m : Int)).w = ⟨l, max t m, false⟩ ∧ (G.trim (m : Int)).s.off = false ∧ (Page.bytes (G.trim (m : Int)).s.l).length ≤ (Page.bytes G.s.l).length + 23 := by
  have htc : G.tcase (m : Int) = if m ≤ t then .done else .next := by
    unfold Sg.tcase Sg.len
    rw [hw]
    show (if (m : Int) < 0 ∨ (l.length : Int) < (m : Int) then TCase.bad else if (m : Int) ≤ (t : Int) then .done else if false = true then .full else .next) = _
    rw [if_neg (by omega)]
    by_cases h : m ≤ t
    · rw [if_pos h, if_pos (by omega)]
    · rw [if_neg h, if_neg (by omega), if_neg (by decide)]
  by_cases h : m ≤ t
  · rw [if_pos h] at htc
    have e : G.trim (m : Int) = G := by unfold Sg.trim; rw [htc]
    have e2 : G.trimErr (m : Int) = 0 := by unfold Sg.trimErr; rw [htc]
    rw [e, e2, hw, Nat.max_eq_left h]
    exact ⟨rfl, rfl, ho, by omega⟩
  · rw [if_neg h] at htc
    have h9 : (Pack.num m).length ≤ 9 := Pack.num_nine (by omega)
    have hf : (trimFrame m).length ≤ 10 := by unfold trimFrame; simp only [List.length_cons]; omega
    obtain ⟨r1, r2, r3⟩ := room_ok (S := G.s) (b := trimFrame m) ho (by omega)
    have e : G.trim (m : Int) = ⟨G.s.append (trimFrame m), G.safe⟩ := by unfold Sg.trim; rw [htc]; rfl
    have e2 : G.trimErr (m : Int) = 0 := by unfold Sg.trimErr; rw [htc]; exact r2
    have hw' : readF G.s.l = ⟨l, t, false⟩ := hw
    have hw2 : (⟨G.s.append (trimFrame m), G.safe⟩ : Sg).w = ⟨(readF G.s.l).l, m, false⟩ := trim_w (S := G.s) hok (by rw [hw']) (by rw [hw']; show t ≤ m; omega) (by rw [hw']; exact hm) r2
    rw [e, e2, hw2, hw', Nat.max_eq_right (by omega)]
    refine ⟨rfl, rfl, ?_, Nat.le_trans r3 (by omega)⟩
    show (G.s.append (trimFrame m)).off = false
    rw [append_off]
    exact ho
theorem get_step {G : Sg} {l : List Rec.R} {t : Nat} (hw : G.w = ⟨l, t, false⟩) (k : Nat) (hk : k < l.length) : G.getErr (k : Int) = (if k < t then 92 else 0) ∧ (t ≤ k → G.getRec (k : Int) = l[k]) := by
  refine ⟨?_, fun h => ?_⟩
  · unfold Sg.getErr Sg.len
    rw [hw]
    show (if (k : Int) < 0 ∨ (l.length : Int) ≤ (k : Int) then 91 else if (k : Int) < (t : Int) then 92 else 0) = _
    rw [if_neg (by omega)]
    by_cases h : k < t
    · rw [if_pos h, if_pos (by omega)]
    · rw [if_neg h, if_neg (by omega)]
  · unfold Sg.getRec Sg.len
    rw [hw]
    show (if (k : Int) < 0 ∨ (l.length : Int) ≤ (k : Int) then zeroR else if (k : Int) < (t : Int) then zeroR else l.getD (k : Int).toNat zeroR) = _
    rw [if_neg (by omega), if_neg (by omega), Int.toNat_natCast, List.getD_eq_getElem?_getD, List.getElem?_eq_getElem hk]
    rfl
end Go.Proofs.Ytfgjhagfpafmoaa.Seg
