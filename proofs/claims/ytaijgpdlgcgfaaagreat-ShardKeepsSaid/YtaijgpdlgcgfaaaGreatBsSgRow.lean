/-
  Merged: Layer 9, mathematics: a segment of so many records, from an empty store, none synced.
-/
import Derived.Test.YtaijgpdlgcgfaaaGreatBsMath

set_option linter.unusedSimpArgs false
set_option linter.unusedVariables false

/- Layer 9, mathematics: a segment of so many records, from an empty store, none synced; trimmed. (No function of the program.) -/
namespace Go.Proofs.YtaijgpdlgcgfaaaGreat.Seg
set_option linter.unusedSimpArgs false
set_option linter.unusedVariables false

theorem room_ok {S : Page.St} {b : List UInt8} (ho : S.off = false) (h : (Page.bytes S.l).length + b.length + 13 ≤ 65536) :
    S.append b = ⟨S.l ++ [b], S.k, false⟩ ∧ S.appendErr b = 0 ∧ (Page.bytes (S.append b).l).length ≤ (Page.bytes S.l).length + b.length + 13 := by
  have h9 : (Pack.num b.length).length ≤ 9 := Pack.num_nine (by omega)
  have hf : (Page.frame b).length = (Pack.num b.length).length + b.length + 4 := Page.frame_length b
  have hr : Page.room S b = true := by
    unfold Page.room
    exact decide_eq_true (by omega)
  have e1 : S.append b = ⟨S.l ++ [b], S.k, false⟩ := by unfold Page.St.append; rw [ho, hr]; rfl
  refine ⟨e1, by unfold Page.St.appendErr; rw [ho, hr]; rfl, ?_⟩
  rw [e1]
  show (Page.bytes (S.l ++ [b])).length ≤ _
  rw [Page.bytes_snoc, List.length_append]
  omega
def row (l : List Rec.R) : Sg := ⟨⟨l.map recFrame, 0, false⟩, 0⟩
def cut (l : List Rec.R) (n : Nat) : Sg := ⟨⟨l.map recFrame ++ [trimFrame n], 0, false⟩, 0⟩
theorem row_nil : ofStore (Page.fromBytes []) = row [] := by
  have : Page.fromBytes [] = ⟨[], 0, false⟩ := by
    unfold Page.fromBytes
    rw [show ([] : List UInt8).take 65536 = [] from rfl]
    rw [Page.scan_none (by
      cases h : Page.first [] with
      | none => rfl
      | some x =>
        have h1 := (Page.first_size h).2.2.2
        have h2 := Page.frame_pos x
        simp only [List.length_nil] at h1
        omega)]
    rfl
  rw [this]
  rfl
theorem row_w {l : List Rec.R} (h : ∀ r ∈ l, Rec.right r = true) : (row l).w = ⟨l, 0, false⟩ := readF_recs l h
theorem recFrame_len {r : Rec.R} (h : Rec.right r = true) : (recFrame r).length ≤ 1137 := by
  have := Rec.enc_le h
  unfold recFrame
  simp only [List.length_cons]
  omega
theorem row_bytes : ∀ {l : List Rec.R}, (∀ r ∈ l, Rec.right r = true) → (Page.bytes (l.map recFrame)).length ≤ l.length * 1150 := by
  intro l
  induction l with
  | nil =>
    intro _
    have e : Page.bytes ([] : List (List UInt8)) = [] := rfl
    simp [e]
  | cons r l ih =>
    intro h
    have h1 := ih (fun x hx => h x (by simp [hx]))
    have h2 := recFrame_len (h r (by simp))
    have h9 : (Pack.num (recFrame r).length).length ≤ 9 := Pack.num_nine (by omega)
    have hf := Page.frame_length (recFrame r)
    rw [List.map_cons, Page.bytes_cons, List.length_append, List.length_cons]
    omega
theorem row_len {l : List Rec.R} (h : ∀ r ∈ l, Rec.right r = true) : (row l).len = l.length := by
  unfold Sg.len
  rw [row_w h]
/-- One more. -/
theorem row_app {l : List Rec.R} {r : Rec.R} (h : ∀ x ∈ l, Rec.right x = true) (hr : Rec.right r = true) (hl : l.length ≤ 50) : (row l).appErr (l.length : Int) r = 0 ∧ (row l).app (l.length : Int) r = row (l ++ [r]) := by
  have hc : (row l).case (l.length : Int) r = .next := by
    unfold Sg.case
    rw [row_len h, row_w h, if_neg (by rintro (h1 | h1); omega; rw [hr] at h1; cases h1), if_neg (by omega), if_neg (by omega), if_neg (by rintro (h1 | h1); cases h1; omega)]
  have hb := row_bytes h
  have hf := recFrame_len hr
  obtain ⟨e1, e2, _⟩ := room_ok (S := (row l).s) (b := recFrame r) rfl (by show (Page.bytes (l.map recFrame)).length + _ + 13 ≤ 65536; omega)
  refine ⟨?_, ?_⟩
  · unfold Sg.appErr
    rw [hc]
    exact e2
  · unfold Sg.app
    rw [hc]
    show (⟨(row l).s.append (recFrame r), 0⟩ : Sg) = row (l ++ [r])
    rw [e1]
    unfold row
    simp
end Go.Proofs.YtaijgpdlgcgfaaaGreat.Seg
