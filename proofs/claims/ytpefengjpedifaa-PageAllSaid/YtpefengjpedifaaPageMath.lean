/-
  Layer 8, mathematics: frames, and with which ones bytes begin; no program.
-/
import Derived.Test.YtpefengjpedifaaRecMath
namespace Go.Proofs.Ytpefengjpedifaa.Page

def textOf (x : List UInt8) : List UInt8 := Pack.num x.length ++ x
def frame (x : List UInt8) : List UInt8 := textOf x ++ Crc.low (Crc.sum (textOf x))
def small (x : List UInt8) : Prop := x.length ≤ 65536
theorem frame_length (x : List UInt8) : (frame x).length = (Pack.num x.length).length + x.length + 4 := by
  unfold frame textOf
  rw [List.length_append, List.length_append, Crc.low_length]
theorem num_pos (n : Nat) : 1 ≤ (Pack.num n).length := by
  by_cases h : n < 128
  · rw [Pack.num_low h]; simp
  · rw [Pack.num_high h]; simp
theorem frame_pos (x : List UInt8) : 5 ≤ (frame x).length := by
  have := num_pos x.length
  rw [frame_length]
  omega
/-- The frame with which bytes begin. -/
def first (s : List UInt8) : Option (List UInt8) := if (Pack.St.text ⟨s, 0⟩ 65536).1.err = 0 ∧ (frame (Pack.St.text ⟨s, 0⟩ 65536).2).isPrefixOf s = true then some (Pack.St.text ⟨s, 0⟩ 65536).2 else none
theorem read_textOf {x : List UInt8} (h : small x) (r : List UInt8) : Pack.St.text ⟨textOf x ++ r, 0⟩ 65536 = (⟨r, 0⟩, x) := by
  unfold small at h
  unfold Pack.St.text textOf
  rw [List.append_assoc, Pack.read_num _ _ _ _ (by omega) (by omega)]
  simp only []
  rw [if_neg (by rw [List.length_append]; omega), List.take_left, List.drop_left]
theorem num_most (s : Pack.St) (most : Int) (h : 0 ≤ most) : ((s.num most).2 : Int) ≤ most := by
  unfold Pack.St.num
  split
  · exact h
  · split
    · exact h
    · split
      · exact h
      · rename_i h3
        unfold Pack.wrong at h3
        simp only
        omega
theorem text_small (s : Pack.St) : small (s.text 65536).2 := by
  have := num_most s 65536 (by omega)
  unfold small Pack.St.text
  simp only
  split
  · simp
  · simp only [List.length_take]
    omega
theorem first_iff {s x : List UInt8} : first s = some x ↔ small x ∧ frame x <+: s := by
  unfold first
  constructor
  · intro h
    split at h
    · rename_i hc
      injection h with h
      subst h
      exact ⟨text_small _, List.isPrefixOf_iff_prefix.1 hc.2⟩
    · cases h
  · rintro ⟨h1, r, rfl⟩
    have h2 : Pack.St.text ⟨frame x ++ r, 0⟩ 65536 = (⟨Crc.low (Crc.sum (textOf x)) ++ r, 0⟩, x) := by
      unfold frame
      rw [List.append_assoc]
      exact read_textOf h1 _
    rw [h2]
    rw [if_pos ⟨rfl, List.isPrefixOf_iff_prefix.2 ⟨r, rfl⟩⟩]
theorem frame_unique {x y s : List UInt8} (hx : small x) (hy : small y) (h1 : frame x <+: s) (h2 : frame y <+: s) : x = y := by
  have a := first_iff.2 ⟨hx, h1⟩
  have b := first_iff.2 ⟨hy, h2⟩
  rw [a] at b
  injection b
theorem first_frame {x : List UInt8} (h : small x) (r : List UInt8) : first (frame x ++ r) = some x := first_iff.2 ⟨h, r, rfl⟩
/-- A frame that is cut is none. -/
theorem first_cut {x : List UInt8} (h : small x) {n : Nat} (hn : n < (frame x).length) : first ((frame x).take n) = none := by
  cases hf : first ((frame x).take n) with
  | none => rfl
  | some y =>
    obtain ⟨h1, h2⟩ := first_iff.1 hf
    have h3 : frame y <+: frame x := h2.trans (List.take_prefix n _)
    have := frame_unique h1 h h3 (List.prefix_refl _)
    subst this
    have := h2.length_le
    rw [List.length_take] at this
    omega
/-- The frames with which bytes begin, and how many bytes they have. -/
def scanF : Nat → List UInt8 → List (List UInt8) × Nat
  | 0, _ => ([], 0)
  | k + 1, s => match first s with
    | none => ([], 0)
    | some x => (x :: (scanF k (s.drop (frame x).length)).1, (frame x).length + (scanF k (s.drop (frame x).length)).2)
theorem scanF_some {k : Nat} {s x : List UInt8} (h : first s = some x) : scanF (k + 1) s = (x :: (scanF k (s.drop (frame x).length)).1, (frame x).length + (scanF k (s.drop (frame x).length)).2) := by
  show (match first s with
    | none => ([], 0)
    | some x => (x :: (scanF k (s.drop (frame x).length)).1, (frame x).length + (scanF k (s.drop (frame x).length)).2)) = _
  rw [h]
def scan (s : List UInt8) : List (List UInt8) × Nat := scanF s.length s
theorem first_nil : first [] = none := by
  cases hf : first [] with
  | none => rfl
  | some x =>
    have h1 := (first_iff.1 hf).2.length_le
    have h2 := frame_pos x
    rw [List.length_nil] at h1
    omega
theorem scanF_more : ∀ (k : Nat) (s : List UInt8) (j : Nat), s.length ≤ k → s.length ≤ j → scanF k s = scanF j s := by
  intro k
  induction k with
  | zero =>
    intro s j hk hj
    obtain rfl := List.eq_nil_of_length_eq_zero (Nat.le_zero.1 hk)
    cases j with
    | zero => rfl
    | succ j => unfold scanF; rw [first_nil]
  | succ k ih =>
    intro s j hk hj
    cases j with
    | zero =>
      obtain rfl := List.eq_nil_of_length_eq_zero (Nat.le_zero.1 hj)
      unfold scanF
      rw [first_nil]
    | succ j =>
      unfold scanF
      cases hf : first s with
      | none => rfl
      | some x =>
        have hp := frame_pos x
        have hl : (s.drop (frame x).length).length = s.length - (frame x).length := List.length_drop
        simp only
        rw [ih _ j (by omega) (by omega)]
theorem scan_none {s : List UInt8} (h : first s = none) : scan s = ([], 0) := by
  unfold scan
  cases s.length with
  | zero => rfl
  | succ k => unfold scanF; rw [h]
theorem scan_some {s x : List UInt8} (h : first s = some x) : scan s = (x :: (scan (s.drop (frame x).length)).1, (frame x).length + (scan (s.drop (frame x).length)).2) := by
  have h1 := (first_iff.1 h).2.length_le
  have hp := frame_pos x
  have hl : (s.drop (frame x).length).length = s.length - (frame x).length := List.length_drop
  unfold scan
  rw [scanF_more s.length s (s.length + 1) (Nat.le_refl _) (by omega)]
  rw [scanF_some h, scanF_more s.length _ _ (by omega) (Nat.le_refl _)]
/-- Frames, one behind the other. -/
def bytes (l : List (List UInt8)) : List UInt8 := (l.map frame).flatten
theorem bytes_nil : bytes [] = [] := rfl
theorem bytes_cons (x : List UInt8) (l : List (List UInt8)) : bytes (x :: l) = frame x ++ bytes l := by simp [bytes]
theorem bytes_append (a b : List (List UInt8)) : bytes (a ++ b) = bytes a ++ bytes b := by simp [bytes]
theorem bytes_snoc (l : List (List UInt8)) (x : List UInt8) : bytes (l ++ [x]) = bytes l ++ frame x := by simp [bytes]
theorem scan_bytes : ∀ (l : List (List UInt8)) (r : List UInt8), (∀ x ∈ l, small x) → scan (bytes l ++ r) = (l ++ (scan r).1, (bytes l).length + (scan r).2) := by
  intro l
  induction l with
  | nil => intro r _; simp [bytes]
  | cons x l ih =>
    intro r h
    rw [bytes_cons, List.append_assoc, scan_some (first_frame (h x (by simp)) _), List.drop_left, ih r (fun y hy => h y (by simp [hy])), List.length_append]
    simp only [List.cons_append]
    rw [Nat.add_assoc]
theorem scan_all {l : List (List UInt8)} (h : ∀ x ∈ l, small x) : scan (bytes l) = (l, (bytes l).length) := by
  have := scan_bytes l [] h
  rw [List.append_nil, scan_none first_nil] at this
  rw [this]
  simp
/-- What is told is there: the frames' bytes are the first ones. -/
theorem scan_is : ∀ (k : Nat) (s : List UInt8), s.length ≤ k → (∀ x ∈ (scan s).1, small x) ∧ bytes (scan s).1 = s.take (scan s).2 ∧ (scan s).2 = (bytes (scan s).1).length := by
  intro k
  induction k with
  | zero =>
    intro s hk
    obtain rfl := List.eq_nil_of_length_eq_zero (Nat.le_zero.1 hk)
    rw [scan_none first_nil]
    exact ⟨fun x hx => (by cases hx), rfl, rfl⟩
  | succ k ih =>
    intro s hk
    cases hf : first s with
    | none => rw [scan_none hf]; exact ⟨fun x hx => (by cases hx), rfl, rfl⟩
    | some x =>
      obtain ⟨h1, r, rfl⟩ := first_iff.1 hf
      have hp := frame_pos x
      rw [List.length_append] at hk
      rw [scan_some hf, List.drop_left]
      obtain ⟨i1, i2, i3⟩ := ih r (by omega)
      refine ⟨?_, ?_, ?_⟩
      · intro y hy
        rcases List.mem_cons.1 hy with rfl | hy
        · exact h1
        · exact i1 y hy
      · simp only
        rw [bytes_cons, i2, List.take_length_add_append]
      · simp only
        rw [bytes_cons, List.length_append, i3]
/-- How many of the frames are whole among the first n bytes. -/
def whole : List (List UInt8) → Nat → Nat
  | [], _ => 0
  | x :: l, n => if (frame x).length ≤ n then whole l (n - (frame x).length) + 1 else 0
theorem whole_le : ∀ (l : List (List UInt8)) (n : Nat), whole l n ≤ l.length := by
  intro l
  induction l with
  | nil => intro n; exact Nat.le_refl _
  | cons x l ih =>
    intro n
    simp only [whole]
    split
    · have := ih (n - (frame x).length); simp only [List.length_cons]; omega
    · omega
theorem whole_all : ∀ (l : List (List UInt8)) (n : Nat), (bytes l).length ≤ n → whole l n = l.length := by
  intro l
  induction l with
  | nil => intro n _; rfl
  | cons x l ih =>
    intro n h
    rw [bytes_cons, List.length_append] at h
    simp only [whole]
    rw [if_pos (by omega), ih _ (by omega), List.length_cons]
/-- Of the first n bytes of frames these are found. -/
theorem scan_take : ∀ (l : List (List UInt8)) (n : Nat), (∀ x ∈ l, small x) → scan ((bytes l).take n) = (l.take (whole l n), (bytes (l.take (whole l n))).length) := by
  intro l
  induction l with
  | nil => intro n _; simp [bytes, whole, scan_none first_nil]
  | cons x l ih =>
    intro n h
    have hx := h x (by simp)
    rw [bytes_cons]
    simp only [whole]
    by_cases hn : (frame x).length ≤ n
    · rw [if_pos hn, List.take_succ_cons, bytes_cons]
      have ht : (frame x ++ bytes l).take n = frame x ++ (bytes l).take (n - (frame x).length) := by
        rw [List.take_append, List.take_of_length_le hn]
      rw [ht, scan_some (first_frame hx _), List.drop_left, ih _ (fun y hy => h y (by simp [hy])), List.length_append]
    · rw [if_neg hn, List.take_zero, bytes_nil]
      have ht : (frame x ++ bytes l).take n = (frame x).take n := List.take_append_of_le_length (by omega)
      rw [ht, scan_none (first_cut hx (by omega))]
      rfl
theorem whole_append (a b : List (List UInt8)) (n : Nat) : whole (a ++ b) ((bytes a).length + n) = a.length + whole b n := by
  induction a with
  | nil => simp [bytes]
  | cons x a ih =>
    rw [List.cons_append, bytes_cons, List.length_append, List.length_cons]
    simp only [whole]
    rw [if_pos (by omega), show (frame x).length + (bytes a).length + n - (frame x).length = (bytes a).length + n from by omega, ih]
    omega
/-- How many are whole: the most of which the bytes are no more. -/
theorem whole_iff : ∀ (l : List (List UInt8)) (n k : Nat), k ≤ l.length → ((bytes (l.take k)).length ≤ n ↔ k ≤ whole l n) := by
  intro l
  induction l with
  | nil => intro n k hk; simp at hk; subst hk; simp [bytes]
  | cons x l ih =>
    intro n k hk
    cases k with
    | zero => simp [bytes]
    | succ k =>
      rw [List.take_succ_cons, bytes_cons, List.length_append]
      simp only [whole]
      split
      · rename_i hn
        have := ih (n - (frame x).length) k (by simpa using hk)
        omega
      · omega
end Go.Proofs.Ytpefengjpedifaa.Page
