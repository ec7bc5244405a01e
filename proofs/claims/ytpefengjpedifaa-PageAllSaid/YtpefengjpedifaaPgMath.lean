/-
  Layer 8, mathematics: the frame with which bytes begin, as the program looks for it; places; a store as frames. No program.
-/
import Derived.Test.YtpefengjpedifaaPageMath
namespace Go.Proofs.Ytpefengjpedifaa.Page
set_option linter.unusedSimpArgs false
set_option linter.unusedVariables false

/-- The number with which bytes begin, of which nine are looked at. -/
def peek (b : List UInt8) : Pack.St × Nat := Pack.St.num ⟨b.take (min b.length 9), 0⟩ 65536
def headOf (b : List UInt8) : Nat := min b.length 9 - (peek b).1.left.length
def sizeOf (b : List UInt8) : Nat := headOf b + (peek b).2 + 4
theorem peek_ok {b : List UInt8} (h : (peek b).1.err = 0) : (∃ r, b = Pack.num (peek b).2 ++ r) ∧ headOf b = (Pack.num (peek b).2).length := by
  have h1 := Rec.num_left h
  simp only at h1
  have hm : (b.take (min b.length 9)).length = min b.length 9 := by simp
  have h2 : min b.length 9 = (Pack.num (peek b).2).length + (peek b).1.left.length := by
    rw [← hm, h1, List.length_append]
    rfl
  refine ⟨⟨(peek b).1.left ++ b.drop (min b.length 9), ?_⟩, by unfold headOf; omega⟩
  rw [← List.append_assoc]
  conv => lhs; rw [← List.take_append_drop (min b.length 9) b, h1]
  rfl
theorem peek_le (b : List UInt8) : (peek b).2 ≤ 65536 := by
  have := num_most ⟨b.take (min b.length 9), 0⟩ 65536 (by omega)
  unfold peek
  omega
theorem peek_left (b : List UInt8) : (peek b).1.left.length ≤ min b.length 9 := by
  unfold peek Pack.St.num Pack.St.fail
  split
  · simp
  · split
    · simp
    · split
      · simp
      · simp only [List.length_drop, List.length_take]
        omega
theorem peek_frame {x : List UInt8} (h : small x) (r : List UInt8) : (peek (frame x ++ r)).1.err = 0 ∧ (peek (frame x ++ r)).2 = x.length := by
  unfold small at h
  have h9 : (Pack.num x.length).length ≤ 9 := Pack.num_nine (by omega)
  have e : frame x ++ r = Pack.num x.length ++ (x ++ Crc.low (Crc.sum (textOf x)) ++ r) := by unfold frame textOf; simp
  have e2 : (frame x ++ r).take (min (frame x ++ r).length 9) = Pack.num x.length ++ (x ++ Crc.low (Crc.sum (textOf x)) ++ r).take (min (frame x ++ r).length 9 - (Pack.num x.length).length) := by
    rw [e, List.take_append, List.take_of_length_le]
    simp only [List.length_append]
    omega
  unfold peek
  rw [e2, Pack.read_num _ _ _ _ (by omega) (by omega)]
  exact ⟨rfl, rfl⟩
theorem first_wrong {b : List UInt8} (h : (peek b).1.err ≠ 0) : first b = none := by
  cases hf : first b with
  | none => rfl
  | some x =>
    obtain ⟨h1, r, rfl⟩ := first_iff.1 hf
    exact absurd (peek_frame h1 r).1 h
theorem frame_size {x : List UInt8} (h : small x) (r : List UInt8) : headOf (frame x ++ r) = (Pack.num x.length).length ∧ sizeOf (frame x ++ r) = (frame x).length := by
  obtain ⟨h1, h2⟩ := peek_frame h r
  have h3 := (peek_ok h1).2
  rw [h2] at h3
  refine ⟨h3, ?_⟩
  unfold sizeOf
  rw [h3, h2, frame_length]
theorem first_short {b : List UInt8} (h : b.length < sizeOf b) : first b = none := by
  cases hf : first b with
  | none => rfl
  | some x =>
    obtain ⟨h1, r, rfl⟩ := first_iff.1 hf
    rw [(frame_size h1 r).2, List.length_append] at h
    omega
theorem first_size {b x : List UInt8} (h : first b = some x) : sizeOf b = (frame x).length ∧ headOf b = (Pack.num x.length).length ∧ small x ∧ (frame x).length ≤ b.length := by
  obtain ⟨h1, r, rfl⟩ := first_iff.1 h
  exact ⟨(frame_size h1 r).2, (frame_size h1 r).1, h1, by simp⟩
theorem cut_len {c W : List UInt8} (h : Crc.cutOf c = some W) : W.length + 4 = c.length := by
  unfold Crc.cutOf at h
  split at h
  · cases h
  · split at h
    · injection h with h
      rw [← h, List.length_take]
      omega
    · cases h
theorem cut_frame {x : List UInt8} : Crc.cutOf (frame x) = some (textOf x) := Crc.cut_put _
theorem first_cutOf {b : List UInt8} (h0 : (peek b).1.err = 0) (h : sizeOf b ≤ b.length) : first b = (Crc.cutOf (b.take (sizeOf b))).map (List.drop (headOf b)) := by
  cases hf : first b with
  | some x =>
    obtain ⟨h1, r, rfl⟩ := first_iff.1 hf
    rw [(frame_size h1 r).1, (frame_size h1 r).2, List.take_left, cut_frame]
    simp [textOf]
  | none =>
    obtain ⟨⟨r, hb⟩, hh⟩ := peek_ok h0
    cases hc : Crc.cutOf (b.take (sizeOf b)) with
    | none => rfl
    | some W =>
      exfalso
      generalize hn : (peek b).2 = n at *
      have hle := peek_le b
      rw [hn] at hle
      have hsz : sizeOf b = (Pack.num n).length + n + 4 := by unfold sizeOf; rw [hh, hn]
      have hrl : n + 4 ≤ r.length := by
        rw [hsz, hb, List.length_append] at h
        omega
      have ht : b.take (sizeOf b) = Pack.num n ++ r.take (n + 4) := by
        rw [hsz, hb, List.take_append, List.take_of_length_le (by omega)]
        congr 2
        omega
      have htl : (b.take (sizeOf b)).length = (Pack.num n).length + n + 4 := by rw [List.length_take]; omega
      have hxn : (r.take n).length = n := by rw [List.length_take]; omega
      have h4 : (b.take (sizeOf b)).take ((b.take (sizeOf b)).length - 4) = textOf (r.take n) := by
        rw [htl, ht]
        unfold textOf
        rw [hxn, List.take_append, List.take_of_length_le (by omega), List.take_take]
        congr 2
        omega
      unfold Crc.cutOf at hc
      split at hc
      · cases hc
      · rw [h4] at hc
        split at hc
        · rename_i hq
          have : first b = some (r.take n) := first_iff.2 ⟨by unfold small; omega, by unfold frame; rw [hq]; exact List.take_prefix _ _⟩
          rw [this] at hf
          cases hf
        · cases hc

/-- Where the frames begin. -/
def offs (l : List (List UInt8)) : List Int := (List.range l.length).map fun i => (((bytes (l.take i)).length : Nat) : Int)
@[simp] theorem offs_length (l : List (List UInt8)) : (offs l).length = l.length := by simp [offs]
theorem offs_get (l : List (List UInt8)) (i : Nat) (h : i < (offs l).length) : (offs l)[i] = (((bytes (l.take i)).length : Nat) : Int) := by simp [offs]
theorem offs_snoc (l : List (List UInt8)) (x : List UInt8) : offs (l ++ [x]) = offs l ++ [(((bytes l).length : Nat) : Int)] := by
  unfold offs
  rw [List.length_append, List.length_singleton, List.range_succ, List.map_append]
  congr 1
  · refine List.map_congr_left fun i hi => ?_
    rw [List.take_append_of_le_length (by have := List.mem_range.1 hi; omega)]
  · simp
theorem bytes_take_lt (l : List (List UInt8)) {i j : Nat} (hij : i < j) (hj : j ≤ l.length) : (bytes (l.take i)).length < (bytes (l.take j)).length := by
  have e : l.take j = l.take i ++ (l.take j).drop i := by
    conv => lhs; rw [← List.take_append_drop i (l.take j), List.take_take, Nat.min_eq_left (by omega)]
  have hne : 0 < ((l.take j).drop i).length := by simp; omega
  rw [e, bytes_append, List.length_append]
  cases hd : (l.take j).drop i with
  | nil => rw [hd] at hne; simp at hne
  | cons y m =>
    have := frame_pos y
    rw [bytes_cons, List.length_append]
    omega
theorem bytes_take_le (l : List (List UInt8)) (i : Nat) : (bytes (l.take i)).length ≤ (bytes l).length := by
  conv => rhs; rw [← List.take_append_drop i l, bytes_append, List.length_append]
  omega
theorem count_le (l : List (List UInt8)) : 5 * l.length ≤ (bytes l).length := by
  induction l with
  | nil => simp
  | cons x l ih =>
    have := frame_pos x
    rw [bytes_cons, List.length_append, List.length_cons]
    omega
/-- Where the frames end. -/
def ends (l : List (List UInt8)) : List Nat := (List.range l.length).map fun i => (bytes (l.take (i + 1))).length
@[simp] theorem ends_length (l : List (List UInt8)) : (ends l).length = l.length := by simp [ends]
theorem ends_snoc (l : List (List UInt8)) (x : List UInt8) : ends (l ++ [x]) = ends l ++ [(bytes l).length + (frame x).length] := by
  unfold ends
  rw [List.length_append, List.length_singleton, List.range_succ, List.map_append]
  congr 1
  · refine List.map_congr_left fun i hi => ?_
    rw [List.take_append_of_le_length (by have := List.mem_range.1 hi; omega)]
  · rw [List.map_singleton, List.take_of_length_le (by simp), bytes_snoc, List.length_append]
theorem scan_more {m : List (List UInt8)} {l r : List UInt8} (hl : l = bytes m ++ r) (hm : ∀ x ∈ m, small x) (h : first r = none) : (scan l).1 = m ∧ (scan l).2 = (bytes m).length := by
  rw [hl, scan_bytes m r hm, scan_none h]
  simp
/-- What the frame that begins at a place has. -/
def readAt (l : List (List UInt8)) (n : Int) : Option (List UInt8) := ((List.range l.length).find? fun i => (((bytes (l.take i)).length : Nat) : Int) == n).bind (l[·]?)
theorem readAt_some (l : List (List UInt8)) (i : Nat) (h : i < l.length) (n : Int) (hn : n = (((bytes (l.take i)).length : Nat) : Int)) : readAt l n = some l[i] := by
  have : (List.range l.length).find? (fun i => (((bytes (l.take i)).length : Nat) : Int) == n) = some i := by
    rw [List.find?_eq_some_iff_getElem]
    refine ⟨by simp [hn], i, by simpa using h, by simp, fun j hj => ?_⟩
    have := bytes_take_lt l hj (by omega)
    simp [hn]
    omega
  unfold readAt
  rw [this]
  simp [h]
theorem readAt_none (l : List (List UInt8)) (n : Int) (h : ∀ i, i < l.length → (((bytes (l.take i)).length : Nat) : Int) ≠ n) : readAt l n = none := by
  have : (List.range l.length).find? (fun i => (((bytes (l.take i)).length : Nat) : Int) == n) = none := by
    rw [List.find?_eq_none]
    intro i hi
    simpa using h i (List.mem_range.1 hi)
  unfold readAt
  rw [this]
  rfl
theorem bytes_drop (l : List (List UInt8)) (i : Nat) (h : i < l.length) : (bytes l).drop (bytes (l.take i)).length = frame l[i] ++ bytes (l.drop (i + 1)) := by
  have e : l = l.take i ++ (l[i] :: l.drop (i + 1)) := by
    conv => lhs; rw [← List.take_append_drop i l, List.drop_eq_getElem_cons h]
  conv => lhs; rw [e]
  rw [bytes_append, List.take_left' (by simp; omega), List.drop_left, bytes_cons]

/-- A store: frames, how many of them are synced, whether it is off. -/
structure St where
  l : List (List UInt8)
  k : Nat
  off : Bool
def St.syn (S : St) : Nat := (bytes (S.l.take S.k)).length
structure St.Ok (S : St) : Prop where
  small : ∀ x ∈ S.l, small x
  le : S.k ≤ S.l.length
  max : (bytes S.l).length ≤ 65536
def fromBytes (b : List UInt8) : St := ⟨(scan (b.take 65536)).1, (scan (b.take 65536)).1.length, false⟩
theorem fromBytes_ok (b : List UInt8) : (fromBytes b).Ok := by
  obtain ⟨h1, h2, h3⟩ := scan_is _ (b.take 65536) (Nat.le_refl _)
  refine ⟨h1, Nat.le_refl _, ?_⟩
  show (bytes (scan (b.take 65536)).1).length ≤ 65536
  rw [h2]
  simp
  omega
/-- Is there room for a frame more? -/
def room (S : St) (b : List UInt8) : Bool := decide ((bytes S.l).length + (frame b).length ≤ 65536)
def St.append (S : St) (b : List UInt8) : St := if S.off then S else if room S b then ⟨S.l ++ [b], S.k, S.off⟩ else S
def St.appendErr (S : St) (b : List UInt8) : Int := if S.off then 81 else if room S b then 0 else 80
def St.appendAt (S : St) (b : List UInt8) : Nat := if S.off then 0 else if room S b then (bytes S.l).length else 0
def St.sync (S : St) : St := if S.off then S else ⟨S.l, S.l.length, S.off⟩
/-- How many bytes stay behind a crash. -/
def St.stay (S : St) (keep : Int) : Nat := S.syn + min keep.toNat ((bytes S.l).length - S.syn)
def St.crash (S : St) (keep : Int) : St := ⟨S.l.take (whole S.l (S.stay keep)), whole S.l (S.stay keep), false⟩
theorem syn_le (S : St) : S.syn ≤ (bytes S.l).length := bytes_take_le _ _
theorem stay_le (S : St) (keep : Int) : S.stay keep ≤ (bytes S.l).length := by
  have := syn_le S
  unfold St.stay
  omega
theorem St.Ok.append {S : St} (h : S.Ok) (b : List UInt8) : (S.append b).Ok := by
  unfold St.append
  split
  · exact h
  · split
    · rename_i hr
      have hr' := of_decide_eq_true hr
      refine ⟨?_, ?_, ?_⟩
      · intro x hx
        rcases List.mem_append.1 hx with hx | hx
        · exact h.small x hx
        · obtain rfl := List.mem_singleton.1 hx
          unfold Page.small
          have := frame_length x
          omega
      · show S.k ≤ (S.l ++ [b]).length
        have := h.le
        simp
        omega
      · show (bytes (S.l ++ [b])).length ≤ 65536
        rw [bytes_snoc, List.length_append]
        exact hr'
    · exact h
theorem St.Ok.sync {S : St} (h : S.Ok) : S.sync.Ok := by
  unfold St.sync
  split
  · exact h
  · exact ⟨h.small, Nat.le_refl _, h.max⟩
theorem St.Ok.crash {S : St} (h : S.Ok) (keep : Int) : (S.crash keep).Ok := by
  refine ⟨fun x hx => h.small x (List.mem_of_mem_take hx), ?_, Nat.le_trans (bytes_take_le _ _) h.max⟩
  show whole S.l (S.stay keep) ≤ (S.l.take (whole S.l (S.stay keep))).length
  have := whole_le S.l (S.stay keep)
  simp
  omega
theorem scan_stay {S : St} (h : S.Ok) (keep : Int) : scan ((bytes S.l).take (S.stay keep)) = ((S.crash keep).l, (bytes (S.crash keep).l).length) := scan_take S.l _ h.small
theorem crash_syn {S : St} (keep : Int) : (S.crash keep).syn = (bytes (S.crash keep).l).length := by
  unfold St.syn St.crash
  simp only
  rw [List.take_take, Nat.min_self]
/-- What is synced stays. -/
theorem crash_ge {S : St} (h : S.Ok) (keep : Int) : S.k ≤ whole S.l (S.stay keep) := by
  rw [← whole_iff _ _ _ h.le]
  unfold St.stay St.syn
  omega
theorem syn_scan {S : St} (h : S.Ok) : fromBytes (bytes (S.l.take S.k)) = ⟨S.l.take S.k, S.k, false⟩ := by
  have hm := h.max
  have h1 := bytes_take_le S.l S.k
  unfold fromBytes
  rw [List.take_of_length_le (by omega), scan_all (fun x hx => h.small x (List.mem_of_mem_take hx))]
  have := h.le
  simp
  omega
end Go.Proofs.Ytpefengjpedifaa.Page
