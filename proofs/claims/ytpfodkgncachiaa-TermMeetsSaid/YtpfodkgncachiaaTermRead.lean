/-
  Layer 6, mathematics: bytes as configurations, read part by part, each up to some bound: whatever the bounds are (great enough), the same are read.
-/
import Derived.Test.YtpfodkgncachiaaTermMath
import Derived.Test.YtpfodkgncachiaaRecMath
namespace Go.Proofs.Ytpfodkgncachiaa.Term

/-- A row of at most so many numbers, each of at most so much. -/
def gRow (m nd : Int) (s : Pack.St) : Pack.St × List Int := Rec.readsM nd (s.num m).1 (s.num m).2
def gRows (m nd : Int) (s : Pack.St) : Nat → Pack.St × List (List Int)
  | 0 => (s, [])
  | k + 1 => ((gRow m nd (gRows m nd s k).1).1, (gRows m nd s k).2 ++ [(gRow m nd (gRows m nd s k).1).2])
theorem gRows_len (m nd : Int) (s : Pack.St) (k : Nat) : (gRows m nd s k).2.length = k := by
  induction k with
  | zero => rfl
  | succ k ih => simp [gRows, ih]
theorem gRow_len (m nd : Int) (s : Pack.St) : (gRow m nd s).2.length = (s.num m).2 := Rec.readsM_len _ _ _
def gA (l : List UInt8) : Pack.St × Nat := Pack.St.num ⟨l, 0⟩ 64
def gB (m1 nd : Int) (l : List UInt8) : Pack.St × List Int := gRow m1 nd (gA l).1
def gC (m1 nd : Int) (l : List UInt8) : Pack.St × Nat := (gB m1 nd l).1.num 8
def gD (m1 m2 nd : Int) (l : List UInt8) : Pack.St × List (List Int) := gRows m2 nd (gC m1 nd l).1 (gC m1 nd l).2
def gread (m1 m2 nd : Int) (l : List UInt8) : C := ⟨(gA l).2, (gB m1 nd l).2, (gD m1 m2 nd l).2⟩
def gok (m1 m2 nd : Int) (l : List UInt8) : Bool := ((gD m1 m2 nd l).1.done == 0) && right (gread m1 m2 nd l)

theorem gRow_ref (s : Pack.St) : gRow 16 16 s = readRow s := rfl
theorem gRows_ref (s : Pack.St) (k : Nat) : gRows 16 16 s k = readRows s k := by
  induction k with
  | zero => rfl
  | succ k ih => simp only [gRows, readRows, ih, gRow_ref]
theorem gok_ref (l : List UInt8) : gok 16 16 16 l = readOk l := by
  have h : gD 16 16 16 l = stD l := gRows_ref _ _
  unfold gok readOk gread read
  rw [h]
  rfl
theorem gread_ref (l : List UInt8) : gread 16 16 16 l = read l := by
  have h : gD 16 16 16 l = stD l := gRows_ref _ _
  unfold gread read
  rw [h]
  rfl

theorem gRow_back {m nd : Int} {l : List Int} (h : ∀ x ∈ l, 0 ≤ x ∧ x ≤ 15) (hm : (l.length : Int) ≤ m) (hn : 15 ≤ nd) (h16 : l.length ≤ 16) (r : List UInt8) : gRow m nd ⟨row l ++ r, 0⟩ = (⟨r, 0⟩, l) := by
  unfold gRow row
  rw [List.append_assoc, Pack.read_num _ _ _ _ (by omega) (by omega)]
  have := Rec.reads_back nd l (fun x hx => by have := h x hx; omega) r l.length (Nat.le_refl _)
  rw [List.drop_length, List.take_length] at this
  exact this
theorem gRows_back {m nd : Int} (hm : 3 ≤ m) (hn : 15 ≤ nd) (ls : List (List Int)) (h : ∀ l ∈ ls, okShard l = true) (r : List UInt8) : ∀ k, k ≤ ls.length → gRows m nd ⟨rowsOf ls ++ r, 0⟩ k = (⟨rowsOf (ls.drop k) ++ r, 0⟩, ls.take k) := by
  intro k
  induction k with
  | zero => intro _; simp [gRows]
  | succ k ih =>
    intro hk
    have hlt : k < ls.length := by omega
    obtain ⟨h1, h2, h3⟩ := shard_ok (h _ (List.getElem_mem hlt))
    have hd : ls.drop k = ls[k] :: ls.drop (k + 1) := by rw [List.drop_eq_getElem_cons hlt]
    unfold gRows
    rw [ih (by omega), hd, rowsOf_cons, List.append_assoc]
    rw [gRow_back (unlike_ok h3).1 (by omega) hn (by omega), List.take_succ_eq_append_getElem hlt]
theorem gread_text {m1 m2 nd : Int} (hm1 : 7 ≤ m1) (hm2 : 3 ≤ m2) (hn : 15 ≤ nd) {c : C} (h : right c = true) : (gD m1 m2 nd (text c)).1 = ⟨[], 0⟩ ∧ gread m1 m2 nd (text c) = c := by
  obtain ⟨h1, h2, h3, h4, h5⟩ := right_ok h
  have hA : gA (text c) = (⟨row c.seqs ++ (Pack.num c.shards.length ++ rowsOf c.shards), 0⟩, c.term.toNat) := Pack.read_num _ _ _ _ (by omega) (by omega)
  have hB : gB m1 nd (text c) = (⟨Pack.num c.shards.length ++ rowsOf c.shards, 0⟩, c.seqs) := by
    unfold gB; rw [hA]; exact gRow_back (unlike_ok h5).1 (by omega) hn (by omega) _
  have hC : gC m1 nd (text c) = (⟨rowsOf c.shards, 0⟩, c.shards.length) := by
    unfold gC; rw [hB]; exact Pack.read_num _ _ _ _ (by omega) (by omega)
  have hD : gD m1 m2 nd (text c) = (⟨[], 0⟩, c.shards) := by
    unfold gD; rw [hC]
    have := gRows_back hm2 hn c.shards h3 [] c.shards.length (Nat.le_refl _)
    rw [List.drop_length, List.take_length, List.append_nil] at this
    exact this
  refine ⟨by rw [hD], ?_⟩
  unfold gread
  rw [hA, hB, hD]
  obtain ⟨t, s, d⟩ := c
  simp only at h1 ⊢
  rw [show ((t.toNat : Nat) : Int) = t from by omega]
theorem gok_text {m1 m2 nd : Int} (hm1 : 7 ≤ m1) (hm2 : 3 ≤ m2) (hn : 15 ≤ nd) {c : C} (h : right c = true) : gok m1 m2 nd (text c) = true := by
  unfold gok
  rw [(gread_text hm1 hm2 hn h).1, (gread_text hm1 hm2 hn h).2, h]
  rfl

/-! What is read is written as the same bytes. -/
theorem gRow_err {m nd : Int} {s : Pack.St} (h : (gRow m nd s).1.err = 0) : s.err = 0 := Rec.num_err (Rec.reads_err _ h)
theorem gRow_left {m nd : Int} {s : Pack.St} (h : (gRow m nd s).1.err = 0) : s.left = row (gRow m nd s).2 ++ (gRow m nd s).1.left := by
  have h1 := Rec.reads_err _ h
  have l1 := Rec.num_left h1
  have l2 := Rec.reads_left _ h
  unfold row
  rw [gRow_len, List.append_assoc]
  show s.left = Pack.num (s.num m).2 ++ (Rec.numsOf (Rec.readsM nd (s.num m).1 (s.num m).2).2 ++ (Rec.readsM nd (s.num m).1 (s.num m).2).1.left)
  rw [← l2]
  exact l1
theorem gRows_err {m nd : Int} {s : Pack.St} : ∀ k, (gRows m nd s k).1.err = 0 → s.err = 0 := by
  intro k
  induction k with
  | zero => intro h; exact h
  | succ k ih => intro h; exact ih (gRow_err h)
theorem gRows_left {m nd : Int} {s : Pack.St} : ∀ k, (gRows m nd s k).1.err = 0 → s.left = rowsOf (gRows m nd s k).2 ++ (gRows m nd s k).1.left := by
  intro k
  induction k with
  | zero => intro _; simp [gRows, rowsOf]
  | succ k ih =>
    intro h
    have h1 : (gRow m nd (gRows m nd s k).1).1.err = 0 := h
    have l1 := gRow_left h1
    have l2 := ih (gRow_err h1)
    show _ = rowsOf ((gRows m nd s k).2 ++ [(gRow m nd (gRows m nd s k).1).2]) ++ (gRow m nd (gRows m nd s k).1).1.left
    rw [rowsOf_snoc, List.append_assoc, ← l1]
    exact l2
theorem text_gread {m1 m2 nd : Int} {l : List UInt8} (h : gok m1 m2 nd l = true) : text (gread m1 m2 nd l) = l := by
  unfold gok at h
  rw [Bool.and_eq_true, beq_iff_eq] at h
  obtain ⟨hd, hr⟩ := h
  obtain ⟨d1, d2⟩ := Rec.done_zero hd
  have eD : (gRows m2 nd (gC m1 nd l).1 (gC m1 nd l).2).1.err = 0 := d2
  have eC : ((gB m1 nd l).1.num 8).1.err = 0 := gRows_err _ eD
  have eB : (gRow m1 nd (gA l).1).1.err = 0 := Rec.num_err eC
  have eA : (Pack.St.num ⟨l, 0⟩ 64).1.err = 0 := gRow_err eB
  have lD0 := gRows_left _ eD
  have lD : (gC m1 nd l).1.left = rowsOf (gD m1 m2 nd l).2 := by
    rw [lD0]
    show rowsOf (gD m1 m2 nd l).2 ++ (gD m1 m2 nd l).1.left = _
    rw [d1, List.append_nil]
  have lC : (gB m1 nd l).1.left = Pack.num (gC m1 nd l).2 ++ (gC m1 nd l).1.left := Rec.num_left eC
  have lB : (gA l).1.left = row (gB m1 nd l).2 ++ (gB m1 nd l).1.left := gRow_left eB
  have lA : l = Pack.num (gA l).2 ++ (gA l).1.left := Rec.num_left (s := ⟨l, 0⟩) (most := 64) eA
  have hlen : (gD m1 m2 nd l).2.length = (gC m1 nd l).2 := gRows_len _ _ _ _
  unfold text gread
  simp only
  rw [hlen, ← lD, ← lC, ← lB, show (((gA l).2 : Nat) : Int).toNat = (gA l).2 from rfl, ← lA]
theorem cut_back6 {b l : List UInt8} (h : Crc.cutOf b = some l) : l ++ Crc.low (Crc.sum l) = b := by
  unfold Crc.cutOf at h
  split at h
  · cases h
  · split at h
    · rename_i hc
      injection h with h
      rw [← h]
      exact hc
    · cases h
/-- Bytes are a configuration just if they are its bytes. -/
theorem dec_iff {b : List UInt8} {c : C} : dec b = some c ↔ right c = true ∧ enc c = b := by
  constructor
  · intro h
    unfold dec at h
    split at h
    · cases h
    · rename_i l hc
      split at h
      · rename_i hok
        injection h with h
        subst h
        rw [← gok_ref] at hok
        have ht := text_gread hok
        rw [gread_ref] at ht
        have hr : right (read l) = true := by
          unfold gok at hok
          rw [Bool.and_eq_true, gread_ref] at hok
          exact hok.2
        refine ⟨hr, ?_⟩
        unfold enc
        rw [ht]
        exact cut_back6 hc
      · cases h
  · rintro ⟨h1, rfl⟩
    exact dec_enc h1
theorem dec_gok {m1 m2 nd : Int} {b l : List UInt8} (hc : Crc.cutOf b = some l) (h : gok m1 m2 nd l = true) : dec b = some (gread m1 m2 nd l) := by
  have hr : right (gread m1 m2 nd l) = true := by
    unfold gok at h
    rw [Bool.and_eq_true] at h
    exact h.2
  rw [dec_iff]
  refine ⟨hr, ?_⟩
  unfold enc
  rw [text_gread h]
  exact cut_back6 hc
theorem dec_gnot {m1 m2 nd : Int} (hm1 : 7 ≤ m1) (hm2 : 3 ≤ m2) (hn : 15 ≤ nd) {b l : List UInt8} (hc : Crc.cutOf b = some l) (h : gok m1 m2 nd l = false) : dec b = none := by
  cases hd : dec b with
  | none => rfl
  | some e =>
    exfalso
    obtain ⟨hr, he⟩ := dec_iff.1 hd
    have : Crc.cutOf b = some (text e) := by rw [← he]; exact Crc.cut_put _
    rw [hc] at this
    injection this with this
    rw [this, gok_text hm1 hm2 hn hr] at h
    cases h
theorem dec_cut {b : List UInt8} (hc : Crc.cutOf b = none) : dec b = none := by
  unfold dec
  rw [hc]
/-- What Decode tells. -/
def noC : C := ⟨0, [], []⟩
def errOf : Option C → Int
  | none => 60
  | some _ => 0
def confOf : Option C → C
  | none => noC
  | some c => c
end Go.Proofs.Ytpfodkgncachiaa.Term
