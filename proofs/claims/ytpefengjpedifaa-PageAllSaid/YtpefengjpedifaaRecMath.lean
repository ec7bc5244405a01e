/-
  Layer 4, mathematics: records as bytes; no program.
-/
import Derived.Test.YtpefengjpedifaaPackMath
import Derived.Test.YtpefengjpedifaaCrcMath
namespace Go.Proofs.Ytpefengjpedifaa.Rec

structure R where
  client : Int
  number : Int
  tags : List Int
  data : List UInt8

/-- Do these rise, from above last on, up to 2^30? -/
def rising : Int → List Int → Bool
  | _, [] => true
  | last, t :: l => decide (last < t ∧ t ≤ 1073741824) && rising t l
def okId (n : Int) : Bool := decide (0 ≤ n ∧ n ≤ 1099511627776)
def right (r : R) : Bool := okId r.client && (okId r.number && (rising 0 r.tags && decide (r.tags.length ≤ 8 ∧ r.data.length ≤ 1024)))
/-- Numbers, one behind the other. -/
def numsOf (ns : List Int) : List UInt8 := (ns.map fun n => Pack.num n.toNat).flatten
theorem numsOf_snoc (ns : List Int) (n : Int) : numsOf (ns ++ [n]) = numsOf ns ++ Pack.num n.toNat := by simp [numsOf]
theorem numsOf_cons (n : Int) (ns : List Int) : numsOf (n :: ns) = Pack.num n.toNat ++ numsOf ns := by simp [numsOf]
/-- A record without its sum. -/
def text (r : R) : List UInt8 := Pack.num r.client.toNat ++ (Pack.num r.number.toNat ++ (Pack.num r.tags.length ++ (numsOf r.tags ++ (Pack.num r.data.length ++ r.data))))
def enc (r : R) : List UInt8 := text r ++ Crc.low (Crc.sum (text r))

theorem rising_ok : ∀ (l : List Int) (last : Int), 0 ≤ last → rising last l = true → ∀ x ∈ l, 1 ≤ x ∧ x ≤ 1073741824 := by
  intro l
  induction l with
  | nil => intro _ _ _ x hx; cases hx
  | cons t l ih =>
    intro last h0 h x hx
    simp only [rising, Bool.and_eq_true, decide_eq_true_eq] at h
    rcases List.mem_cons.1 hx with rfl | hx
    · omega
    · exact ih t (by omega) h.2 x hx
theorem right_ok {r : R} (h : right r = true) : (0 ≤ r.client ∧ r.client ≤ 1099511627776) ∧ (0 ≤ r.number ∧ r.number ≤ 1099511627776) ∧ rising 0 r.tags = true ∧ (∀ x ∈ r.tags, 1 ≤ x ∧ x ≤ 1073741824) ∧ r.tags.length ≤ 8 ∧ r.data.length ≤ 1024 := by
  unfold right okId at h
  simp only [Bool.and_eq_true, decide_eq_true_eq] at h
  obtain ⟨h1, h2, h3, h4, h5⟩ := h
  exact ⟨h1, h2, h3, rising_ok _ 0 (by omega) h3, h4, h5⟩

/-- So many numbers, none above most. -/
def readsM (most : Int) (s : Pack.St) : Nat → Pack.St × List Int
  | 0 => (s, [])
  | k + 1 => (((readsM most s k).1.num most).1, (readsM most s k).2 ++ [(((readsM most s k).1.num most).2 : Int)])
theorem readsM_len (most : Int) (s : Pack.St) (k : Nat) : (readsM most s k).2.length = k := by
  induction k with
  | zero => rfl
  | succ k ih => simp [readsM, ih]
/-- What is read, part by part. -/
def stA (l : List UInt8) : Pack.St × Nat := Pack.St.num ⟨l, 0⟩ 1099511627776
def stB (l : List UInt8) : Pack.St × Nat := (stA l).1.num 1099511627776
def stC (l : List UInt8) : Pack.St × Nat := (stB l).1.num 8
def stD (l : List UInt8) : Pack.St × List Int := readsM 1073741824 (stC l).1 (stC l).2
def stE (l : List UInt8) : Pack.St × List UInt8 := (stD l).1.text 1024
def read (l : List UInt8) : R := ⟨(stA l).2, (stB l).2, (stD l).2, (stE l).2⟩
def readOk (l : List UInt8) : Bool := ((stE l).1.done == 0) && right (read l)

theorem reads_back (most : Int) (ns : List Int) (h : ∀ x ∈ ns, 0 ≤ x ∧ x ≤ most ∧ x ≤ 4611686018427387904) (r : List UInt8) : ∀ k, k ≤ ns.length → readsM most ⟨numsOf ns ++ r, 0⟩ k = (⟨numsOf (ns.drop k) ++ r, 0⟩, ns.take k) := by
  intro k
  induction k with
  | zero => intro _; simp [readsM]
  | succ k ih =>
    intro hk
    have hlt : k < ns.length := by omega
    have hx := h _ (List.getElem_mem hlt)
    have hd : ns.drop k = ns[k] :: ns.drop (k + 1) := by rw [List.drop_eq_getElem_cons hlt]
    unfold readsM
    rw [ih (by omega), hd, numsOf_cons, List.append_assoc]
    have hr := Pack.read_num ns[k].toNat (numsOf (ns.drop (k + 1)) ++ r) 0 most (by omega) (by omega)
    rw [hr, List.take_succ_eq_append_getElem hlt]
    simp only
    rw [show ((ns[k].toNat : Nat) : Int) = ns[k] from by omega]
theorem read_text {r : R} (h : right r = true) : (stE (text r)).1 = ⟨[], 0⟩ ∧ read (text r) = r := by
  obtain ⟨h1, h2, h3, h4, h5, h6⟩ := right_ok h
  have hA : stA (text r) = (⟨Pack.num r.number.toNat ++ (Pack.num r.tags.length ++ (numsOf r.tags ++ (Pack.num r.data.length ++ r.data))), 0⟩, r.client.toNat) := Pack.read_num _ _ _ _ (by omega) (by omega)
  have hB : stB (text r) = (⟨Pack.num r.tags.length ++ (numsOf r.tags ++ (Pack.num r.data.length ++ r.data)), 0⟩, r.number.toNat) := by
    unfold stB; rw [hA]; exact Pack.read_num _ _ _ _ (by omega) (by omega)
  have hC : stC (text r) = (⟨numsOf r.tags ++ (Pack.num r.data.length ++ r.data), 0⟩, r.tags.length) := by
    unfold stC; rw [hB]; exact Pack.read_num _ _ _ _ (by omega) (by omega)
  have hD : stD (text r) = (⟨Pack.num r.data.length ++ r.data, 0⟩, r.tags) := by
    unfold stD; rw [hC]
    have := reads_back 1073741824 r.tags (fun x hx => by have := h4 x hx; omega) (Pack.num r.data.length ++ r.data) r.tags.length (Nat.le_refl _)
    rw [List.drop_length, List.take_length] at this
    exact this
  have hE : stE (text r) = (⟨[], 0⟩, r.data) := by
    unfold stE; rw [hD]
    unfold Pack.St.text
    rw [Pack.read_num _ _ _ _ (by omega) (by omega)]
    simp
  refine ⟨by rw [hE], ?_⟩
  unfold read
  rw [hA, hB, hD, hE]
  obtain ⟨c, n, t, d⟩ := r
  simp only at h1 h2 ⊢
  rw [show ((c.toNat : Nat) : Int) = c from by omega, show ((n.toNat : Nat) : Int) = n from by omega]
theorem text_inj {a b : R} (ha : right a = true) (hb : right b = true) (h : text a = text b) : a = b := by
  rw [← (read_text ha).2, ← (read_text hb).2, h]
theorem readOk_text {r : R} (h : right r = true) : readOk (text r) = true := by
  unfold readOk
  rw [(read_text h).1, (read_text h).2, h]
  rfl
theorem enc_inj {a b : R} (ha : right a = true) (hb : right b = true) (h : enc a = enc b) : a = b := by
  unfold enc at h
  have hl := congrArg List.length h
  simp only [List.length_append, Crc.low_length] at hl
  exact text_inj ha hb (List.append_inj_left h (by omega))

/-! What is read without an error is what is written. -/
theorem num_err {s : Pack.St} {most : Int} (h : (s.num most).1.err = 0) : s.err = 0 := by
  by_cases he : s.err = 0
  · exact he
  · exfalso
    unfold Pack.St.num at h
    split at h
    · simp [Pack.St.fail, he] at h
    · split at h
      · simp [Pack.St.fail, he] at h
      · split at h
        · simp [Pack.St.fail, he] at h
        · exact he h
theorem num_left {s : Pack.St} {most : Int} (h : (s.num most).1.err = 0) : s.left = Pack.num (s.num most).2 ++ (s.num most).1.left := by
  obtain ⟨n, h1, h2, h3, _, _⟩ := Pack.num_read (num_err h) h
  rw [h1]
  simp only
  rw [← h2, List.length_take, Nat.min_eq_left h3, List.take_append_drop]
theorem reads_err {most : Int} {s : Pack.St} : ∀ k, (readsM most s k).1.err = 0 → s.err = 0 := by
  intro k
  induction k with
  | zero => exact id
  | succ k ih => intro h; exact ih (num_err h)
theorem reads_left {most : Int} {s : Pack.St} : ∀ k, (readsM most s k).1.err = 0 → s.left = numsOf (readsM most s k).2 ++ (readsM most s k).1.left := by
  intro k
  induction k with
  | zero => intro _; simp [readsM, numsOf]
  | succ k ih =>
    intro h
    have h1 : ((readsM most s k).1.num most).1.err = 0 := h
    rw [ih (num_err h1), num_left h1]
    show _ = numsOf ((readsM most s k).2 ++ [(((readsM most s k).1.num most).2 : Int)]) ++ ((readsM most s k).1.num most).1.left
    rw [numsOf_snoc, List.append_assoc]
    simp
theorem text_err {s : Pack.St} {most : Int} (h : (s.text most).1.err = 0) : (s.num most).1.err = 0 := by
  unfold Pack.St.text at h
  simp only at h
  split at h
  · by_cases he : (s.num most).1.err = 0
    · exact he
    · simp [Pack.St.fail, he] at h
  · exact h
theorem text_left {s : Pack.St} {most : Int} (h : (s.text most).1.err = 0) : s.left = Pack.num (s.text most).2.length ++ ((s.text most).2 ++ (s.text most).1.left) := by
  have h0 := num_left (text_err h)
  unfold Pack.St.text at h ⊢
  simp only at h ⊢
  split at h
  · exfalso
    by_cases he : (s.num most).1.err = 0
    · simp [Pack.St.fail, he] at h
    · simp [Pack.St.fail, he] at h
  · rename_i hn
    rw [if_neg hn]
    simp only [List.length_take, List.take_append_drop]
    rw [Nat.min_eq_left (by omega)]
    exact h0
theorem done_zero {s : Pack.St} (h : s.done = 0) : s.left = [] ∧ s.err = 0 := by
  unfold Pack.St.done at h
  split at h
  · rename_i h1; exact ⟨h1, h⟩
  · cases h
/-- Bytes that are read as a record are its bytes. -/
theorem text_read {l : List UInt8} (h : (stE l).1.done = 0) : text (read l) = l := by
  obtain ⟨h1, h2⟩ := done_zero h
  have h2' : ((stD l).1.text 1024).1.err = 0 := by unfold stE at h2; exact h2
  have eD : (stD l).1.err = 0 := num_err (text_err h2')
  have eD' : (readsM 1073741824 (stC l).1 (stC l).2).1.err = 0 := by unfold stD at eD; exact eD
  have eC : (stC l).1.err = 0 := reads_err _ eD'
  have eC' : ((stB l).1.num 8).1.err = 0 := by unfold stC at eC; exact eC
  have eB : (stB l).1.err = 0 := num_err eC'
  have eB' : ((stA l).1.num 1099511627776).1.err = 0 := by unfold stB at eB; exact eB
  have eA : (stA l).1.err = 0 := num_err eB'
  have lE := text_left (s := (stD l).1) (most := 1024) h2'
  have lD := reads_left (most := 1073741824) (s := (stC l).1) (stC l).2 eD'
  have lC := num_left (s := (stB l).1) (most := 8) eC'
  have lB := num_left (s := (stA l).1) (most := 1099511627776) eB'
  have eA' : (Pack.St.num ⟨l, 0⟩ 1099511627776).1.err = 0 := by unfold stA at eA; exact eA
  have lA := num_left (s := ⟨l, 0⟩) (most := 1099511627776) eA'
  have hlen : (stD l).2.length = (stC l).2 := by unfold stD; exact readsM_len _ _ _
  have h1' : ((stD l).1.text 1024).1.left = [] := by unfold stE at h1; exact h1
  rw [h1', List.append_nil] at lE
  unfold text read
  simp only
  have lA' : l = Pack.num (stA l).2 ++ (stA l).1.left := by rw [show stA l = _ from rfl]; exact lA
  have lB' : (stA l).1.left = Pack.num (stB l).2 ++ (stB l).1.left := by rw [show stB l = _ from rfl]; exact lB
  have lC' : (stB l).1.left = Pack.num (stC l).2 ++ (stC l).1.left := by rw [show stC l = _ from rfl]; exact lC
  have lD' : (stC l).1.left = numsOf (stD l).2 ++ (stD l).1.left := by rw [show stD l = _ from rfl]; exact lD
  have lE' : (stD l).1.left = Pack.num (stE l).2.length ++ (stE l).2 := by rw [show stE l = _ from rfl]; exact lE
  rw [hlen, show (((stA l).2 : Nat) : Int).toNat = (stA l).2 from rfl, show (((stB l).2 : Nat) : Int).toNat = (stB l).2 from rfl, ← lE', ← lD', ← lC', ← lB', ← lA']

/-! Tags. -/
def has (r : R) (tag : Int) : Bool := (tag == 0) || r.tags.any (fun t => t == tag)
def same (a b : R) : Bool := (a.client == b.client) && ((a.number == b.number) && ((a.tags == b.tags) && (a.data == b.data)))
theorem same_iff (a b : R) : same a b = true ↔ a = b := by
  obtain ⟨a1, a2, a3, a4⟩ := a
  obtain ⟨b1, b2, b3, b4⟩ := b
  unfold same
  simp
theorem same_self (a : R) : same a a = true := (same_iff a a).2 rfl
/-- The numbers of those that have the tag, from k on. -/
def taggedFrom (tag : Int) : Nat → List R → List Int
  | _, [] => []
  | k, r :: l => if has r tag then (k : Int) :: taggedFrom tag (k + 1) l else taggedFrom tag (k + 1) l
def tagged (l : List R) (tag : Int) : List Int := taggedFrom tag 0 l
theorem taggedFrom_append (tag : Int) : ∀ (a b : List R) (k : Nat), taggedFrom tag k (a ++ b) = taggedFrom tag k a ++ taggedFrom tag (k + a.length) b := by
  intro a
  induction a with
  | nil => intro b k; simp [taggedFrom]
  | cons r a ih =>
    intro b k
    simp only [List.cons_append, taggedFrom, List.length_cons]
    rw [ih b (k + 1), show k + 1 + a.length = k + (a.length + 1) from by omega]
    split <;> rfl
theorem taggedFrom_shift (tag : Int) : ∀ (b : List R) (k j : Nat), taggedFrom tag (j + k) b = (taggedFrom tag k b).map (fun x => (j : Int) + x) := by
  intro b
  induction b with
  | nil => intro k j; rfl
  | cons r b ih =>
    intro k j
    simp only [taggedFrom]
    rw [show j + k + 1 = j + (k + 1) from by omega, ih (k + 1) j]
    split
    · simp
    · rfl
theorem tagged_append (a b : List R) (tag : Int) : tagged (a ++ b) tag = tagged a tag ++ (tagged b tag).map (fun x => (a.length : Int) + x) := by
  unfold tagged
  rw [taggedFrom_append, Nat.zero_add, ← taggedFrom_shift tag b 0 a.length, Nat.add_zero]
theorem tagged_snoc (a : List R) (r : R) (tag : Int) : tagged (a ++ [r]) tag = if has r tag then tagged a tag ++ [(a.length : Int)] else tagged a tag := by
  have h1 : tagged [r] tag = if has r tag then [0] else [] := by simp [tagged, taggedFrom]
  rw [tagged_append, h1]
  split <;> simp
theorem taggedFrom_zero : ∀ (l : List R) (k : Nat), (taggedFrom 0 k l).length = l.length := by
  intro l
  induction l with
  | nil => intro k; rfl
  | cons r l ih =>
    intro k
    have h : has r 0 = true := by simp [has]
    simp only [taggedFrom, h, if_true, List.length_cons, ih]
theorem tagged_zero (l : List R) : (tagged l 0).length = l.length := taggedFrom_zero l 0
theorem taggedFrom_len (tag : Int) : ∀ (l : List R) (k : Nat), (taggedFrom tag k l).length ≤ l.length := by
  intro l
  induction l with
  | nil => intro k; exact Nat.le_refl _
  | cons r l ih =>
    intro k
    simp only [taggedFrom]
    split
    · simp only [List.length_cons]; have := ih (k + 1); omega
    · simp only [List.length_cons]; have := ih (k + 1); omega
theorem tagged_len (l : List R) (tag : Int) : (tagged l tag).length ≤ l.length := taggedFrom_len tag l 0

/-! Places. -/
def less (t p u q : Int) : Bool := decide (t < u) || (decide (t = u) && decide (p < q))

/-- Is what is cut a record, and which? -/
def dec (b : List UInt8) : Option R := match Crc.cutOf b with
  | none => none
  | some l => if readOk l then some (read l) else none
theorem dec_enc {r : R} (h : right r = true) : dec (enc r) = some r := by
  unfold dec enc
  rw [Crc.cut_put]
  simp only [readOk_text h, if_true, (read_text h).2]
theorem enc_dec {b : List UInt8} {r : R} (h : dec b = some r) : right r = true ∧ enc r = b := by
  unfold dec at h
  split at h
  · cases h
  · rename_i l hl
    split at h
    · rename_i hok
      injection h with h
      unfold readOk at hok
      rw [Bool.and_eq_true, beq_iff_eq] at hok
      subst h
      refine ⟨hok.2, ?_⟩
      unfold enc
      rw [text_read hok.1]
      unfold Crc.cutOf at hl
      split at hl
      · cases hl
      · split at hl
        · rename_i hc
          injection hl with hl
          rw [← hl]
          exact hc
        · cases hl
    · cases h
theorem numsOf_le : ∀ l : List Int, (∀ x ∈ l, 1 ≤ x ∧ x ≤ 1073741824) → (numsOf l).length ≤ 9 * l.length := by
  intro l
  induction l with
  | nil => intro _; simp [numsOf]
  | cons x l ih =>
    intro hl
    rw [numsOf_cons, List.length_append, List.length_cons]
    have := Pack.num_nine (n := x.toNat) (by have := hl x (by simp); omega)
    have := ih (fun y hy => hl y (by simp [hy]))
    omega
theorem enc_le {r : R} (h : right r = true) : (enc r).length ≤ 1136 := by
  obtain ⟨h1, h2, _, h4, h5, h6⟩ := right_ok h
  have n1 := Pack.num_nine (n := r.client.toNat) (by omega)
  have n2 := Pack.num_nine (n := r.number.toNat) (by omega)
  have n3 := Pack.num_nine (n := r.tags.length) (by omega)
  have n4 := numsOf_le r.tags h4
  have n5 := Pack.num_nine (n := r.data.length) (by omega)
  unfold enc text
  simp only [List.length_append, Crc.low_length]
  omega
end Go.Proofs.Ytpefengjpedifaa.Rec
