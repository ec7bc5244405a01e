/-
  Layer 2, mathematics: numbers as bytes of seven bits; no program.
-/
import Derived.Test.YtpefengjpedifaaLib
namespace Go.Proofs.Ytpefengjpedifaa.Pack

theorem u8_nat (n : Nat) (h : n < 256) : (UInt8.ofNat n).toNat = n := by simp [UInt8.toNat_ofNat', Nat.mod_eq_of_lt h]

/-- A number's bytes, the lowest seven bits first. -/
def num (n : Nat) : List UInt8 := if n < 128 then [UInt8.ofNat n] else UInt8.ofNat (128 + n % 128) :: num (n / 128)
termination_by n
decreasing_by omega
theorem num_low {n : Nat} (h : n < 128) : num n = [UInt8.ofNat n] := by rw [num, if_pos h]
theorem num_high {n : Nat} (h : ¬ n < 128) : num n = UInt8.ofNat (128 + n % 128) :: num (n / 128) := by rw [num, if_neg h]

/-- The number that bytes are. -/
def val : List UInt8 → Nat
  | [] => 0
  | b :: l => b.toNat % 128 + 128 * val l
theorem val_append (l m : List UInt8) : val (l ++ m) = val l + 128 ^ l.length * val m := by
  induction l with
  | nil => simp [val]
  | cons b l ih => simp only [List.cons_append, val, ih, List.length_cons, Nat.pow_succ]; rw [Nat.mul_add, Nat.add_assoc, Nat.mul_comm (128 ^ l.length) 128, Nat.mul_assoc]
theorem val_lt (l : List UInt8) : val l < 128 ^ l.length := by
  induction l with
  | nil => simp [val]
  | cons b l ih => simp only [val, List.length_cons, Nat.pow_succ]; have := Nat.mod_lt b.toNat (show 0 < 128 by decide); omega
theorem val_snoc (l : List UInt8) (b : UInt8) : val (l ++ [b]) = val l + 128 ^ l.length * (b.toNat % 128) := by
  rw [val_append]; simp [val]

/-- How many bytes ahead of the first one that is below 128. -/
def lead : List UInt8 → Nat
  | [] => 0
  | b :: l => if b.toNat < 128 then 0 else lead l + 1
theorem lead_le (l : List UInt8) : lead l ≤ l.length := by
  induction l with
  | nil => simp [lead]
  | cons b l ih => simp only [lead, List.length_cons]; split <;> omega
theorem lead_big (l : List UInt8) (i : Nat) (hi : i < l.length) (h : i < lead l) : ¬ l[i].toNat < 128 := by
  induction l generalizing i with
  | nil => simp at hi
  | cons b l ih =>
    simp only [lead] at h
    split at h
    · omega
    · cases i with
      | zero => rename_i hb; exact hb
      | succ i => simpa using ih i (by simpa using hi) (by omega)
theorem lead_small (l : List UInt8) (h : lead l < l.length) : l[lead l].toNat < 128 := by
  induction l with
  | nil => simp at h
  | cons b l ih =>
    by_cases hb : b.toNat < 128
    · have e : lead (b :: l) = 0 := by simp [lead, hb]
      simpa only [e, List.getElem_cons_zero] using hb
    · have e : lead (b :: l) = lead l + 1 := by simp [lead, hb]
      simp only [e, List.getElem_cons_succ]
      exact ih (by rw [e] at h; simpa using h)
theorem lead_eq (l : List UInt8) (k : Nat) (hk : k < l.length) (hb : ∀ i (hi : i < l.length), i < k → ¬ l[i].toNat < 128) (hs : l[k].toNat < 128) : lead l = k := by
  have h1 : ¬ lead l < k := fun h => by
    have := lead_small l (by omega)
    exact hb (lead l) (by omega) h this
  have h2 : ¬ k < lead l := fun h => lead_big l k hk h hs
  omega
theorem lead_all (l : List UInt8) (h : ∀ i (hi : i < l.length), ¬ l[i].toNat < 128) : lead l = l.length := by
  have h1 := lead_le l
  have h2 : ¬ lead l < l.length := fun h' => h _ h' (lead_small l h')
  omega

theorem num_ne (n : Nat) : num n ≠ [] := by
  by_cases h : n < 128
  · rw [num_low h]; simp
  · rw [num_high h]; simp
theorem num_pos (n : Nat) : 1 ≤ (num n).length := List.length_pos_iff.2 (num_ne n)
theorem val_num (n : Nat) : val (num n) = n := by
  induction n using Nat.strongRecOn with
  | _ n ih =>
    by_cases h : n < 128
    · rw [num_low h]; simp only [val, u8_nat n (by omega)]; omega
    · rw [num_high h]; simp only [val, u8_nat (128 + n % 128) (by omega)]; rw [ih (n / 128) (by omega)]; omega
theorem num_inj {a b : Nat} (h : num a = num b) : a = b := by rw [← val_num a, ← val_num b, h]
theorem num_length_lt (k : Nat) : ∀ n, n < 128 ^ (k + 1) → (num n).length ≤ k + 1 := by
  induction k with
  | zero => intro n h; rw [num_low (by simpa using h)]; simp
  | succ k ih =>
    intro n h
    by_cases hn : n < 128
    · rw [num_low hn]; simp
    · rw [num_high hn]
      have := ih (n / 128) (by rw [Nat.pow_succ] at h; exact Nat.div_lt_of_lt_mul (by rw [Nat.mul_comm]; exact h))
      simp only [List.length_cons]; omega
theorem num_nine {n : Nat} (h : n ≤ 4611686018427387904) : (num n).length ≤ 9 := num_length_lt 8 n (Nat.lt_of_le_of_lt h (by decide))
theorem num_mono : ∀ b a, a ≤ b → (num a).length ≤ (num b).length := by
  intro b
  induction b using Nat.strongRecOn with
  | _ b ih =>
    intro a hab
    by_cases ha : a < 128
    · rw [num_low ha]; exact num_pos b
    · have hb : ¬ b < 128 := by omega
      rw [num_high ha, num_high hb]
      have := ih (b / 128) (by omega) (a / 128) (Nat.div_le_div_right hab)
      simp only [List.length_cons]; omega
/-- All bytes of a number but the last one are 128 or more. -/
theorem num_form (n : Nat) : ∃ l b, num n = l ++ [b] ∧ b.toNat < 128 ∧ (∀ x ∈ l, ¬ x.toNat < 128) ∧ (l = [] ∨ b ≠ 0) := by
  induction n using Nat.strongRecOn with
  | _ n ih =>
    by_cases h : n < 128
    · exact ⟨[], UInt8.ofNat n, by rw [num_low h]; rfl, by rw [u8_nat n (by omega)]; exact h, by simp, .inl rfl⟩
    · obtain ⟨l, b, e, h1, h2, h3⟩ := ih (n / 128) (by omega)
      refine ⟨UInt8.ofNat (128 + n % 128) :: l, b, by rw [num_high h, e]; rfl, h1, ?_, .inr ?_⟩
      · intro x hx
        rcases List.mem_cons.1 hx with rfl | hx
        · rw [u8_nat _ (by omega)]; omega
        · exact h2 x hx
      · rcases h3 with rfl | h3
        · intro hb
          have hv := val_num (n / 128)
          rw [e, hb] at hv
          simp [val] at hv
          omega
        · exact h3
theorem lead_num (n : Nat) (r : List UInt8) : lead (num n ++ r) + 1 = (num n).length := by
  obtain ⟨l, b, e, h1, h2, _⟩ := num_form n
  rw [e]
  have : lead (l ++ [b] ++ r) = l.length := by
    refine lead_eq _ _ (by simp) ?_ (by simpa using h1)
    intro i hi hil
    have : (l ++ [b] ++ r)[i] = l[i] := by simp [List.getElem_append_left hil]
    rw [this]
    exact h2 _ (List.getElem_mem _)
  rw [this]; simp
theorem lead_cut (n j : Nat) (hj : j < (num n).length) : lead ((num n).take j) = j := by
  obtain ⟨l, b, e, h1, h2, _⟩ := num_form n
  rw [e] at hj ⊢
  have hjl : j ≤ l.length := by simp at hj; omega
  rw [List.take_append_of_le_length hjl]
  have := lead_all (l.take j) (fun i hi => h2 _ (List.mem_of_mem_take (List.getElem_mem hi)))
  rw [this]; simp; omega
/-- What is read is written so, if it is as short as can be. -/
theorem num_val (l : List UInt8) : ∀ (b : UInt8), b.toNat < 128 → (∀ x ∈ l, ¬ x.toNat < 128) → (l = [] ∨ b ≠ 0) → num (val (l ++ [b])) = l ++ [b] := by
  induction l with
  | nil =>
    intro b hb _ _
    have : val ([] ++ [b]) = b.toNat := by simp [val]; omega
    rw [this, num_low hb]; simp
  | cons x l ih =>
    intro b hb hl h0
    have hb0 : b ≠ 0 := by rcases h0 with h | h <;> first | cases h | exact h
    have hx := hl x (by simp)
    have hlt := x.toNat_lt
    have hv : 1 ≤ val (l ++ [b]) := by
      rw [val_snoc]
      have : 1 ≤ b.toNat := by
        rcases Nat.eq_zero_or_pos b.toNat with h | h
        · exact absurd (UInt8.toNat_inj.1 (by simpa using h)) hb0
        · exact h
      have h1 : 1 ≤ 128 ^ l.length := Nat.one_le_pow _ _ (by decide)
      have := Nat.mul_le_mul h1 (show 1 ≤ b.toNat % 128 by omega)
      omega
    have e : val (x :: l ++ [b]) = x.toNat % 128 + 128 * val (l ++ [b]) := rfl
    rw [e, num_high (by omega)]
    have e1 : (x.toNat % 128 + 128 * val (l ++ [b])) % 128 = x.toNat % 128 := by omega
    have e2 : (x.toNat % 128 + 128 * val (l ++ [b])) / 128 = val (l ++ [b]) := by omega
    rw [e1, e2, ih b hb (fun y hy => hl y (by simp [hy])) (.inr hb0)]
    have : UInt8.ofNat (128 + x.toNat % 128) = x := UInt8.toNat_inj.1 (by rw [u8_nat _ (by omega)]; omega)
    rw [this]; rfl

/-- What is left, and the first error. -/
structure St where
  left : List UInt8
  err : Int
def St.fail (s : St) (e : Int) : St := ⟨[], if s.err = 0 then e else s.err⟩
/-- Is what is read not as short as can be, or too great? -/
def wrong (s : List UInt8) (most : Int) : Prop := (2 ≤ s.length ∧ s.getLast? = some 0) ∨ 4611686018427387904 < val s ∨ most < (val s : Int)
instance (s : List UInt8) (most : Int) : Decidable (wrong s most) := by unfold wrong; infer_instance
/-- A number is read. -/
def St.num (s : St) (most : Int) : St × Nat :=
  if 9 ≤ lead s.left then (s.fail 21, 0)
  else if s.left.length ≤ lead s.left then (s.fail 20, 0)
  else if wrong (s.left.take (lead s.left + 1)) most then (s.fail 21, 0)
  else (⟨s.left.drop (lead s.left + 1), s.err⟩, val (s.left.take (lead s.left + 1)))
/-- A text is read. -/
def St.text (s : St) (most : Int) : St × List UInt8 :=
  let r := s.num most
  if r.1.left.length < r.2 then (r.1.fail 20, []) else (⟨r.1.left.drop r.2, r.1.err⟩, r.1.left.take r.2)
/-- Whether something is, is read. -/
def St.bool (s : St) : St × Bool :=
  match s.left with
  | [] => (s.fail 20, false)
  | b :: l => if 1 < b.toNat then (s.fail 21, false) else (⟨l, s.err⟩, b == 1)
def St.done (s : St) : Int := if s.left = [] then s.err else 22

theorem take_last {l : List UInt8} (h : lead l < l.length) : l.take (lead l + 1) = l.take (lead l) ++ [l[lead l]] := take_succ_getD l _ h
theorem mem_lead {l : List UInt8} (h : lead l < l.length) {x : UInt8} (hx : x ∈ l.take (lead l)) : ¬ x.toNat < 128 := by
  obtain ⟨i, hi, rfl⟩ := List.getElem_of_mem hx
  have hi' : i < lead l := by simp at hi; omega
  simpa using lead_big l i (by omega) hi'
/-- What is read without an error is what is written. -/
theorem num_read {s : St} {most : Int} (he : s.err = 0) (h : (s.num most).1.err = 0) :
    ∃ n : Nat, s.num most = (⟨s.left.drop (num n).length, 0⟩, n) ∧ s.left.take (num n).length = num n ∧ (num n).length ≤ s.left.length ∧ n ≤ 4611686018427387904 ∧ (n : Int) ≤ most := by
  unfold St.num at h ⊢
  split at h
  · simp [St.fail, he] at h
  · split at h
    · simp [St.fail, he] at h
    · split at h
      · simp [St.fail, he] at h
      · rename_i h1 h2 h3
        rw [if_neg h1, if_neg h2, if_neg h3]
        have hlt : lead s.left < s.left.length := by omega
        have e := take_last hlt
        unfold wrong at h3
        have e2 : num (val (s.left.take (lead s.left + 1))) = s.left.take (lead s.left + 1) := by
          rw [e]
          refine num_val _ _ (lead_small _ hlt) (fun x hx => mem_lead hlt hx) ?_
          by_cases h0 : lead s.left = 0
          · left; simp [h0]
          · right
            intro hz
            apply h3
            left
            rw [e, hz]
            simp
            omega
        refine ⟨val (s.left.take (lead s.left + 1)), ?_, ?_, ?_, by omega, by omega⟩
        · rw [e2, he]; simp only [List.length_take, Nat.min_eq_left hlt]
        · rw [e2]; simp only [List.length_take, Nat.min_eq_left hlt]
        · rw [e2]; simp only [List.length_take, Nat.min_eq_left hlt]; exact hlt
/-- What was written is read. -/
theorem read_num (n : Nat) (r : List UInt8) (e most : Int) (h1 : n ≤ 4611686018427387904) (h2 : (n : Int) ≤ most) : St.num ⟨num n ++ r, e⟩ most = (⟨r, e⟩, n) := by
  have hl := lead_num n r
  have h9 := num_nine h1
  have ht : (num n ++ r).take (lead (num n ++ r) + 1) = num n := by rw [hl]; simp
  unfold St.num
  simp only []
  rw [if_neg (by omega), if_neg (by simp; omega), ht, if_neg, val_num, hl]
  · simp
  · unfold wrong
    rw [val_num]
    obtain ⟨l, b, e, _, _, h3⟩ := num_form n
    rw [e]
    simp
    refine ⟨fun hlen hb => ?_, h1, h2⟩
    rcases h3 with rfl | h3
    · simp at hlen
    · exact h3 hb
theorem read_num_over (n : Nat) (r : List UInt8) (most : Int) (h1 : n ≤ 4611686018427387904) (h2 : ¬ (n : Int) ≤ most) : St.num ⟨num n ++ r, 0⟩ most = (⟨[], 21⟩, 0) := by
  have hl := lead_num n r
  have h9 := num_nine h1
  have ht : (num n ++ r).take (lead (num n ++ r) + 1) = num n := by rw [hl]; simp
  unfold St.num
  simp only []
  rw [if_neg (by omega), if_neg (by simp; omega), ht, if_pos]
  · simp [St.fail]
  · unfold wrong; rw [val_num]; omega
theorem read_cut (n j : Nat) (most : Int) (h1 : n ≤ 4611686018427387904) (hj : j < (num n).length) : St.num ⟨(num n).take j, 0⟩ most = (⟨[], 20⟩, 0) := by
  have hl := lead_cut n j hj
  have h9 := num_nine h1
  unfold St.num
  simp only []
  rw [if_neg (by omega), if_pos (by rw [hl]; simp; omega)]
  simp [St.fail]
/-- Behind an error nothing is read. -/
theorem num_dead (e most : Int) (he : e ≠ 0) : St.num ⟨[], e⟩ most = (⟨[], e⟩, 0) := by
  simp [St.num, lead, St.fail, he]
theorem text_dead (e most : Int) (he : e ≠ 0) : St.text ⟨[], e⟩ most = (⟨[], e⟩, []) := by
  simp [St.text, num_dead e most he]
theorem bool_dead (e : Int) (he : e ≠ 0) : St.bool ⟨[], e⟩ = (⟨[], e⟩, false) := by
  simp [St.bool, St.fail, he]

/-! Parts, as they are written. -/
structure Part where
  kind : Int
  n : Int
  most : Int
  s : List UInt8
  is : Bool
def Part.good (p : Part) : Bool := if p.kind = 0 then decide (0 ≤ p.n ∧ p.n ≤ 4611686018427387904) else if p.kind = 1 then decide (p.s.length ≤ 65536) else true
def Part.bytes (p : Part) : List UInt8 :=
  if p.kind = 0 then (if 0 ≤ p.n ∧ p.n ≤ 4611686018427387904 then num p.n.toNat else [])
  else if p.kind = 1 then (if p.s.length ≤ 65536 then num p.s.length ++ p.s else [])
  else if p.kind = 2 then [if p.is then 1 else 0] else []
def written (ps : List Part) : List UInt8 := (ps.map Part.bytes).flatten
theorem written_snoc (ps : List Part) (p : Part) : written (ps ++ [p]) = written ps ++ p.bytes := by simp [written]
theorem written_cons (ps : List Part) (p : Part) : written (p :: ps) = p.bytes ++ written ps := by simp [written]
def allGood (ps : List Part) : Bool := ps.all Part.good
theorem allGood_snoc (ps : List Part) (p : Part) : allGood (ps ++ [p]) = (allGood ps && p.good) := by simp [allGood]
def mass (ps : List Part) : Nat := ps.length + (ps.map (fun p => p.s.length)).sum
theorem bytes_le (p : Part) : p.bytes.length ≤ 9 + p.s.length := by
  unfold Part.bytes
  split
  · split
    · have := num_nine (n := p.n.toNat) (by omega); omega
    · simp
  · split
    · split
      · have := num_nine (n := p.s.length) (by omega); simp; omega
      · simp
    · split <;> simp <;> omega
theorem written_le (ps : List Part) : (written ps).length ≤ 9 * ps.length + (ps.map (fun p => p.s.length)).sum := by
  induction ps with
  | nil => simp [written]
  | cons p ps ih =>
    rw [written_cons]
    have := bytes_le p
    simp only [List.length_append, List.length_cons, List.map_cons, List.sum_cons]
    omega

/-- What a part is read as. -/
def St.part (s : St) (p : Part) : St × Part :=
  if p.kind = 0 then ((s.num p.most).1, { kind := p.kind, n := (s.num p.most).2, most := p.most, s := [], is := false })
  else if p.kind = 1 then ((s.text p.most).1, { kind := p.kind, n := 0, most := p.most, s := (s.text p.most).2, is := false })
  else if p.kind = 2 then (s.bool.1, { kind := p.kind, n := 0, most := p.most, s := [], is := s.bool.2 })
  else (s, { kind := p.kind, n := 0, most := p.most, s := [], is := false })
theorem part_dead (e : Int) (he : e ≠ 0) (p : Part) : (St.part ⟨[], e⟩ p).1 = ⟨[], e⟩ := by
  unfold St.part
  rw [num_dead e _ he, text_dead e _ he, bool_dead e he]
  split
  · rfl
  · split
    · rfl
    · split <;> rfl
def Part.full (p : Part) : Part := { p with most := 4611686018427387904 }
/-- What was written is read as it was, with whatever behind it. -/
theorem part_back (p : Part) (r : List UInt8) (hg : p.good = true) : (St.part ⟨p.bytes ++ r, 0⟩ p.full).1 = ⟨r, 0⟩ ∧
    (p.kind = 0 → (St.part ⟨p.bytes ++ r, 0⟩ p.full).2.n = p.n) ∧ (p.kind = 1 → (St.part ⟨p.bytes ++ r, 0⟩ p.full).2.s = p.s) ∧ (p.kind = 2 → (St.part ⟨p.bytes ++ r, 0⟩ p.full).2.is = p.is) := by
  unfold St.part Part.full Part.bytes
  unfold Part.good at hg
  by_cases h0 : p.kind = 0
  · simp only [h0, if_true, decide_eq_true_eq] at hg ⊢
    rw [if_pos hg, read_num _ _ _ _ (by omega) (by omega)]
    refine ⟨rfl, fun _ => by simp; omega, fun h => by omega, fun h => by omega⟩
  · by_cases h1 : p.kind = 1
    · simp only [h1, if_true] at hg ⊢
      rw [if_neg (by decide : ¬ (1 : Int) = 0)] at hg ⊢
      simp only [decide_eq_true_eq] at hg
      rw [if_neg (by decide : ¬ (1 : Int) = 0), if_pos hg]
      have : St.text ⟨num p.s.length ++ p.s ++ r, 0⟩ 4611686018427387904 = (⟨r, 0⟩, p.s) := by
        unfold St.text
        rw [List.append_assoc, read_num _ _ _ _ (by omega) (by omega)]
        simp
        omega
      rw [this]
      simp
    · by_cases h2 : p.kind = 2
      · simp only [h2, if_true]
        rw [if_neg (by decide), if_neg (by decide), if_neg (by decide), if_neg (by decide)]
        cases p.is <;> simp [St.bool]
      · simp [h0, h1, h2]
/-- What was cut is short. -/
theorem part_cut (p : Part) (j : Nat) (hg : p.good = true) (hj : j < p.bytes.length) : (St.part ⟨p.bytes.take j, 0⟩ p.full).1 = ⟨[], 20⟩ := by
  unfold St.part Part.full
  unfold Part.bytes at *
  unfold Part.good at hg
  by_cases h0 : p.kind = 0
  · simp only [h0, if_true, decide_eq_true_eq] at hg hj ⊢
    rw [if_pos hg] at hj ⊢
    rw [read_cut _ _ _ (by omega) hj]
  · by_cases h1 : p.kind = 1
    · rw [if_neg h0, if_pos h1, decide_eq_true_eq] at hg
      rw [if_neg h0, if_pos h1, if_pos hg] at hj
      simp only [h1, if_true]
      rw [if_neg (by decide), if_neg (by decide), if_pos hg]
      unfold St.text
      by_cases hjn : j < (num p.s.length).length
      · rw [List.take_append_of_le_length (by omega), read_cut _ _ _ (by omega) hjn]
        simp
      · rw [List.take_append, List.take_of_length_le (by omega), read_num _ _ _ _ (by omega) (by omega)]
        have : j - (num p.s.length).length < p.s.length := by simp at hj; omega
        simp only [List.length_take]
        rw [if_pos (by omega)]
        simp [St.fail]
    · by_cases h2 : p.kind = 2
      · rw [if_neg h0, if_neg h1, if_pos h2] at hj
        have : j = 0 := by simpa using hj
        subst this
        simp [h2, St.bool, St.fail]
      · rw [if_neg h0, if_neg h1, if_neg h2] at hj
        simp at hj
/-- Many parts. -/
def St.parts (s : St) : List Part → St
  | [] => s
  | p :: ps => St.parts (s.part p.full).1 ps
theorem parts_snoc (s : St) (ps : List Part) (p : Part) : s.parts (ps ++ [p]) = ((s.parts ps).part p.full).1 := by
  induction ps generalizing s with
  | nil => rfl
  | cons q ps ih => exact ih _
theorem parts_back (ps qs : List Part) (r : List UInt8) (hg : allGood ps = true) : St.parts ⟨written (ps ++ qs) ++ r, 0⟩ ps = ⟨written qs ++ r, 0⟩ := by
  induction ps with
  | nil => rfl
  | cons p ps ih =>
    simp only [allGood, List.all_cons, Bool.and_eq_true] at hg
    rw [List.cons_append, written_cons, List.append_assoc]
    show St.parts (St.part _ p.full).1 ps = _
    rw [(part_back p _ hg.1).1]
    exact ih hg.2
theorem parts_dead (e : Int) (he : e ≠ 0) (ps : List Part) : St.parts ⟨[], e⟩ ps = ⟨[], e⟩ := by
  induction ps with
  | nil => rfl
  | cons p ps ih => show St.parts (St.part _ p.full).1 ps = _; rw [part_dead e he]; exact ih
theorem parts_cut (ps : List Part) (j : Nat) (hg : allGood ps = true) (hj : j < (written ps).length) : St.parts ⟨(written ps).take j, 0⟩ ps = ⟨[], 20⟩ := by
  induction ps generalizing j with
  | nil => simp [written] at hj
  | cons p ps ih =>
    simp only [allGood, List.all_cons, Bool.and_eq_true] at hg
    rw [written_cons] at hj ⊢
    show St.parts (St.part _ p.full).1 ps = _
    by_cases h : j < p.bytes.length
    · rw [List.take_append_of_le_length (by omega), part_cut p j hg.1 h]
      exact parts_dead 20 (by decide) ps
    · rw [List.take_append, List.take_of_length_le (by omega), (part_back p _ hg.1).1]
      exact ih _ hg.2 (by simp at hj; omega)
end Go.Proofs.Ytpefengjpedifaa.Pack
