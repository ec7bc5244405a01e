/-
  Merged: Layer 2, mathematics: numbers as bytes of seven bits; Plain mathematics of CRC-32 on natural numbers: the step, the table, that it is linear, that a turned byte is told; Layer 4, mathematics: records as bytes; Layer 9, mathematics: what a row of frames says: records, how many are trimmed, and whether one is neither; Layer 8, mathematics: frames, and with which ones bytes begin; Layer 8, mathematics: the frame with which bytes begin, as the program looks for it; Layer 9, mathematics: a segment is its store, and how many records were safe; Layer 10: what a segment's calls leave of what is safe, mathematics; Layer 3, mathematics: vectors; Layer 5, mathematics: entries as bytes, chains; Layer 5, mathematics: bytes as an entry; Layer 6, mathematics: configurations as bytes, what they tell, the next one.
-/
import Derived.Below
import Derived.Test.YtaijgpdlgcgfaaaGreatBsLib

set_option linter.unusedSimpArgs false
set_option linter.unusedVariables false

/- Layer 2, mathematics: numbers as bytes of seven bits; no program. -/
namespace Go.Proofs.YtaijgpdlgcgfaaaGreat.Pack

theorem u8_nat (n : Nat) (h : n < 256) : (UInt8.ofNat n).toNat = n := by simp [UInt8.toNat_ofNat', Nat.mod_eq_of_lt h]

/-- A number's bytes, the lowest seven bits first. -/
def num (n : Nat) : List UInt8 := if n < 128 then [UInt8.ofNat n] else UInt8.ofNat (128 + n % 128) :: num (n / 128)
termination_by n
decreasing_by omega
theorem num_low {n : Nat} (h : n < 128) : num n = [UInt8.ofNat n] := by rw [num, if_pos h]
theorem num_high {n : Nat} (h : ¬ n < 128) : num n = UInt8.ofNat (128 + n % 128) :: num (n / 128) := by rw [num, if_neg h]

/-- The number that bytes are. -/
def val : List UInt8 → Nat
  | [] => 0
  | b :: l => b.toNat % 128 + 128 * val l
theorem val_append (l m : List UInt8) : val (l ++ m) = val l + 128 ^ l.length * val m := by
  induction l with
  | nil => simp [val]
  | cons b l ih => simp only [List.cons_append, val, ih, List.length_cons, Nat.pow_succ]; rw [Nat.mul_add, Nat.add_assoc, Nat.mul_comm (128 ^ l.length) 128, Nat.mul_assoc]
theorem val_lt (l : List UInt8) : val l < 128 ^ l.length := by
  induction l with
  | nil => simp [val]
  | cons b l ih => simp only [val, List.length_cons, Nat.pow_succ]; have := Nat.mod_lt b.toNat (show 0 < 128 by decide); omega
theorem val_snoc (l : List UInt8) (b : UInt8) : val (l ++ [b]) = val l + 128 ^ l.length * (b.toNat % 128) := by
  rw [val_append]; simp [val]

/-- How many bytes ahead of the first one that is below 128. -/
def lead : List UInt8 → Nat
  | [] => 0
  | b :: l => if b.toNat < 128 then 0 else lead l + 1
theorem lead_le (l : List UInt8) : lead l ≤ l.length := by
  induction l with
  | nil => simp [lead]
  | cons b l ih => simp only [lead, List.length_cons]; split <;> omega
theorem lead_big (l : List UInt8) (i : Nat) (hi : i < l.length) (h : i < lead l) : ¬ l[i].toNat < 128 := by
  induction l generalizing i with
  | nil => simp at hi
  | cons b l ih =>
    simp only [lead] at h
    split at h
    · omega
    · cases i with
      | zero => rename_i hb; exact hb
      | succ i => simpa using ih i (by simpa using hi) (by omega)
theorem lead_small (l : List UInt8) (h : lead l < l.length) : l[lead l].toNat < 128 := by
  induction l with
  | nil => simp at h
  | cons b l ih =>
    by_cases hb : b.toNat < 128
    · have e : lead (b :: l) = 0 := by simp [lead, hb]
      simpa only [e, List.getElem_cons_zero] using hb
    · have e : lead (b :: l) = lead l + 1 := by simp [lead, hb]
      simp only [e, List.getElem_cons_succ]
      exact ih (by rw [e] at h; simpa using h)
theorem lead_eq (l : List UInt8) (k : Nat) (hk : k < l.length) (hb : ∀ i (hi : i < l.length), i < k → ¬ l[i].toNat < 128) (hs : l[k].toNat < 128) : lead l = k := by
  have h1 : ¬ lead l < k := fun h => by
    have := lead_small l (by omega)
    exact hb (lead l) (by omega) h this
  have h2 : ¬ k < lead l := fun h => lead_big l k hk h hs
  omega
theorem num_ne (n : Nat) : num n ≠ [] := by
  by_cases h : n < 128
  · rw [num_low h]; simp
  · rw [num_high h]; simp
theorem num_pos (n : Nat) : 1 ≤ (num n).length := List.length_pos_iff.2 (num_ne n)
theorem val_num (n : Nat) : val (num n) = n := by
  induction n using Nat.strongRecOn with
  | _ n ih =>
    by_cases h : n < 128
    · rw [num_low h]; simp only [val, u8_nat n (by omega)]; omega
    · rw [num_high h]; simp only [val, u8_nat (128 + n % 128) (by omega)]; rw [ih (n / 128) (by omega)]; omega
theorem num_length_lt (k : Nat) : ∀ n, n < 128 ^ (k + 1) → (num n).length ≤ k + 1 := by
  induction k with
  | zero => intro n h; rw [num_low (by simpa using h)]; simp
  | succ k ih =>
    intro n h
    by_cases hn : n < 128
    · rw [num_low hn]; simp
    · rw [num_high hn]
      have := ih (n / 128) (by rw [Nat.pow_succ] at h; exact Nat.div_lt_of_lt_mul (by rw [Nat.mul_comm]; exact h))
      simp only [List.length_cons]; omega
theorem num_nine {n : Nat} (h : n ≤ 4611686018427387904) : (num n).length ≤ 9 := num_length_lt 8 n (Nat.lt_of_le_of_lt h (by decide))
/-- All bytes of a number but the last one are 128 or more. -/
theorem num_form (n : Nat) : ∃ l b, num n = l ++ [b] ∧ b.toNat < 128 ∧ (∀ x ∈ l, ¬ x.toNat < 128) ∧ (l = [] ∨ b ≠ 0) := by
  induction n using Nat.strongRecOn with
  | _ n ih =>
    by_cases h : n < 128
    · exact ⟨[], UInt8.ofNat n, by rw [num_low h]; rfl, by rw [u8_nat n (by omega)]; exact h, by simp, .inl rfl⟩
    · obtain ⟨l, b, e, h1, h2, h3⟩ := ih (n / 128) (by omega)
      refine ⟨UInt8.ofNat (128 + n % 128) :: l, b, by rw [num_high h, e]; rfl, h1, ?_, .inr ?_⟩
      · intro x hx
        rcases List.mem_cons.1 hx with rfl | hx
        · rw [u8_nat _ (by omega)]; omega
        · exact h2 x hx
      · rcases h3 with rfl | h3
        · intro hb
          have hv := val_num (n / 128)
          rw [e, hb] at hv
          simp [val] at hv
          omega
        · exact h3
theorem lead_num (n : Nat) (r : List UInt8) : lead (num n ++ r) + 1 = (num n).length := by
  obtain ⟨l, b, e, h1, h2, _⟩ := num_form n
  rw [e]
  have : lead (l ++ [b] ++ r) = l.length := by
    refine lead_eq _ _ (by simp) ?_ (by simpa using h1)
    intro i hi hil
    have : (l ++ [b] ++ r)[i] = l[i] := by simp [List.getElem_append_left hil]
    rw [this]
    exact h2 _ (List.getElem_mem _)
  rw [this]; simp
/-- What is read is written so, if it is as short as can be. -/
theorem num_val (l : List UInt8) : ∀ (b : UInt8), b.toNat < 128 → (∀ x ∈ l, ¬ x.toNat < 128) → (l = [] ∨ b ≠ 0) → num (val (l ++ [b])) = l ++ [b] := by
  induction l with
  | nil =>
    intro b hb _ _
    have : val ([] ++ [b]) = b.toNat := by simp [val]; omega
    rw [this, num_low hb]; simp
  | cons x l ih =>
    intro b hb hl h0
    have hb0 : b ≠ 0 := by rcases h0 with h | h <;> first | cases h | exact h
    have hx := hl x (by simp)
    have hlt := x.toNat_lt
    have hv : 1 ≤ val (l ++ [b]) := by
      rw [val_snoc]
      have : 1 ≤ b.toNat := by
        rcases Nat.eq_zero_or_pos b.toNat with h | h
        · exact absurd (UInt8.toNat_inj.1 (by simpa using h)) hb0
        · exact h
      have h1 : 1 ≤ 128 ^ l.length := Nat.one_le_pow _ _ (by decide)
      have := Nat.mul_le_mul h1 (show 1 ≤ b.toNat % 128 by omega)
      omega
    have e : val (x :: l ++ [b]) = x.toNat % 128 + 128 * val (l ++ [b]) := rfl
    rw [e, num_high (by omega)]
    have e1 : (x.toNat % 128 + 128 * val (l ++ [b])) % 128 = x.toNat % 128 := by omega
    have e2 : (x.toNat % 128 + 128 * val (l ++ [b])) / 128 = val (l ++ [b]) := by omega
    rw [e1, e2, ih b hb (fun y hy => hl y (by simp [hy])) (.inr hb0)]
    have : UInt8.ofNat (128 + x.toNat % 128) = x := UInt8.toNat_inj.1 (by rw [u8_nat _ (by omega)]; omega)
    rw [this]; rfl

/-- What is left, and the first error. -/
structure St where
  left : List UInt8
  err : Int
def St.fail (s : St) (e : Int) : St := ⟨[], if s.err = 0 then e else s.err⟩
/-- Is what is read not as short as can be, or too great? -/
def wrong (s : List UInt8) (most : Int) : Prop := (2 ≤ s.length ∧ s.getLast? = some 0) ∨ 4611686018427387904 < val s ∨ most < (val s : Int)
instance (s : List UInt8) (most : Int) : Decidable (wrong s most) := by unfold wrong; infer_instance
/-- A number is read. -/
def St.num (s : St) (most : Int) : St × Nat :=
  if 9 ≤ lead s.left then (s.fail 21, 0)
  else if s.left.length ≤ lead s.left then (s.fail 20, 0)
  else if wrong (s.left.take (lead s.left + 1)) most then (s.fail 21, 0)
  else (⟨s.left.drop (lead s.left + 1), s.err⟩, val (s.left.take (lead s.left + 1)))
/-- A text is read. -/
def St.text (s : St) (most : Int) : St × List UInt8 :=
  let r := s.num most
  if r.1.left.length < r.2 then (r.1.fail 20, []) else (⟨r.1.left.drop r.2, r.1.err⟩, r.1.left.take r.2)
/-- Whether something is, is read. -/
def St.bool (s : St) : St × Bool :=
  match s.left with
  | [] => (s.fail 20, false)
  | b :: l => if 1 < b.toNat then (s.fail 21, false) else (⟨l, s.err⟩, b == 1)
def St.done (s : St) : Int := if s.left = [] then s.err else 22

theorem take_last {l : List UInt8} (h : lead l < l.length) : l.take (lead l + 1) = l.take (lead l) ++ [l[lead l]] := take_succ_getD l _ h
theorem mem_lead {l : List UInt8} (h : lead l < l.length) {x : UInt8} (hx : x ∈ l.take (lead l)) : ¬ x.toNat < 128 := by
  obtain ⟨i, hi, rfl⟩ := List.getElem_of_mem hx
  have hi' : i < lead l := by simp at hi; omega
  simpa using lead_big l i (by omega) hi'
/-- What is read without an error is what is written. -/
theorem num_read {s : St} {most : Int} (he : s.err = 0) (h : (s.num most).1.err = 0) :
    ∃ n : Nat, s.num most = (⟨s.left.drop (num n).length, 0⟩, n) ∧ s.left.take (num n).length = num n ∧ (num n).length ≤ s.left.length ∧ n ≤ 4611686018427387904 ∧ (n : Int) ≤ most := by
  unfold St.num at h ⊢
  split at h
  · simp [St.fail, he] at h
  · split at h
    · simp [St.fail, he] at h
    · split at h
      · simp [St.fail, he] at h
      · rename_i h1 h2 h3
        rw [if_neg h1, if_neg h2, if_neg h3]
        have hlt : lead s.left < s.left.length := by omega
        have e := take_last hlt
        unfold wrong at h3
        have e2 : num (val (s.left.take (lead s.left + 1))) = s.left.take (lead s.left + 1) := by
          rw [e]
          refine num_val _ _ (lead_small _ hlt) (fun x hx => mem_lead hlt hx) ?_
          by_cases h0 : lead s.left = 0
          · left; simp [h0]
          · right
            intro hz
            apply h3
            left
            rw [e, hz]
            simp
            omega
        refine ⟨val (s.left.take (lead s.left + 1)), ?_, ?_, ?_, by omega, by omega⟩
        · rw [e2, he]; simp only [List.length_take, Nat.min_eq_left hlt]
        · rw [e2]; simp only [List.length_take, Nat.min_eq_left hlt]
        · rw [e2]; simp only [List.length_take, Nat.min_eq_left hlt]; exact hlt
/-- What was written is read. -/
theorem read_num (n : Nat) (r : List UInt8) (e most : Int) (h1 : n ≤ 4611686018427387904) (h2 : (n : Int) ≤ most) : St.num ⟨num n ++ r, e⟩ most = (⟨r, e⟩, n) := by
  have hl := lead_num n r
  have h9 := num_nine h1
  have ht : (num n ++ r).take (lead (num n ++ r) + 1) = num n := by rw [hl]; simp
  unfold St.num
  simp only []
  rw [if_neg (by omega), if_neg (by simp; omega), ht, if_neg, val_num, hl]
  · simp
  · unfold wrong
    rw [val_num]
    obtain ⟨l, b, e, _, _, h3⟩ := num_form n
    rw [e]
    simp
    refine ⟨fun hlen hb => ?_, h1, h2⟩
    rcases h3 with rfl | h3
    · simp at hlen
    · exact h3 hb
/-! Parts, as they are written. -/
structure Part where
  kind : Int
  n : Int
  most : Int
  s : List UInt8
  is : Bool
def Part.good (p : Part) : Bool := if p.kind = 0 then decide (0 ≤ p.n ∧ p.n ≤ 4611686018427387904) else if p.kind = 1 then decide (p.s.length ≤ 65536) else true
def Part.bytes (p : Part) : List UInt8 :=
  if p.kind = 0 then (if 0 ≤ p.n ∧ p.n ≤ 4611686018427387904 then num p.n.toNat else [])
  else if p.kind = 1 then (if p.s.length ≤ 65536 then num p.s.length ++ p.s else [])
  else if p.kind = 2 then [if p.is then 1 else 0] else []
/-- What a part is read as. -/
def St.part (s : St) (p : Part) : St × Part :=
  if p.kind = 0 then ((s.num p.most).1, { kind := p.kind, n := (s.num p.most).2, most := p.most, s := [], is := false })
  else if p.kind = 1 then ((s.text p.most).1, { kind := p.kind, n := 0, most := p.most, s := (s.text p.most).2, is := false })
  else if p.kind = 2 then (s.bool.1, { kind := p.kind, n := 0, most := p.most, s := [], is := s.bool.2 })
  else (s, { kind := p.kind, n := 0, most := p.most, s := [], is := false })
def Part.full (p : Part) : Part := { p with most := 4611686018427387904 }
/-- Many parts. -/
def St.parts (s : St) : List Part → St
  | [] => s
  | p :: ps => St.parts (s.part p.full).1 ps
end Go.Proofs.YtaijgpdlgcgfaaaGreat.Pack

/- Plain mathematics of CRC-32 on natural numbers: the step, the table, that it is linear, that a turned byte is told. No program. -/
namespace Go.Proofs.YtaijgpdlgcgfaaaGreat.Crc

/-- One bit out. -/
def step (n : Nat) : Nat := if n % 2 = 1 then (n / 2) ^^^ 3988292384 else n / 2
/-- k bits out. -/
def steps : Nat → Nat → Nat
  | 0, n => n
  | k + 1, n => steps k (step n)
/-- One byte more. -/
def byte (n : Nat) (x : UInt8) : Nat := steps 8 (n ^^^ x.toNat)
def run (n : Nat) (l : List UInt8) : Nat := l.foldl byte n
def more (s : Nat) (l : List UInt8) : Nat := 4294967295 - run (4294967295 - s) l
def sum (l : List UInt8) : Nat := more 0 l
def low (n : Nat) : List UInt8 := [UInt8.ofNat n, UInt8.ofNat (n / 256), UInt8.ofNat (n / 65536), UInt8.ofNat (n / 16777216)]

theorem xor_lt (a b : Nat) (ha : a < 4294967296) (hb : b < 4294967296) : a ^^^ b < 4294967296 := Nat.xor_lt_two_pow (n := 32) ha hb

theorem step_lt (n : Nat) (h : n < 4294967296) : step n < 4294967296 := by
  unfold step
  split
  · exact xor_lt _ _ (by omega) (by omega)
  · omega

theorem steps_lt (k : Nat) : ∀ n, n < 4294967296 → steps k n < 4294967296 := by
  induction k with
  | zero => intro n h; exact h
  | succ k ih => intro n h; exact ih _ (step_lt n h)

theorem byte_lt (n : Nat) (x : UInt8) (h : n < 4294967296) : byte n x < 4294967296 :=
  steps_lt 8 _ (xor_lt _ _ h (by have := x.toNat_lt; omega))

theorem run_lt (l : List UInt8) : ∀ n, n < 4294967296 → run n l < 4294967296 := by
  induction l with
  | nil => intro n h; exact h
  | cons x l ih => intro n h; exact ih _ (byte_lt n x h)

theorem more_lt (s : Nat) (l : List UInt8) : more s l < 4294967296 := by unfold more; omega

theorem run_append (n : Nat) (a b : List UInt8) : run n (a ++ b) = run (run n a) b := List.foldl_append

theorem more_more (s : Nat) (a b : List UInt8) : more (more s a) b = more s (a ++ b) := by
  unfold more
  have h := run_lt a (4294967295 - s) (by omega)
  rw [run_append]
  congr 2
  omega

theorem more_nil (s : Nat) (h : s < 4294967296) : more s [] = s := by
  show 4294967295 - (4294967295 - s) = s
  omega

theorem xor_mod2 (a b : Nat) : (a ^^^ b) % 2 = (a % 2 + b % 2) % 2 := by
  have h := Nat.testBit_xor a b 0
  simp only [Nat.testBit_zero] at h
  rcases Nat.mod_two_eq_zero_or_one a with ha | ha <;> rcases Nat.mod_two_eq_zero_or_one b with hb | hb <;>
    rcases Nat.mod_two_eq_zero_or_one (a ^^^ b) with hc | hc <;> simp_all

theorem xor_div2 (a b : Nat) : (a ^^^ b) / 2 = (a / 2) ^^^ (b / 2) := by
  apply Nat.eq_of_testBit_eq
  intro i
  simp [Nat.testBit_div_two]

theorem step_xor (a b : Nat) : step (a ^^^ b) = step a ^^^ step b := by
  unfold step
  rw [xor_mod2, xor_div2]
  rcases Nat.mod_two_eq_zero_or_one a with ha | ha <;> rcases Nat.mod_two_eq_zero_or_one b with hb | hb <;> simp only [ha, hb]
  · simp
  · simp [Nat.xor_assoc]
  · simp
    rw [Nat.xor_assoc, Nat.xor_assoc, Nat.xor_comm 3988292384]
  · simp
    have e : ∀ x y p : Nat, x ^^^ y = x ^^^ p ^^^ (y ^^^ p) := by
      intro x y p
      apply Nat.eq_of_testBit_eq
      intro i
      simp only [Nat.testBit_xor]
      cases x.testBit i <;> cases y.testBit i <;> cases p.testBit i <;> rfl
    exact e _ _ _

theorem steps_xor (k : Nat) : ∀ a b, steps k (a ^^^ b) = steps k a ^^^ steps k b := by
  induction k with
  | zero => intro a b; rfl
  | succ k ih => intro a b; show steps k (step (a ^^^ b)) = _; rw [step_xor, ih]; rfl

theorem steps_succ (k : Nat) : ∀ n, steps (k + 1) n = step (steps k n) := by
  induction k with
  | zero => intro n; rfl
  | succ k ih => intro n; show steps (k + 1) (step n) = _; rw [ih]; rfl

/-- Bits that are 0 fall out alone. -/
theorem steps_mul (k : Nat) : ∀ n, steps k (n * 2 ^ k) = n := by
  induction k with
  | zero => intro n; simp [steps]
  | succ k ih =>
    intro n
    show steps k (step (n * 2 ^ (k + 1))) = n
    have h : step (n * 2 ^ (k + 1)) = n * 2 ^ k := by
      unfold step
      have e : n * 2 ^ (k + 1) = 2 * (n * 2 ^ k) := by rw [Nat.pow_succ]; ac_rfl
      rw [e, if_neg (by omega)]
      omega
    rw [h, ih]

/-- The table's own way: eight bits at once. -/
theorem split_low (n : Nat) : n = (n / 256 * 2 ^ 8) ^^^ (n % 256) := by
  apply Nat.eq_of_testBit_eq
  intro i
  rw [Nat.testBit_xor, Nat.testBit_mul_two_pow]
  rw [show n / 256 = n >>> 8 from by rw [Nat.shiftRight_eq_div_pow]]
  rw [Nat.testBit_shiftRight, show n % 256 = n % 2 ^ 8 from rfl, Nat.testBit_mod_two_pow]
  by_cases h : i < 8
  · have h8 : ¬ 8 ≤ i := by omega
    simp [h, h8]
  · have h8 : 8 ≤ i := by omega
    simp [h, h8, Nat.add_sub_cancel' h8]

theorem steps8 (n : Nat) : steps 8 n = (n / 256) ^^^ steps 8 (n % 256) := by
  conv => lhs; rw [split_low n]
  rw [steps_xor, steps_mul]

theorem xor_div256 (a b : Nat) : (a ^^^ b) / 256 = (a / 256) ^^^ (b / 256) := by
  apply Nat.eq_of_testBit_eq
  intro i
  rw [show (256 : Nat) = 2 ^ 8 from rfl]
  simp only [Nat.testBit_div_two_pow, Nat.testBit_xor]

theorem xor_mod256 (a b : Nat) : (a ^^^ b) % 256 = (a % 256) ^^^ (b % 256) := by
  apply Nat.eq_of_testBit_eq
  intro i
  rw [show (256 : Nat) = 2 ^ 8 from rfl]
  simp only [Nat.testBit_mod_two_pow, Nat.testBit_xor]
  by_cases h : i < 8 <;> simp [h]

theorem byte_table (n : Nat) (x : UInt8) : byte n x = (n / 256) ^^^ steps 8 (n % 256 ^^^ x.toNat) := by
  have hx := x.toNat_lt
  unfold byte
  rw [steps8, xor_div256, xor_mod256, Nat.div_eq_of_lt (a := x.toNat) (by omega), Nat.mod_eq_of_lt (a := x.toNat) (by omega)]
  simp

/-- What Cut tells: the bytes ahead of the sum, if it is right. -/
def cutOf (l : List UInt8) : Option (List UInt8) :=
  if l.length < 4 then none else if l.take (l.length - 4) ++ low (sum (l.take (l.length - 4))) = l then some (l.take (l.length - 4)) else none
theorem low_length (n : Nat) : (low n).length = 4 := rfl
theorem cut_put (l : List UInt8) : cutOf (l ++ low (sum l)) = some l := by
  have h1 : (l ++ low (sum l)).length = l.length + 4 := by rw [List.length_append, low_length]
  unfold cutOf
  rw [h1, if_neg (by omega)]
  have h2 : (l ++ low (sum l)).take (l.length + 4 - 4) = l := by rw [Nat.add_sub_cancel]; exact List.take_left
  rw [h2, if_pos rfl]

theorem sum_nil : sum [] = 0 := more_nil 0 (by decide)

theorem all_xor (s : Nat) (h : s < 4294967296) : 4294967295 ^^^ s = 4294967295 - s := by
  apply Nat.eq_of_testBit_eq
  intro i
  rw [Nat.testBit_xor, show (4294967295 : Nat) = 2 ^ 32 - 1 from rfl, Nat.testBit_two_pow_sub_one]
  rw [show 2 ^ 32 - 1 - s = 2 ^ 32 - (s + 1) from by omega, Nat.testBit_two_pow_sub_succ h]
  by_cases hi : i < 32
  · simp [hi]
  · have : s.testBit i = false := Nat.testBit_lt_two_pow (Nat.lt_of_lt_of_le h (show (4294967296 : Nat) ≤ 2 ^ i from Nat.pow_le_pow_right (n := 2) (by omega) (show 32 ≤ i by omega)))
    simp [hi, this]

/-! The table, filled by halves. -/
theorem steps_add (j k : Nat) : ∀ n, steps (j + k) n = steps j (steps k n) := by
  induction k with
  | zero => intro n; rfl
  | succ k ih => intro n; show steps (j + k) (step n) = _; rw [ih]; rfl
theorem steps_bit (k : Nat) (h : k < 8) : steps 8 (2 ^ (7 - k)) = steps (k + 1) 1 := by
  have e : 8 = (k + 1) + (7 - k) := by omega
  conv => lhs; rw [e]
  rw [steps_add]
  have := steps_mul (7 - k) 1
  rw [Nat.one_mul] at this
  rw [this]
theorem add_eq_xor (a m : Nat) : a * 2 ^ (m + 1) + 2 ^ m = (a * 2 ^ (m + 1)) ^^^ 2 ^ m := by
  apply Nat.eq_of_testBit_eq
  intro i
  have h2 : 2 ^ m < 2 ^ (m + 1) := by rw [Nat.pow_succ]; have := Nat.two_pow_pos m; omega
  rw [Nat.mul_comm, Nat.testBit_two_pow_mul_add _ h2, Nat.testBit_xor, Nat.testBit_two_pow_mul]
  by_cases hi : i < m + 1
  · have : ¬ m + 1 ≤ i := by omega
    simp [hi, this]
  · have h3 : m + 1 ≤ i := by omega
    have h4 : (2 ^ m).testBit i = false := by rw [Nat.testBit_two_pow]; simp; omega
    simp [hi, h3, h4]
theorem table_next (a k : Nat) (h : k < 8) : steps 8 (a * 2 ^ (8 - k) + 2 ^ (7 - k)) = steps 8 (a * 2 ^ (8 - k)) ^^^ steps (k + 1) 1 := by
  have e : 8 - k = (7 - k) + 1 := by omega
  rw [e, add_eq_xor, steps_xor, steps_bit k h]

/-! Bytes of which one, and perhaps its neighbour, is another one. -/

/-- One byte turned, and its neighbour perhaps. -/
def turned (l : List UInt8) (k : Nat) (t u : UInt8) : List UInt8 :=
  if k + 1 < l.length then (l.set k (l.getD k 0 ^^^ t)).set (k + 1) (l.getD (k + 1) 0 ^^^ u) else l.set k (l.getD k 0 ^^^ t)
end Go.Proofs.YtaijgpdlgcgfaaaGreat.Crc

/- Layer 4, mathematics: records as bytes; no program. -/
namespace Go.Proofs.YtaijgpdlgcgfaaaGreat.Rec

structure R where
  client : Int
  number : Int
  tags : List Int
  data : List UInt8

/-- Do these rise, from above last on, up to 2^30? -/
def rising : Int → List Int → Bool
  | _, [] => true
  | last, t :: l => decide (last < t ∧ t ≤ 1073741824) && rising t l
def okId (n : Int) : Bool := decide (0 ≤ n ∧ n ≤ 1099511627776)
def right (r : R) : Bool := okId r.client && (okId r.number && (rising 0 r.tags && decide (r.tags.length ≤ 8 ∧ r.data.length ≤ 1024)))
/-- Numbers, one behind the other. -/
def numsOf (ns : List Int) : List UInt8 := (ns.map fun n => Pack.num n.toNat).flatten
theorem numsOf_snoc (ns : List Int) (n : Int) : numsOf (ns ++ [n]) = numsOf ns ++ Pack.num n.toNat := by simp [numsOf]
theorem numsOf_cons (n : Int) (ns : List Int) : numsOf (n :: ns) = Pack.num n.toNat ++ numsOf ns := by simp [numsOf]
/-- A record without its sum. -/
def text (r : R) : List UInt8 := Pack.num r.client.toNat ++ (Pack.num r.number.toNat ++ (Pack.num r.tags.length ++ (numsOf r.tags ++ (Pack.num r.data.length ++ r.data))))
def enc (r : R) : List UInt8 := text r ++ Crc.low (Crc.sum (text r))

theorem rising_ok : ∀ (l : List Int) (last : Int), 0 ≤ last → rising last l = true → ∀ x ∈ l, 1 ≤ x ∧ x ≤ 1073741824 := by
  intro l
  induction l with
  | nil => intro _ _ _ x hx; cases hx
  | cons t l ih =>
    intro last h0 h x hx
    simp only [rising, Bool.and_eq_true, decide_eq_true_eq] at h
    rcases List.mem_cons.1 hx with rfl | hx
    · omega
    · exact ih t (by omega) h.2 x hx
theorem right_ok {r : R} (h : right r = true) : (0 ≤ r.client ∧ r.client ≤ 1099511627776) ∧ (0 ≤ r.number ∧ r.number ≤ 1099511627776) ∧ rising 0 r.tags = true ∧ (∀ x ∈ r.tags, 1 ≤ x ∧ x ≤ 1073741824) ∧ r.tags.length ≤ 8 ∧ r.data.length ≤ 1024 := by
  unfold right okId at h
  simp only [Bool.and_eq_true, decide_eq_true_eq] at h
  obtain ⟨h1, h2, h3, h4, h5⟩ := h
  exact ⟨h1, h2, h3, rising_ok _ 0 (by omega) h3, h4, h5⟩

/-- So many numbers, none above most. -/
def readsM (most : Int) (s : Pack.St) : Nat → Pack.St × List Int
  | 0 => (s, [])
  | k + 1 => (((readsM most s k).1.num most).1, (readsM most s k).2 ++ [(((readsM most s k).1.num most).2 : Int)])
theorem readsM_len (most : Int) (s : Pack.St) (k : Nat) : (readsM most s k).2.length = k := by
  induction k with
  | zero => rfl
  | succ k ih => simp [readsM, ih]
/-- What is read, part by part. -/
def stA (l : List UInt8) : Pack.St × Nat := Pack.St.num ⟨l, 0⟩ 1099511627776
def stB (l : List UInt8) : Pack.St × Nat := (stA l).1.num 1099511627776
def stC (l : List UInt8) : Pack.St × Nat := (stB l).1.num 8
def stD (l : List UInt8) : Pack.St × List Int := readsM 1073741824 (stC l).1 (stC l).2
def stE (l : List UInt8) : Pack.St × List UInt8 := (stD l).1.text 1024
def read (l : List UInt8) : R := ⟨(stA l).2, (stB l).2, (stD l).2, (stE l).2⟩
def readOk (l : List UInt8) : Bool := ((stE l).1.done == 0) && right (read l)

theorem reads_back (most : Int) (ns : List Int) (h : ∀ x ∈ ns, 0 ≤ x ∧ x ≤ most ∧ x ≤ 4611686018427387904) (r : List UInt8) : ∀ k, k ≤ ns.length → readsM most ⟨numsOf ns ++ r, 0⟩ k = (⟨numsOf (ns.drop k) ++ r, 0⟩, ns.take k) := by
  intro k
  induction k with
  | zero => intro _; simp [readsM]
  | succ k ih =>
    intro hk
    have hlt : k < ns.length := by omega
    have hx := h _ (List.getElem_mem hlt)
    have hd : ns.drop k = ns[k] :: ns.drop (k + 1) := by rw [List.drop_eq_getElem_cons hlt]
    unfold readsM
    rw [ih (by omega), hd, numsOf_cons, List.append_assoc]
    have hr := Pack.read_num ns[k].toNat (numsOf (ns.drop (k + 1)) ++ r) 0 most (by omega) (by omega)
    rw [hr, List.take_succ_eq_append_getElem hlt]
    simp only
    rw [show ((ns[k].toNat : Nat) : Int) = ns[k] from by omega]
theorem read_text {r : R} (h : right r = true) : (stE (text r)).1 = ⟨[], 0⟩ ∧ read (text r) = r := by
  obtain ⟨h1, h2, h3, h4, h5, h6⟩ := right_ok h
  have hA : stA (text r) = (⟨Pack.num r.number.toNat ++ (Pack.num r.tags.length ++ (numsOf r.tags ++ (Pack.num r.data.length ++ r.data))), 0⟩, r.client.toNat) := Pack.read_num _ _ _ _ (by omega) (by omega)
  have hB : stB (text r) = (⟨Pack.num r.tags.length ++ (numsOf r.tags ++ (Pack.num r.data.length ++ r.data)), 0⟩, r.number.toNat) := by
    unfold stB; rw [hA]; exact Pack.read_num _ _ _ _ (by omega) (by omega)
  have hC : stC (text r) = (⟨numsOf r.tags ++ (Pack.num r.data.length ++ r.data), 0⟩, r.tags.length) := by
    unfold stC; rw [hB]; exact Pack.read_num _ _ _ _ (by omega) (by omega)
  have hD : stD (text r) = (⟨Pack.num r.data.length ++ r.data, 0⟩, r.tags) := by
    unfold stD; rw [hC]
    have := reads_back 1073741824 r.tags (fun x hx => by have := h4 x hx; omega) (Pack.num r.data.length ++ r.data) r.tags.length (Nat.le_refl _)
    rw [List.drop_length, List.take_length] at this
    exact this
  have hE : stE (text r) = (⟨[], 0⟩, r.data) := by
    unfold stE; rw [hD]
    unfold Pack.St.text
    rw [Pack.read_num _ _ _ _ (by omega) (by omega)]
    simp
  refine ⟨by rw [hE], ?_⟩
  unfold read
  rw [hA, hB, hD, hE]
  obtain ⟨c, n, t, d⟩ := r
  simp only at h1 h2 ⊢
  rw [show ((c.toNat : Nat) : Int) = c from by omega, show ((n.toNat : Nat) : Int) = n from by omega]
theorem readOk_text {r : R} (h : right r = true) : readOk (text r) = true := by
  unfold readOk
  rw [(read_text h).1, (read_text h).2, h]
  rfl
/-! What is read without an error is what is written. -/
theorem num_err {s : Pack.St} {most : Int} (h : (s.num most).1.err = 0) : s.err = 0 := by
  by_cases he : s.err = 0
  · exact he
  · exfalso
    unfold Pack.St.num at h
    split at h
    · simp [Pack.St.fail, he] at h
    · split at h
      · simp [Pack.St.fail, he] at h
      · split at h
        · simp [Pack.St.fail, he] at h
        · exact he h
theorem num_left {s : Pack.St} {most : Int} (h : (s.num most).1.err = 0) : s.left = Pack.num (s.num most).2 ++ (s.num most).1.left := by
  obtain ⟨n, h1, h2, h3, _, _⟩ := Pack.num_read (num_err h) h
  rw [h1]
  simp only
  rw [← h2, List.length_take, Nat.min_eq_left h3, List.take_append_drop]
theorem reads_err {most : Int} {s : Pack.St} : ∀ k, (readsM most s k).1.err = 0 → s.err = 0 := by
  intro k
  induction k with
  | zero => exact id
  | succ k ih => intro h; exact ih (num_err h)
theorem reads_left {most : Int} {s : Pack.St} : ∀ k, (readsM most s k).1.err = 0 → s.left = numsOf (readsM most s k).2 ++ (readsM most s k).1.left := by
  intro k
  induction k with
  | zero => intro _; simp [readsM, numsOf]
  | succ k ih =>
    intro h
    have h1 : ((readsM most s k).1.num most).1.err = 0 := h
    rw [ih (num_err h1), num_left h1]
    show _ = numsOf ((readsM most s k).2 ++ [(((readsM most s k).1.num most).2 : Int)]) ++ ((readsM most s k).1.num most).1.left
    rw [numsOf_snoc, List.append_assoc]
    simp
theorem text_err {s : Pack.St} {most : Int} (h : (s.text most).1.err = 0) : (s.num most).1.err = 0 := by
  unfold Pack.St.text at h
  simp only at h
  split at h
  · by_cases he : (s.num most).1.err = 0
    · exact he
    · simp [Pack.St.fail, he] at h
  · exact h
theorem text_left {s : Pack.St} {most : Int} (h : (s.text most).1.err = 0) : s.left = Pack.num (s.text most).2.length ++ ((s.text most).2 ++ (s.text most).1.left) := by
  have h0 := num_left (text_err h)
  unfold Pack.St.text at h ⊢
  simp only at h ⊢
  split at h
  · exfalso
    by_cases he : (s.num most).1.err = 0
    · simp [Pack.St.fail, he] at h
    · simp [Pack.St.fail, he] at h
  · rename_i hn
    rw [if_neg hn]
    simp only [List.length_take, List.take_append_drop]
    rw [Nat.min_eq_left (by omega)]
    exact h0
theorem done_zero {s : Pack.St} (h : s.done = 0) : s.left = [] ∧ s.err = 0 := by
  unfold Pack.St.done at h
  split at h
  · rename_i h1; exact ⟨h1, h⟩
  · cases h
/-- Bytes that are read as a record are its bytes. -/
theorem text_read {l : List UInt8} (h : (stE l).1.done = 0) : text (read l) = l := by
  obtain ⟨h1, h2⟩ := done_zero h
  have h2' : ((stD l).1.text 1024).1.err = 0 := by unfold stE at h2; exact h2
  have eD : (stD l).1.err = 0 := num_err (text_err h2')
  have eD' : (readsM 1073741824 (stC l).1 (stC l).2).1.err = 0 := by unfold stD at eD; exact eD
  have eC : (stC l).1.err = 0 := reads_err _ eD'
  have eC' : ((stB l).1.num 8).1.err = 0 := by unfold stC at eC; exact eC
  have eB : (stB l).1.err = 0 := num_err eC'
  have eB' : ((stA l).1.num 1099511627776).1.err = 0 := by unfold stB at eB; exact eB
  have eA : (stA l).1.err = 0 := num_err eB'
  have lE := text_left (s := (stD l).1) (most := 1024) h2'
  have lD := reads_left (most := 1073741824) (s := (stC l).1) (stC l).2 eD'
  have lC := num_left (s := (stB l).1) (most := 8) eC'
  have lB := num_left (s := (stA l).1) (most := 1099511627776) eB'
  have eA' : (Pack.St.num ⟨l, 0⟩ 1099511627776).1.err = 0 := by unfold stA at eA; exact eA
  have lA := num_left (s := ⟨l, 0⟩) (most := 1099511627776) eA'
  have hlen : (stD l).2.length = (stC l).2 := by unfold stD; exact readsM_len _ _ _
  have h1' : ((stD l).1.text 1024).1.left = [] := by unfold stE at h1; exact h1
  rw [h1', List.append_nil] at lE
  unfold text read
  simp only
  have lA' : l = Pack.num (stA l).2 ++ (stA l).1.left := by rw [show stA l = _ from rfl]; exact lA
  have lB' : (stA l).1.left = Pack.num (stB l).2 ++ (stB l).1.left := by rw [show stB l = _ from rfl]; exact lB
  have lC' : (stB l).1.left = Pack.num (stC l).2 ++ (stC l).1.left := by rw [show stC l = _ from rfl]; exact lC
  have lD' : (stC l).1.left = numsOf (stD l).2 ++ (stD l).1.left := by rw [show stD l = _ from rfl]; exact lD
  have lE' : (stD l).1.left = Pack.num (stE l).2.length ++ (stE l).2 := by rw [show stE l = _ from rfl]; exact lE
  rw [hlen, show (((stA l).2 : Nat) : Int).toNat = (stA l).2 from rfl, show (((stB l).2 : Nat) : Int).toNat = (stB l).2 from rfl, ← lE', ← lD', ← lC', ← lB', ← lA']

/-! Tags. -/
def same (a b : R) : Bool := (a.client == b.client) && ((a.number == b.number) && ((a.tags == b.tags) && (a.data == b.data)))
theorem same_iff (a b : R) : same a b = true ↔ a = b := by
  obtain ⟨a1, a2, a3, a4⟩ := a
  obtain ⟨b1, b2, b3, b4⟩ := b
  unfold same
  simp
/-! Places. -/
/-- Is what is cut a record, and which? -/
def dec (b : List UInt8) : Option R := match Crc.cutOf b with
  | none => none
  | some l => if readOk l then some (read l) else none
theorem dec_enc {r : R} (h : right r = true) : dec (enc r) = some r := by
  unfold dec enc
  rw [Crc.cut_put]
  simp only [readOk_text h, if_true, (read_text h).2]
theorem enc_dec {b : List UInt8} {r : R} (h : dec b = some r) : right r = true ∧ enc r = b := by
  unfold dec at h
  split at h
  · cases h
  · rename_i l hl
    split at h
    · rename_i hok
      injection h with h
      unfold readOk at hok
      rw [Bool.and_eq_true, beq_iff_eq] at hok
      subst h
      refine ⟨hok.2, ?_⟩
      unfold enc
      rw [text_read hok.1]
      unfold Crc.cutOf at hl
      split at hl
      · cases hl
      · split at hl
        · rename_i hc
          injection hl with hl
          rw [← hl]
          exact hc
        · cases hl
    · cases h
theorem numsOf_le : ∀ l : List Int, (∀ x ∈ l, 1 ≤ x ∧ x ≤ 1073741824) → (numsOf l).length ≤ 9 * l.length := by
  intro l
  induction l with
  | nil => intro _; simp [numsOf]
  | cons x l ih =>
    intro hl
    rw [numsOf_cons, List.length_append, List.length_cons]
    have := Pack.num_nine (n := x.toNat) (by have := hl x (by simp); omega)
    have := ih (fun y hy => hl y (by simp [hy]))
    omega
theorem enc_le {r : R} (h : right r = true) : (enc r).length ≤ 1136 := by
  obtain ⟨h1, h2, _, h4, h5, h6⟩ := right_ok h
  have n1 := Pack.num_nine (n := r.client.toNat) (by omega)
  have n2 := Pack.num_nine (n := r.number.toNat) (by omega)
  have n3 := Pack.num_nine (n := r.tags.length) (by omega)
  have n4 := numsOf_le r.tags h4
  have n5 := Pack.num_nine (n := r.data.length) (by omega)
  unfold enc text
  simp only [List.length_append, Crc.low_length]
  omega
end Go.Proofs.YtaijgpdlgcgfaaaGreat.Rec

/- Layer 9, mathematics: what a row of frames says: records, how many are trimmed, and whether one is neither; no program. -/
namespace Go.Proofs.YtaijgpdlgcgfaaaGreat.Seg

structure What where
  l : List Rec.R
  trimmed : Nat
  broken : Bool
def recFrame (r : Rec.R) : List UInt8 := 1 :: Rec.enc r
def trimFrame (n : Nat) : List UInt8 := 2 :: Pack.num n
/-- The record that a frame is. -/
def asRec (f : List UInt8) : Option Rec.R := match f with
  | [] => none
  | k :: rest => if k = 1 then Rec.dec rest else none
/-- The trim that a frame is, where there are so many records, of which so many are trimmed. -/
def asTrim (many trimmed : Nat) (f : List UInt8) : Option Nat := match f with
  | [] => none
  | k :: rest => if k = 2 ∧ (Pack.St.num ⟨rest, 0⟩ (many : Int)).1.done = 0 ∧ trimmed ≤ (Pack.St.num ⟨rest, 0⟩ (many : Int)).2 then some (Pack.St.num ⟨rest, 0⟩ (many : Int)).2 else none
def step (w : What) (f : List UInt8) : What := match w.broken with
  | true => w
  | false => match asRec f with
    | some r => ⟨w.l ++ [r], w.trimmed, false⟩
    | none => match asTrim w.l.length w.trimmed f with
      | some n => ⟨w.l, n, false⟩
      | none => ⟨w.l, w.trimmed, true⟩
def readF (fs : List (List UInt8)) : What := fs.foldl step ⟨[], 0, false⟩
theorem readF_snoc (fs : List (List UInt8)) (f : List UInt8) : readF (fs ++ [f]) = step (readF fs) f := by
  unfold readF
  rw [List.foldl_append]
  rfl
theorem step_broken {w : What} (h : w.broken = true) (f : List UInt8) : step w f = w := by
  unfold step
  rw [h]
theorem num_most (s : Pack.St) (most : Int) (h : 0 ≤ most) : ((s.num most).2 : Int) ≤ most := by
  unfold Pack.St.num
  split
  · exact h
  · split
    · exact h
    · split
      · exact h
      · rename_i h3
        unfold Pack.wrong at h3
        simp only
        omega
theorem asTrim_ok {many trimmed n : Nat} {f : List UInt8} (h : asTrim many trimmed f = some n) : trimmed ≤ n ∧ n ≤ many := by
  unfold asTrim at h
  split at h
  · cases h
  · rename_i k rest
    split at h
    · rename_i hc
      injection h with h
      have := num_most ⟨rest, 0⟩ (many : Int) (by omega)
      omega
    · cases h
theorem asRec_right {f : List UInt8} {r : Rec.R} (h : asRec f = some r) : Rec.right r = true := by
  unfold asRec at h
  split at h
  · cases h
  · split at h
    · exact (Rec.enc_dec h).1
    · cases h
theorem asRec_rec {r : Rec.R} (h : Rec.right r = true) : asRec (recFrame r) = some r := by
  show (if (1 : UInt8) = 1 then Rec.dec (Rec.enc r) else none) = some r
  rw [if_pos rfl, Rec.dec_enc h]
theorem asRec_trim (n : Nat) : asRec (trimFrame n) = none := by
  show (if (2 : UInt8) = 1 then Rec.dec (Pack.num n) else none) = none
  rw [if_neg (by decide)]
theorem asTrim_trim {many trimmed n : Nat} (h1 : trimmed ≤ n) (h2 : n ≤ many) (h3 : many ≤ 4611686018427387904) : asTrim many trimmed (trimFrame n) = some n := by
  have hr : Pack.St.num ⟨Pack.num n, 0⟩ (many : Int) = (⟨[], 0⟩, n) := by
    have := Pack.read_num n [] 0 (many : Int) (by omega) (by omega)
    rwa [List.append_nil] at this
  show (if (2 : UInt8) = 2 ∧ (Pack.St.num ⟨Pack.num n, 0⟩ (many : Int)).1.done = 0 ∧ trimmed ≤ (Pack.St.num ⟨Pack.num n, 0⟩ (many : Int)).2 then some (Pack.St.num ⟨Pack.num n, 0⟩ (many : Int)).2 else none) = some n
  rw [hr, if_pos ⟨rfl, rfl, h1⟩]
theorem step_rec {w : What} {r : Rec.R} (hw : w.broken = false) (hr : Rec.right r = true) : step w (recFrame r) = ⟨w.l ++ [r], w.trimmed, false⟩ := by
  unfold step
  rw [hw, asRec_rec hr]
theorem step_trim {w : What} {n : Nat} (hw : w.broken = false) (h1 : w.trimmed ≤ n) (h2 : n ≤ w.l.length) (h3 : w.l.length ≤ 4611686018427387904) : step w (trimFrame n) = ⟨w.l, n, false⟩ := by
  unfold step
  rw [hw, asRec_trim]
  simp only [asTrim_trim h1 h2 h3]
/-- What a frame more does. -/
inductive Next (w : What) : What → Prop where
  | same : w.broken = true → Next w w
  | one (r : Rec.R) : w.broken = false → Rec.right r = true → Next w ⟨w.l ++ [r], w.trimmed, false⟩
  | trim (n : Nat) : w.broken = false → w.trimmed ≤ n → n ≤ w.l.length → Next w ⟨w.l, n, false⟩
  | stop : w.broken = false → Next w ⟨w.l, w.trimmed, true⟩
theorem step_next (w : What) (f : List UInt8) : Next w (step w f) := by
  unfold step
  cases hb : w.broken with
  | true => exact .same hb
  | false =>
    cases hr : asRec f with
    | some r => exact .one r hb (asRec_right hr)
    | none =>
      cases ht : asTrim w.l.length w.trimmed f with
      | some n => exact .trim n hb (asTrim_ok ht).1 (asTrim_ok ht).2
      | none => exact .stop hb
structure Good (w : What) : Prop where
  most : w.trimmed ≤ w.l.length
  right : ∀ r ∈ w.l, Rec.right r = true
theorem Good.next {w v : What} (g : Good w) (h : Next w v) : Good v := by
  cases h with
  | same _ => exact g
  | one r _ hr =>
    refine ⟨?_, fun x hx => ?_⟩
    · have := g.most; simp only [List.length_append, List.length_cons, List.length_nil]; omega
    · rcases List.mem_append.1 hx with h | h
      · exact g.right x h
      · obtain rfl : x = r := by simpa using h
        exact hr
  | trim n _ h1 h2 => exact ⟨h2, g.right⟩
  | stop _ => exact ⟨g.most, g.right⟩
theorem readF_good (fs : List (List UInt8)) : Good (readF fs) := by
  have key : ∀ (fs : List (List UInt8)) (w : What), Good w → Good (fs.foldl step w) := by
    intro fs
    induction fs with
    | nil => intro w g; exact g
    | cons f fs ih => intro w g; exact ih _ (g.next (step_next w f))
  exact key fs _ ⟨Nat.le_refl _, fun x hx => by cases hx⟩
/-- One is behind the other: more records, none less trimmed. -/
structure Grows (w v : What) : Prop where
  rows : w.l <+: v.l
  trims : w.trimmed ≤ v.trimmed
theorem Grows.refl (w : What) : Grows w w := ⟨List.prefix_refl _, Nat.le_refl _⟩
theorem Grows.trans {a b c : What} (h : Grows a b) (k : Grows b c) : Grows a c := ⟨h.rows.trans k.rows, Nat.le_trans h.trims k.trims⟩
theorem Next.grows {w v : What} (h : Next w v) : Grows w v := by
  cases h with
  | same _ => exact .refl _
  | one r _ _ => exact ⟨List.prefix_append _ _, Nat.le_refl _⟩
  | trim n _ h1 _ => exact ⟨List.prefix_refl _, h1⟩
  | stop _ => exact ⟨List.prefix_refl _, Nat.le_refl _⟩
theorem fold_grows : ∀ (fs : List (List UInt8)) (w : What), Grows w (fs.foldl step w) := by
  intro fs
  induction fs with
  | nil => intro w; exact .refl _
  | cons f fs ih => intro w; exact (step_next w f).grows.trans (ih _)
/-- Of more frames, more. -/
theorem readF_append (fs gs : List (List UInt8)) : Grows (readF fs) (readF (fs ++ gs)) := by
  unfold readF
  rw [List.foldl_append]
  exact fold_grows gs _
theorem readF_prefix {fs gs : List (List UInt8)} (h : fs <+: gs) : Grows (readF fs) (readF gs) := by
  obtain ⟨r, rfl⟩ := h
  exact readF_append fs r
theorem fold_broken : ∀ (fs : List (List UInt8)) (w : What), w.broken = true → fs.foldl step w = w := by
  intro fs
  induction fs with
  | nil => intro w _; rfl
  | cons f fs ih => intro w h; rw [List.foldl_cons, step_broken h]; exact ih w h
/-- Where it is broken, what stands behind counts for nothing. -/
theorem readF_stop {fs : List (List UInt8)} (h : (readF fs).broken = true) (gs : List (List UInt8)) : readF (fs ++ gs) = readF fs := by
  unfold readF at h ⊢
  rw [List.foldl_append]
  exact fold_broken gs _ h
/-- Records, each in a frame of its own. -/
theorem readF_recs (l : List Rec.R) (h : ∀ r ∈ l, Rec.right r = true) : readF (l.map recFrame) = ⟨l, 0, false⟩ := by
  have key : ∀ (l : List Rec.R) (w : What), (∀ r ∈ l, Rec.right r = true) → w.broken = false → (l.map recFrame).foldl step w = ⟨w.l ++ l, w.trimmed, false⟩ := by
    intro l
    induction l with
    | nil => intro w _ hb; obtain ⟨a, b, c⟩ := w; simp only at hb; subst hb; simp
    | cons r l ih =>
      intro w hr hb
      rw [List.map_cons, List.foldl_cons, step_rec hb (hr r (by simp)), ih _ (fun x hx => hr x (by simp [hx])) rfl]
      simp
  have := key l ⟨[], 0, false⟩ h rfl
  simpa [readF] using this
end Go.Proofs.YtaijgpdlgcgfaaaGreat.Seg

/- Layer 8, mathematics: frames, and with which ones bytes begin; no program. -/
namespace Go.Proofs.YtaijgpdlgcgfaaaGreat.Page

def textOf (x : List UInt8) : List UInt8 := Pack.num x.length ++ x
def frame (x : List UInt8) : List UInt8 := textOf x ++ Crc.low (Crc.sum (textOf x))
def small (x : List UInt8) : Prop := x.length ≤ 65536
theorem frame_length (x : List UInt8) : (frame x).length = (Pack.num x.length).length + x.length + 4 := by
  unfold frame textOf
  rw [List.length_append, List.length_append, Crc.low_length]
theorem num_pos (n : Nat) : 1 ≤ (Pack.num n).length := by
  by_cases h : n < 128
  · rw [Pack.num_low h]; simp
  · rw [Pack.num_high h]; simp
theorem frame_pos (x : List UInt8) : 5 ≤ (frame x).length := by
  have := num_pos x.length
  rw [frame_length]
  omega
/-- The frame with which bytes begin. -/
def first (s : List UInt8) : Option (List UInt8) := if (Pack.St.text ⟨s, 0⟩ 65536).1.err = 0 ∧ (frame (Pack.St.text ⟨s, 0⟩ 65536).2).isPrefixOf s = true then some (Pack.St.text ⟨s, 0⟩ 65536).2 else none
theorem read_textOf {x : List UInt8} (h : small x) (r : List UInt8) : Pack.St.text ⟨textOf x ++ r, 0⟩ 65536 = (⟨r, 0⟩, x) := by
  unfold small at h
  unfold Pack.St.text textOf
  rw [List.append_assoc, Pack.read_num _ _ _ _ (by omega) (by omega)]
  simp only []
  rw [if_neg (by rw [List.length_append]; omega), List.take_left, List.drop_left]
theorem num_most (s : Pack.St) (most : Int) (h : 0 ≤ most) : ((s.num most).2 : Int) ≤ most := by
  unfold Pack.St.num
  split
  · exact h
  · split
    · exact h
    · split
      · exact h
      · rename_i h3
        unfold Pack.wrong at h3
        simp only
        omega
theorem text_small (s : Pack.St) : small (s.text 65536).2 := by
  have := num_most s 65536 (by omega)
  unfold small Pack.St.text
  simp only
  split
  · simp
  · simp only [List.length_take]
    omega
theorem first_iff {s x : List UInt8} : first s = some x ↔ small x ∧ frame x <+: s := by
  unfold first
  constructor
  · intro h
    split at h
    · rename_i hc
      injection h with h
      subst h
      exact ⟨text_small _, List.isPrefixOf_iff_prefix.1 hc.2⟩
    · cases h
  · rintro ⟨h1, r, rfl⟩
    have h2 : Pack.St.text ⟨frame x ++ r, 0⟩ 65536 = (⟨Crc.low (Crc.sum (textOf x)) ++ r, 0⟩, x) := by
      unfold frame
      rw [List.append_assoc]
      exact read_textOf h1 _
    rw [h2]
    rw [if_pos ⟨rfl, List.isPrefixOf_iff_prefix.2 ⟨r, rfl⟩⟩]
theorem frame_unique {x y s : List UInt8} (hx : small x) (hy : small y) (h1 : frame x <+: s) (h2 : frame y <+: s) : x = y := by
  have a := first_iff.2 ⟨hx, h1⟩
  have b := first_iff.2 ⟨hy, h2⟩
  rw [a] at b
  injection b
theorem first_frame {x : List UInt8} (h : small x) (r : List UInt8) : first (frame x ++ r) = some x := first_iff.2 ⟨h, r, rfl⟩
/-- A frame that is cut is none. -/
theorem first_cut {x : List UInt8} (h : small x) {n : Nat} (hn : n < (frame x).length) : first ((frame x).take n) = none := by
  cases hf : first ((frame x).take n) with
  | none => rfl
  | some y =>
    obtain ⟨h1, h2⟩ := first_iff.1 hf
    have h3 : frame y <+: frame x := h2.trans (List.take_prefix n _)
    have := frame_unique h1 h h3 (List.prefix_refl _)
    subst this
    have := h2.length_le
    rw [List.length_take] at this
    omega
/-- The frames with which bytes begin, and how many bytes they have. -/
def scanF : Nat → List UInt8 → List (List UInt8) × Nat
  | 0, _ => ([], 0)
  | k + 1, s => match first s with
    | none => ([], 0)
    | some x => (x :: (scanF k (s.drop (frame x).length)).1, (frame x).length + (scanF k (s.drop (frame x).length)).2)
theorem scanF_some {k : Nat} {s x : List UInt8} (h : first s = some x) : scanF (k + 1) s = (x :: (scanF k (s.drop (frame x).length)).1, (frame x).length + (scanF k (s.drop (frame x).length)).2) := by
  show (match first s with
    | none => ([], 0)
    | some x => (x :: (scanF k (s.drop (frame x).length)).1, (frame x).length + (scanF k (s.drop (frame x).length)).2)) = _
  rw [h]
def scan (s : List UInt8) : List (List UInt8) × Nat := scanF s.length s
theorem first_nil : first [] = none := by
  cases hf : first [] with
  | none => rfl
  | some x =>
    have h1 := (first_iff.1 hf).2.length_le
    have h2 := frame_pos x
    rw [List.length_nil] at h1
    omega
theorem scanF_more : ∀ (k : Nat) (s : List UInt8) (j : Nat), s.length ≤ k → s.length ≤ j → scanF k s = scanF j s := by
  intro k
  induction k with
  | zero =>
    intro s j hk hj
    obtain rfl := List.eq_nil_of_length_eq_zero (Nat.le_zero.1 hk)
    cases j with
    | zero => rfl
    | succ j => unfold scanF; rw [first_nil]
  | succ k ih =>
    intro s j hk hj
    cases j with
    | zero =>
      obtain rfl := List.eq_nil_of_length_eq_zero (Nat.le_zero.1 hj)
      unfold scanF
      rw [first_nil]
    | succ j =>
      unfold scanF
      cases hf : first s with
      | none => rfl
      | some x =>
        have hp := frame_pos x
        have hl : (s.drop (frame x).length).length = s.length - (frame x).length := List.length_drop
        simp only
        rw [ih _ j (by omega) (by omega)]
theorem scan_none {s : List UInt8} (h : first s = none) : scan s = ([], 0) := by
  unfold scan
  cases s.length with
  | zero => rfl
  | succ k => unfold scanF; rw [h]
theorem scan_some {s x : List UInt8} (h : first s = some x) : scan s = (x :: (scan (s.drop (frame x).length)).1, (frame x).length + (scan (s.drop (frame x).length)).2) := by
  have h1 := (first_iff.1 h).2.length_le
  have hp := frame_pos x
  have hl : (s.drop (frame x).length).length = s.length - (frame x).length := List.length_drop
  unfold scan
  rw [scanF_more s.length s (s.length + 1) (Nat.le_refl _) (by omega)]
  rw [scanF_some h, scanF_more s.length _ _ (by omega) (Nat.le_refl _)]
/-- Frames, one behind the other. -/
def bytes (l : List (List UInt8)) : List UInt8 := (l.map frame).flatten
theorem bytes_nil : bytes [] = [] := rfl
theorem bytes_cons (x : List UInt8) (l : List (List UInt8)) : bytes (x :: l) = frame x ++ bytes l := by simp [bytes]
theorem bytes_append (a b : List (List UInt8)) : bytes (a ++ b) = bytes a ++ bytes b := by simp [bytes]
theorem bytes_snoc (l : List (List UInt8)) (x : List UInt8) : bytes (l ++ [x]) = bytes l ++ frame x := by simp [bytes]
theorem scan_bytes : ∀ (l : List (List UInt8)) (r : List UInt8), (∀ x ∈ l, small x) → scan (bytes l ++ r) = (l ++ (scan r).1, (bytes l).length + (scan r).2) := by
  intro l
  induction l with
  | nil => intro r _; simp [bytes]
  | cons x l ih =>
    intro r h
    rw [bytes_cons, List.append_assoc, scan_some (first_frame (h x (by simp)) _), List.drop_left, ih r (fun y hy => h y (by simp [hy])), List.length_append]
    simp only [List.cons_append]
    rw [Nat.add_assoc]
theorem scan_all {l : List (List UInt8)} (h : ∀ x ∈ l, small x) : scan (bytes l) = (l, (bytes l).length) := by
  have := scan_bytes l [] h
  rw [List.append_nil, scan_none first_nil] at this
  rw [this]
  simp
/-- What is told is there: the frames' bytes are the first ones. -/
theorem scan_is : ∀ (k : Nat) (s : List UInt8), s.length ≤ k → (∀ x ∈ (scan s).1, small x) ∧ bytes (scan s).1 = s.take (scan s).2 ∧ (scan s).2 = (bytes (scan s).1).length := by
  intro k
  induction k with
  | zero =>
    intro s hk
    obtain rfl := List.eq_nil_of_length_eq_zero (Nat.le_zero.1 hk)
    rw [scan_none first_nil]
    exact ⟨fun x hx => (by cases hx), rfl, rfl⟩
  | succ k ih =>
    intro s hk
    cases hf : first s with
    | none => rw [scan_none hf]; exact ⟨fun x hx => (by cases hx), rfl, rfl⟩
    | some x =>
      obtain ⟨h1, r, rfl⟩ := first_iff.1 hf
      have hp := frame_pos x
      rw [List.length_append] at hk
      rw [scan_some hf, List.drop_left]
      obtain ⟨i1, i2, i3⟩ := ih r (by omega)
      refine ⟨?_, ?_, ?_⟩
      · intro y hy
        rcases List.mem_cons.1 hy with rfl | hy
        · exact h1
        · exact i1 y hy
      · simp only
        rw [bytes_cons, i2, List.take_length_add_append]
      · simp only
        rw [bytes_cons, List.length_append, i3]
/-- How many of the frames are whole among the first n bytes. -/
def whole : List (List UInt8) → Nat → Nat
  | [], _ => 0
  | x :: l, n => if (frame x).length ≤ n then whole l (n - (frame x).length) + 1 else 0
theorem whole_le : ∀ (l : List (List UInt8)) (n : Nat), whole l n ≤ l.length := by
  intro l
  induction l with
  | nil => intro n; exact Nat.le_refl _
  | cons x l ih =>
    intro n
    simp only [whole]
    split
    · have := ih (n - (frame x).length); simp only [List.length_cons]; omega
    · omega
/-- Of the first n bytes of frames these are found. -/
theorem scan_take : ∀ (l : List (List UInt8)) (n : Nat), (∀ x ∈ l, small x) → scan ((bytes l).take n) = (l.take (whole l n), (bytes (l.take (whole l n))).length) := by
  intro l
  induction l with
  | nil => intro n _; simp [bytes, whole, scan_none first_nil]
  | cons x l ih =>
    intro n h
    have hx := h x (by simp)
    rw [bytes_cons]
    simp only [whole]
    by_cases hn : (frame x).length ≤ n
    · rw [if_pos hn, List.take_succ_cons, bytes_cons]
      have ht : (frame x ++ bytes l).take n = frame x ++ (bytes l).take (n - (frame x).length) := by
        rw [List.take_append, List.take_of_length_le hn]
      rw [ht, scan_some (first_frame hx _), List.drop_left, ih _ (fun y hy => h y (by simp [hy])), List.length_append]
    · rw [if_neg hn, List.take_zero, bytes_nil]
      have ht : (frame x ++ bytes l).take n = (frame x).take n := List.take_append_of_le_length (by omega)
      rw [ht, scan_none (first_cut hx (by omega))]
      rfl
/-- How many are whole: the most of which the bytes are no more. -/
theorem whole_iff : ∀ (l : List (List UInt8)) (n k : Nat), k ≤ l.length → ((bytes (l.take k)).length ≤ n ↔ k ≤ whole l n) := by
  intro l
  induction l with
  | nil => intro n k hk; simp at hk; subst hk; simp [bytes]
  | cons x l ih =>
    intro n k hk
    cases k with
    | zero => simp [bytes]
    | succ k =>
      rw [List.take_succ_cons, bytes_cons, List.length_append]
      simp only [whole]
      split
      · rename_i hn
        have := ih (n - (frame x).length) k (by simpa using hk)
        omega
      · omega
end Go.Proofs.YtaijgpdlgcgfaaaGreat.Page

/- Layer 8, mathematics: the frame with which bytes begin, as the program looks for it; places; a store as frames. No program. -/
namespace Go.Proofs.YtaijgpdlgcgfaaaGreat.Page
set_option linter.unusedSimpArgs false
set_option linter.unusedVariables false

/-- The number with which bytes begin, of which nine are looked at. -/
def peek (b : List UInt8) : Pack.St × Nat := Pack.St.num ⟨b.take (min b.length 9), 0⟩ 65536
def headOf (b : List UInt8) : Nat := min b.length 9 - (peek b).1.left.length
def sizeOf (b : List UInt8) : Nat := headOf b + (peek b).2 + 4
theorem peek_ok {b : List UInt8} (h : (peek b).1.err = 0) : (∃ r, b = Pack.num (peek b).2 ++ r) ∧ headOf b = (Pack.num (peek b).2).length := by
  have h1 := Rec.num_left h
  simp only at h1
  have hm : (b.take (min b.length 9)).length = min b.length 9 := by simp
  have h2 : min b.length 9 = (Pack.num (peek b).2).length + (peek b).1.left.length := by
    rw [← hm, h1, List.length_append]
    rfl
  refine ⟨⟨(peek b).1.left ++ b.drop (min b.length 9), ?_⟩, by unfold headOf; omega⟩
  rw [← List.append_assoc]
  conv => lhs; rw [← List.take_append_drop (min b.length 9) b, h1]
  rfl
theorem peek_le (b : List UInt8) : (peek b).2 ≤ 65536 := by
  have := num_most ⟨b.take (min b.length 9), 0⟩ 65536 (by omega)
  unfold peek
  omega
theorem peek_left (b : List UInt8) : (peek b).1.left.length ≤ min b.length 9 := by
  unfold peek Pack.St.num Pack.St.fail
  split
  · simp
  · split
    · simp
    · split
      · simp
      · simp only [List.length_drop, List.length_take]
        omega
theorem peek_frame {x : List UInt8} (h : small x) (r : List UInt8) : (peek (frame x ++ r)).1.err = 0 ∧ (peek (frame x ++ r)).2 = x.length := by
  unfold small at h
  have h9 : (Pack.num x.length).length ≤ 9 := Pack.num_nine (by omega)
  have e : frame x ++ r = Pack.num x.length ++ (x ++ Crc.low (Crc.sum (textOf x)) ++ r) := by unfold frame textOf; simp
  have e2 : (frame x ++ r).take (min (frame x ++ r).length 9) = Pack.num x.length ++ (x ++ Crc.low (Crc.sum (textOf x)) ++ r).take (min (frame x ++ r).length 9 - (Pack.num x.length).length) := by
    rw [e, List.take_append, List.take_of_length_le]
    simp only [List.length_append]
    omega
  unfold peek
  rw [e2, Pack.read_num _ _ _ _ (by omega) (by omega)]
  exact ⟨rfl, rfl⟩
theorem first_wrong {b : List UInt8} (h : (peek b).1.err ≠ 0) : first b = none := by
  cases hf : first b with
  | none => rfl
  | some x =>
    obtain ⟨h1, r, rfl⟩ := first_iff.1 hf
    exact absurd (peek_frame h1 r).1 h
theorem frame_size {x : List UInt8} (h : small x) (r : List UInt8) : headOf (frame x ++ r) = (Pack.num x.length).length ∧ sizeOf (frame x ++ r) = (frame x).length := by
  obtain ⟨h1, h2⟩ := peek_frame h r
  have h3 := (peek_ok h1).2
  rw [h2] at h3
  refine ⟨h3, ?_⟩
  unfold sizeOf
  rw [h3, h2, frame_length]
theorem first_short {b : List UInt8} (h : b.length < sizeOf b) : first b = none := by
  cases hf : first b with
  | none => rfl
  | some x =>
    obtain ⟨h1, r, rfl⟩ := first_iff.1 hf
    rw [(frame_size h1 r).2, List.length_append] at h
    omega
theorem first_size {b x : List UInt8} (h : first b = some x) : sizeOf b = (frame x).length ∧ headOf b = (Pack.num x.length).length ∧ small x ∧ (frame x).length ≤ b.length := by
  obtain ⟨h1, r, rfl⟩ := first_iff.1 h
  exact ⟨(frame_size h1 r).2, (frame_size h1 r).1, h1, by simp⟩
theorem cut_len {c W : List UInt8} (h : Crc.cutOf c = some W) : W.length + 4 = c.length := by
  unfold Crc.cutOf at h
  split at h
  · cases h
  · split at h
    · injection h with h
      rw [← h, List.length_take]
      omega
    · cases h
theorem cut_frame {x : List UInt8} : Crc.cutOf (frame x) = some (textOf x) := Crc.cut_put _
theorem first_cutOf {b : List UInt8} (h0 : (peek b).1.err = 0) (h : sizeOf b ≤ b.length) : first b = (Crc.cutOf (b.take (sizeOf b))).map (List.drop (headOf b)) := by
  cases hf : first b with
  | some x =>
    obtain ⟨h1, r, rfl⟩ := first_iff.1 hf
    rw [(frame_size h1 r).1, (frame_size h1 r).2, List.take_left, cut_frame]
    simp [textOf]
  | none =>
    obtain ⟨⟨r, hb⟩, hh⟩ := peek_ok h0
    cases hc : Crc.cutOf (b.take (sizeOf b)) with
    | none => rfl
    | some W =>
      exfalso
      generalize hn : (peek b).2 = n at *
      have hle := peek_le b
      rw [hn] at hle
      have hsz : sizeOf b = (Pack.num n).length + n + 4 := by unfold sizeOf; rw [hh, hn]
      have hrl : n + 4 ≤ r.length := by
        rw [hsz, hb, List.length_append] at h
        omega
      have ht : b.take (sizeOf b) = Pack.num n ++ r.take (n + 4) := by
        rw [hsz, hb, List.take_append, List.take_of_length_le (by omega)]
        congr 2
        omega
      have htl : (b.take (sizeOf b)).length = (Pack.num n).length + n + 4 := by rw [List.length_take]; omega
      have hxn : (r.take n).length = n := by rw [List.length_take]; omega
      have h4 : (b.take (sizeOf b)).take ((b.take (sizeOf b)).length - 4) = textOf (r.take n) := by
        rw [htl, ht]
        unfold textOf
        rw [hxn, List.take_append, List.take_of_length_le (by omega), List.take_take]
        congr 2
        omega
      unfold Crc.cutOf at hc
      split at hc
      · cases hc
      · rw [h4] at hc
        split at hc
        · rename_i hq
          have : first b = some (r.take n) := first_iff.2 ⟨by unfold small; omega, by unfold frame; rw [hq]; exact List.take_prefix _ _⟩
          rw [this] at hf
          cases hf
        · cases hc

/-- Where the frames begin. -/
def offs (l : List (List UInt8)) : List Int := (List.range l.length).map fun i => (((bytes (l.take i)).length : Nat) : Int)
@[simp] theorem offs_length (l : List (List UInt8)) : (offs l).length = l.length := by simp [offs]
theorem offs_get (l : List (List UInt8)) (i : Nat) (h : i < (offs l).length) : (offs l)[i] = (((bytes (l.take i)).length : Nat) : Int) := by simp [offs]
theorem offs_snoc (l : List (List UInt8)) (x : List UInt8) : offs (l ++ [x]) = offs l ++ [(((bytes l).length : Nat) : Int)] := by
  unfold offs
  rw [List.length_append, List.length_singleton, List.range_succ, List.map_append]
  congr 1
  · refine List.map_congr_left fun i hi => ?_
    rw [List.take_append_of_le_length (by have := List.mem_range.1 hi; omega)]
  · simp
theorem bytes_take_lt (l : List (List UInt8)) {i j : Nat} (hij : i < j) (hj : j ≤ l.length) : (bytes (l.take i)).length < (bytes (l.take j)).length := by
  have e : l.take j = l.take i ++ (l.take j).drop i := by
    conv => lhs; rw [← List.take_append_drop i (l.take j), List.take_take, Nat.min_eq_left (by omega)]
  have hne : 0 < ((l.take j).drop i).length := by simp; omega
  rw [e, bytes_append, List.length_append]
  cases hd : (l.take j).drop i with
  | nil => rw [hd] at hne; simp at hne
  | cons y m =>
    have := frame_pos y
    rw [bytes_cons, List.length_append]
    omega
theorem bytes_take_le (l : List (List UInt8)) (i : Nat) : (bytes (l.take i)).length ≤ (bytes l).length := by
  conv => rhs; rw [← List.take_append_drop i l, bytes_append, List.length_append]
  omega
theorem count_le (l : List (List UInt8)) : 5 * l.length ≤ (bytes l).length := by
  induction l with
  | nil => simp
  | cons x l ih =>
    have := frame_pos x
    rw [bytes_cons, List.length_append, List.length_cons]
    omega
/-- Where the frames end. -/
def ends (l : List (List UInt8)) : List Nat := (List.range l.length).map fun i => (bytes (l.take (i + 1))).length
@[simp] theorem ends_length (l : List (List UInt8)) : (ends l).length = l.length := by simp [ends]
theorem ends_snoc (l : List (List UInt8)) (x : List UInt8) : ends (l ++ [x]) = ends l ++ [(bytes l).length + (frame x).length] := by
  unfold ends
  rw [List.length_append, List.length_singleton, List.range_succ, List.map_append]
  congr 1
  · refine List.map_congr_left fun i hi => ?_
    rw [List.take_append_of_le_length (by have := List.mem_range.1 hi; omega)]
  · rw [List.map_singleton, List.take_of_length_le (by simp), bytes_snoc, List.length_append]
theorem scan_more {m : List (List UInt8)} {l r : List UInt8} (hl : l = bytes m ++ r) (hm : ∀ x ∈ m, small x) (h : first r = none) : (scan l).1 = m ∧ (scan l).2 = (bytes m).length := by
  rw [hl, scan_bytes m r hm, scan_none h]
  simp
/-- A store: frames, how many of them are synced, whether it is off. -/
structure St where
  l : List (List UInt8)
  k : Nat
  off : Bool
def St.syn (S : St) : Nat := (bytes (S.l.take S.k)).length
structure St.Ok (S : St) : Prop where
  small : ∀ x ∈ S.l, small x
  le : S.k ≤ S.l.length
  max : (bytes S.l).length ≤ 65536
def fromBytes (b : List UInt8) : St := ⟨(scan (b.take 65536)).1, (scan (b.take 65536)).1.length, false⟩
theorem fromBytes_ok (b : List UInt8) : (fromBytes b).Ok := by
  obtain ⟨h1, h2, h3⟩ := scan_is _ (b.take 65536) (Nat.le_refl _)
  refine ⟨h1, Nat.le_refl _, ?_⟩
  show (bytes (scan (b.take 65536)).1).length ≤ 65536
  rw [h2]
  simp
  omega
/-- Is there room for a frame more? -/
def room (S : St) (b : List UInt8) : Bool := decide ((bytes S.l).length + (frame b).length ≤ 65536)
def St.append (S : St) (b : List UInt8) : St := if S.off then S else if room S b then ⟨S.l ++ [b], S.k, S.off⟩ else S
def St.appendErr (S : St) (b : List UInt8) : Int := if S.off then 81 else if room S b then 0 else 80
def St.appendAt (S : St) (b : List UInt8) : Nat := if S.off then 0 else if room S b then (bytes S.l).length else 0
def St.sync (S : St) : St := if S.off then S else ⟨S.l, S.l.length, S.off⟩
/-- How many bytes stay behind a crash. -/
def St.stay (S : St) (keep : Int) : Nat := S.syn + min keep.toNat ((bytes S.l).length - S.syn)
def St.crash (S : St) (keep : Int) : St := ⟨S.l.take (whole S.l (S.stay keep)), whole S.l (S.stay keep), false⟩
theorem syn_le (S : St) : S.syn ≤ (bytes S.l).length := bytes_take_le _ _
theorem stay_le (S : St) (keep : Int) : S.stay keep ≤ (bytes S.l).length := by
  have := syn_le S
  unfold St.stay
  omega
theorem St.Ok.append {S : St} (h : S.Ok) (b : List UInt8) : (S.append b).Ok := by
  unfold St.append
  split
  · exact h
  · split
    · rename_i hr
      have hr' := of_decide_eq_true hr
      refine ⟨?_, ?_, ?_⟩
      · intro x hx
        rcases List.mem_append.1 hx with hx | hx
        · exact h.small x hx
        · obtain rfl := List.mem_singleton.1 hx
          unfold Page.small
          have := frame_length x
          omega
      · show S.k ≤ (S.l ++ [b]).length
        have := h.le
        simp
        omega
      · show (bytes (S.l ++ [b])).length ≤ 65536
        rw [bytes_snoc, List.length_append]
        exact hr'
    · exact h
theorem St.Ok.sync {S : St} (h : S.Ok) : S.sync.Ok := by
  unfold St.sync
  split
  · exact h
  · exact ⟨h.small, Nat.le_refl _, h.max⟩
theorem St.Ok.crash {S : St} (h : S.Ok) (keep : Int) : (S.crash keep).Ok := by
  refine ⟨fun x hx => h.small x (List.mem_of_mem_take hx), ?_, Nat.le_trans (bytes_take_le _ _) h.max⟩
  show whole S.l (S.stay keep) ≤ (S.l.take (whole S.l (S.stay keep))).length
  have := whole_le S.l (S.stay keep)
  simp
  omega
theorem scan_stay {S : St} (h : S.Ok) (keep : Int) : scan ((bytes S.l).take (S.stay keep)) = ((S.crash keep).l, (bytes (S.crash keep).l).length) := scan_take S.l _ h.small
theorem crash_syn {S : St} (keep : Int) : (S.crash keep).syn = (bytes (S.crash keep).l).length := by
  unfold St.syn St.crash
  simp only
  rw [List.take_take, Nat.min_self]
/-- What is synced stays. -/
theorem crash_ge {S : St} (h : S.Ok) (keep : Int) : S.k ≤ whole S.l (S.stay keep) := by
  rw [← whole_iff _ _ _ h.le]
  unfold St.stay St.syn
  omega
end Go.Proofs.YtaijgpdlgcgfaaaGreat.Page

/- Layer 9, mathematics: a segment is its store, and how many records were safe; its calls. No program. -/
namespace Go.Proofs.YtaijgpdlgcgfaaaGreat.Seg
set_option linter.unusedSimpArgs false
set_option linter.unusedVariables false

def zeroR : Rec.R := ⟨0, 0, [], []⟩
structure Sg where
  s : Page.St
  safe : Nat
def Sg.w (G : Sg) : What := readF G.s.l
def Sg.len (G : Sg) : Nat := G.w.l.length
/-- What Append finds: 0 refused, 1 there already, 2 another one there, 3 above, 4 full, 5 the next. -/
inductive Case where
  | bad | there | other | above | full | next
def Sg.case (G : Sg) (n : Int) (r : Rec.R) : Case :=
  if n < 0 ∨ Rec.right r = false then .bad
  else if n < (G.len : Int) then (if n < (G.w.trimmed : Int) then .there else if Rec.same (G.w.l.getD n.toNat zeroR) r then .there else .other)
  else if (G.len : Int) < n then .above
  else if G.w.broken = true ∨ 512 ≤ G.len then .full
  else .next
def Sg.appErr (G : Sg) (n : Int) (r : Rec.R) : Int := match G.case n r with
  | .bad => 1
  | .there => 0
  | .other => 1
  | .above => 91
  | .full => 90
  | .next => G.s.appendErr (recFrame r)
def Sg.app (G : Sg) (n : Int) (r : Rec.R) : Sg := match G.case n r with
  | .next => ⟨G.s.append (recFrame r), G.safe⟩
  | _ => G
def Sg.getErr (G : Sg) (n : Int) : Int := if n < 0 ∨ (G.len : Int) ≤ n then 91 else if n < (G.w.trimmed : Int) then 92 else 0
def Sg.getRec (G : Sg) (n : Int) : Rec.R := if n < 0 ∨ (G.len : Int) ≤ n then zeroR else if n < (G.w.trimmed : Int) then zeroR else G.w.l.getD n.toNat zeroR
inductive TCase where
  | bad | done | full | next
def Sg.tcase (G : Sg) (n : Int) : TCase := if n < 0 ∨ (G.len : Int) < n then .bad else if n ≤ (G.w.trimmed : Int) then .done else if G.w.broken = true then .full else .next
def Sg.trimErr (G : Sg) (n : Int) : Int := match G.tcase n with
  | .bad => 1
  | .done => 0
  | .full => 90
  | .next => G.s.appendErr (trimFrame n.toNat)
def Sg.trim (G : Sg) (n : Int) : Sg := match G.tcase n with
  | .next => ⟨G.s.append (trimFrame n.toNat), G.safe⟩
  | _ => G
def Sg.sync (G : Sg) : Sg := if G.s.off then G else ⟨G.s.sync, G.len⟩
def ofStore (S : Page.St) : Sg := ⟨S, (readF S.l).l.length⟩
def Sg.crash (G : Sg) (keep : Int) : Sg := ofStore (G.s.crash keep)
/-- What holds of a segment whatever is called. -/
structure Sg.Ok (G : Sg) : Prop where
  ok : G.s.Ok
  all : G.s.k = G.s.l.length → G.safe = G.len
  low : G.safe ≤ (readF (G.s.l.take G.s.k)).l.length

theorem rows_le {fs gs : List (List UInt8)} (h : fs <+: gs) : (readF fs).l.length ≤ (readF gs).l.length := (readF_prefix h).rows.length_le
theorem fold_count : ∀ (fs : List (List UInt8)) (w : What), (fs.foldl step w).l.length ≤ w.l.length + fs.length := by
  intro fs
  induction fs with
  | nil => intro w; simp
  | cons f fs ih =>
    intro w
    rw [List.foldl_cons]
    have h1 := ih (step w f)
    have h2 : (step w f).l.length ≤ w.l.length + 1 := by
      have hn := step_next w f
      generalize step w f = v at hn
      cases hn <;> simp
    simp only [List.length_cons]
    omega
theorem readF_count (fs : List (List UInt8)) : (readF fs).l.length ≤ fs.length := by
  have := fold_count fs ⟨[], 0, false⟩
  simpa [readF] using this
theorem Sg.Ok.count {G : Sg} (h : G.s.Ok) : G.len ≤ 13107 := by
  have h1 := readF_count G.s.l
  have h2 := Page.count_le G.s.l
  have h3 := h.max
  unfold Sg.len Sg.w
  omega
theorem Sg.trimmed_le (G : Sg) : G.w.trimmed ≤ G.len := (readF_good _).most
/-- A frame more, or none. -/
theorem append_l (S : Page.St) (b : List UInt8) : (S.append b).l = S.l ∧ (S.append b) = S ∧ S.appendErr b ≠ 0 ∨ (S.append b).l = S.l ++ [b] ∧ (S.append b).k = S.k ∧ S.appendErr b = 0 := by
  unfold Page.St.append Page.St.appendErr
  cases ho : S.off with
  | true => exact .inl ⟨by simp, by simp, by simp⟩
  | false =>
    cases hr : Page.room S b with
    | true => exact .inr ⟨by simp, by simp, by simp⟩
    | false => exact .inl ⟨by simp, by simp, by simp⟩
theorem append_off (S : Page.St) (b : List UInt8) : (S.append b).off = S.off := by
  unfold Page.St.append
  split
  · rfl
  · split <;> rfl
theorem ok_append {S : Page.St} {safe : Nat} (h : Sg.Ok ⟨S, safe⟩) (b : List UInt8) : Sg.Ok ⟨S.append b, safe⟩ := by
  rcases append_l S b with ⟨_, e, _⟩ | ⟨e, ek, _⟩
  · rw [e]; exact h
  · have hle := h.ok.le
    simp only at hle
    refine ⟨h.ok.append b, fun hk => ?_, ?_⟩
    · exfalso
      simp only at hk
      rw [e, ek] at hk
      simp at hk
      omega
    · show safe ≤ (readF ((S.append b).l.take (S.append b).k)).l.length
      rw [e, ek, List.take_append_of_le_length hle]
      exact h.low
theorem Sg.Ok.app {G : Sg} (h : G.Ok) (n : Int) (r : Rec.R) : (G.app n r).Ok := by
  unfold Sg.app
  cases G.case n r <;> first | exact h | exact ok_append h _
theorem Sg.Ok.trim {G : Sg} (h : G.Ok) (n : Int) : (G.trim n).Ok := by
  unfold Sg.trim
  cases G.tcase n <;> first | exact h | exact ok_append h _
theorem ofStore_ok {S : Page.St} (h : S.Ok) (hk : S.k = S.l.length) : (ofStore S).Ok := by
  refine ⟨h, fun _ => rfl, ?_⟩
  show (readF S.l).l.length ≤ (readF (S.l.take S.k)).l.length
  rw [hk, List.take_length]
  exact Nat.le_refl _
theorem Sg.Ok.crash {G : Sg} (h : G.Ok) (keep : Int) : (G.crash keep).Ok := by
  refine ofStore_ok (h.ok.crash keep) ?_
  have := Page.whole_le G.s.l (G.s.stay keep)
  unfold Page.St.crash
  simp
  omega
theorem Sg.Ok.sync {G : Sg} (h : G.Ok) : G.sync.Ok := by
  unfold Sg.sync
  cases ho : G.s.off with
  | true => simpa using h
  | false =>
    have e : G.s.sync = ⟨G.s.l, G.s.l.length, G.s.off⟩ := by unfold Page.St.sync; rw [ho]; rfl
    have hs := h.ok.sync
    rw [e] at hs ⊢
    refine ⟨hs, fun _ => rfl, ?_⟩
    show G.len ≤ (readF (G.s.l.take G.s.l.length)).l.length
    rw [List.take_length]
    exact Nat.le_refl _
theorem syn_all {S : Page.St} (h : S.Ok) : S.syn = (Page.bytes S.l).length ↔ S.k = S.l.length := by
  unfold Page.St.syn
  constructor
  · intro e
    rcases Nat.lt_or_ge S.k S.l.length with hlt | hge
    · have := Page.bytes_take_lt S.l hlt (Nat.le_refl _)
      rw [List.take_length] at this
      omega
    · have := h.le
      omega
  · intro e
    rw [e, List.take_length]
/-- What the program's Sync finds. -/
theorem sync_as {G : Sg} (h : G.Ok) : G.sync = ⟨G.s.sync, if G.s.sync.syn = (Page.bytes G.s.sync.l).length then G.len else G.safe⟩ := by
  unfold Sg.sync
  cases ho : G.s.off with
  | true =>
    have e : G.s.sync = G.s := by unfold Page.St.sync; rw [ho]; rfl
    rw [e, if_pos rfl]
    obtain ⟨s, safe⟩ := G
    simp only
    congr 1
    split
    · rename_i he
      exact h.all ((syn_all h.ok).1 he)
    · rfl
  | false =>
    have e : G.s.sync = ⟨G.s.l, G.s.l.length, G.s.off⟩ := by unfold Page.St.sync; rw [ho]; rfl
    rw [if_neg (by simp), if_pos ((syn_all h.ok.sync).2 (by rw [e]))]
theorem sync_l (S : Page.St) : S.sync.l = S.l := by
  unfold Page.St.sync
  split <;> rfl
theorem Sg.sync_w (G : Sg) : G.sync.w = G.w := by
  unfold Sg.sync Sg.w
  split
  · rfl
  · rw [sync_l]

/-- What a next record does. -/
theorem app_next {G : Sg} {n : Int} {r : Rec.R} (h : G.case n r = .next) : Rec.right r = true ∧ n = (G.len : Int) ∧ G.w.broken = false ∧ G.len < 512 := by
  unfold Sg.case at h
  split at h
  · cases h
  · rename_i h1
    split at h
    · split at h
      · cases h
      · split at h <;> cases h
    · split at h
      · cases h
      · split at h
        · cases h
        · rename_i h2 h3 h4
          refine ⟨?_, by omega, ?_, by omega⟩
          · cases hr : Rec.right r with
            | true => rfl
            | false => exact absurd (.inr hr) h1
          · cases hb : G.w.broken with
            | false => rfl
            | true => exact absurd (.inl hb) h4
theorem next_w {S : Page.St} {r : Rec.R} (hb : (readF S.l).broken = false) (hr : Rec.right r = true) (he : S.appendErr (recFrame r) = 0) : readF (S.append (recFrame r)).l = ⟨(readF S.l).l ++ [r], (readF S.l).trimmed, false⟩ := by
  rcases append_l S (recFrame r) with ⟨_, _, hn⟩ | ⟨e, _, _⟩
  · exact absurd he hn
  · rw [e, readF_snoc, step_rec hb hr]
theorem same_w {S : Page.St} {b : List UInt8} (he : S.appendErr b ≠ 0) : S.append b = S := by
  rcases append_l S b with ⟨_, e, _⟩ | ⟨_, _, hn⟩
  · exact e
  · exact absurd hn he
theorem tnext {G : Sg} {n : Int} (h : G.tcase n = .next) : (G.w.trimmed : Int) < n ∧ n ≤ (G.len : Int) ∧ G.w.broken = false := by
  unfold Sg.tcase at h
  split at h
  · cases h
  · split at h
    · cases h
    · split at h
      · cases h
      · rename_i h1 h2 h3
        refine ⟨by omega, by omega, ?_⟩
        cases hb : G.w.broken with
        | false => rfl
        | true => exact absurd hb h3
theorem trim_w {S : Page.St} {n : Nat} (hok : S.Ok) (hb : (readF S.l).broken = false) (h1 : (readF S.l).trimmed ≤ n) (h2 : n ≤ (readF S.l).l.length) (he : S.appendErr (trimFrame n) = 0) : readF (S.append (trimFrame n)).l = ⟨(readF S.l).l, n, false⟩ := by
  rcases append_l S (trimFrame n) with ⟨_, _, hn⟩ | ⟨e, _, _⟩
  · exact absurd he hn
  · have hc : (readF S.l).l.length ≤ 13107 := Sg.Ok.count (G := ⟨S, 0⟩) hok
    rw [e, readF_snoc, step_trim hb h1 h2 (by omega)]
/-- Behind a crash: first ones, and all that were safe. -/
theorem crash_rows {G : Sg} (h : G.Ok) (keep : Int) : Grows (G.crash keep).w G.w ∧ G.safe ≤ (G.crash keep).len := by
  have e : (G.crash keep).w = readF (G.s.l.take (Page.whole G.s.l (G.s.stay keep))) := rfl
  refine ⟨by rw [e]; exact readF_prefix (List.take_prefix _ _), ?_⟩
  unfold Sg.len
  rw [e]
  have h1 := Page.crash_ge h.ok keep
  refine Nat.le_trans h.low (rows_le ?_)
  have : G.s.l.take G.s.k = (G.s.l.take (Page.whole G.s.l (G.s.stay keep))).take G.s.k := by rw [List.take_take, Nat.min_eq_left h1]
  rw [this]
  exact List.take_prefix _ _

/-- A call. -/
structure Op where
  kind : Int
  n : Int
  r : Rec.R
  is : Bool
end Go.Proofs.YtaijgpdlgcgfaaaGreat.Seg

/- Layer 10: what a segment's calls leave of what is safe, mathematics. -/
namespace Go.Proofs.YtaijgpdlgcgfaaaGreat.Seg
set_option linter.unusedSimpArgs false
set_option linter.unusedVariables false

theorem app_cases (G : Sg) (n : Int) (r : Rec.R) : G.app n r = G ∨ G.app n r = ⟨G.s.append (recFrame r), G.safe⟩ := by
  unfold Sg.app
  cases G.case n r <;> first | exact .inl rfl | exact .inr rfl
theorem trim_cases (G : Sg) (n : Int) : G.trim n = G ∨ G.trim n = ⟨G.s.append (trimFrame n.toNat), G.safe⟩ := by
  unfold Sg.trim
  cases G.tcase n <;> first | exact .inl rfl | exact .inr rfl
theorem app_safe (G : Sg) (n : Int) (r : Rec.R) : (G.app n r).safe = G.safe := by
  rcases app_cases G n r with h | h <;> rw [h]
theorem trim_safe (G : Sg) (n : Int) : (G.trim n).safe = G.safe := by
  rcases trim_cases G n with h | h <;> rw [h]
theorem app_off (G : Sg) (n : Int) (r : Rec.R) : (G.app n r).s.off = G.s.off := by
  rcases app_cases G n r with h | h <;> rw [h]
  exact append_off _ _
theorem trim_off (G : Sg) (n : Int) : (G.trim n).s.off = G.s.off := by
  rcases trim_cases G n with h | h <;> rw [h]
  exact append_off _ _
theorem sync_off (G : Sg) : G.sync.s.off = G.s.off := by
  unfold Sg.sync
  split
  · rfl
  · unfold Page.St.sync
    split <;> rfl
theorem crash_off (G : Sg) (keep : Int) : (G.crash keep).s.off = false := rfl
/-- Ok says how far what is safe goes. -/
theorem Sg.Ok.safe_le {G : Sg} (h : G.Ok) : G.safe ≤ G.len := Nat.le_trans h.low (rows_le (List.take_prefix _ _))
theorem sync_safe {G : Sg} (h : G.Ok) : G.safe ≤ G.sync.safe := by
  unfold Sg.sync
  split
  · exact Nat.le_refl _
  · exact h.safe_le
theorem crash_safe {G : Sg} (h : G.Ok) (keep : Int) : G.safe ≤ (G.crash keep).safe := (crash_rows h keep).2
/-- Where a store is not off a Sync makes all safe. -/
theorem sync_all {G : Sg} (ho : G.s.off = false) : G.sync.safe = G.len ∧ G.sync.s.k = G.s.l.length ∧ G.sync.s.l = G.s.l := by
  unfold Sg.sync
  rw [if_neg (by simp [ho])]
  refine ⟨rfl, ?_, ?_⟩
  · show G.s.sync.k = _
    unfold Page.St.sync
    rw [if_neg (by simp [ho])]
  · show G.s.sync.l = _
    unfold Page.St.sync
    rw [if_neg (by simp [ho])]
/-- Behind a crash of what is synced all is there. -/
theorem crash_synced {G : Sg} (hok : G.Ok) (ho : G.s.off = false) (keep : Int) : (G.sync.crash keep).w = G.w ∧ (G.sync.crash keep).safe = G.len := by
  obtain ⟨h1, h2, h3⟩ := sync_all ho
  have hr := crash_rows hok.sync keep
  have hl : (G.sync.crash keep).s.l = G.s.l := by
    show G.sync.s.l.take (Page.whole G.sync.s.l (G.sync.s.stay keep)) = _
    have hge := Page.crash_ge hok.sync.ok keep
    rw [h2] at hge
    rw [h3] at hge ⊢
    exact List.take_of_length_le hge
  have hw : (G.sync.crash keep).w = G.w := by
    unfold Sg.w
    rw [hl]
  refine ⟨hw, ?_⟩
  show (readF (G.sync.crash keep).s.l).l.length = _
  rw [hl]
  rfl
/-- What is told to be appended is there, unless it is trimmed. -/
theorem app_there {G : Sg} {n : Int} {r : Rec.R} (hok : G.Ok) (h : G.appErr n r = 0) : 0 ≤ n ∧ n < ((G.app n r).len : Int) ∧ (n < ((G.app n r).w.trimmed : Int) ∨ ∃ hn : n.toNat < (G.app n r).w.l.length, (G.app n r).w.l[n.toNat] = r) := by
  unfold Sg.appErr at h
  have hcase : G.case n r = (if n < 0 ∨ Rec.right r = false then .bad else if n < (G.len : Int) then (if n < (G.w.trimmed : Int) then .there else if Rec.same (G.w.l.getD n.toNat zeroR) r then .there else .other) else if (G.len : Int) < n then .above else if G.w.broken = true ∨ 512 ≤ G.len then .full else .next) := rfl
  cases hc : G.case n r with
  | bad => rw [hc] at h; cases h
  | other => rw [hc] at h; cases h
  | above => rw [hc] at h; cases h
  | full => rw [hc] at h; cases h
  | there =>
    have ha : G.app n r = G := by unfold Sg.app; rw [hc]
    rw [ha]
    rw [hc] at hcase
    split at hcase
    · cases hcase
    · next h0 =>
      split at hcase
      · next hlt =>
        refine ⟨by omega, hlt, ?_⟩
        split at hcase
        · next ht => exact .inl ht
        · split at hcase
          · next hs =>
            right
            have hn : n.toNat < G.w.l.length := by
              have : G.len = G.w.l.length := rfl
              omega
            refine ⟨hn, ?_⟩
            rw [List.getD_eq_getElem?_getD, List.getElem?_eq_getElem hn, Option.getD_some] at hs
            exact (Rec.same_iff _ _).1 hs
          · cases hcase
      · split at hcase
        · cases hcase
        · split at hcase <;> cases hcase
  | next =>
    rw [hc] at h
    obtain ⟨h1, h2, h3, h4⟩ := app_next hc
    have hw := next_w (S := G.s) h3 h1 h
    have ha : G.app n r = ⟨G.s.append (recFrame r), G.safe⟩ := by unfold Sg.app; rw [hc]
    have hw2 : (G.app n r).w = ⟨G.w.l ++ [r], G.w.trimmed, false⟩ := by rw [ha]; exact hw
    have hl : (G.app n r).len = G.len + 1 := by
      unfold Sg.len
      rw [hw2]
      simp
    refine ⟨by omega, by rw [hl]; omega, .inr ?_⟩
    rw [hw2]
    have hn : n.toNat = G.w.l.length := by
      have : G.len = G.w.l.length := rfl
      omega
    simp only [hn]
    refine ⟨by simp, ?_⟩
    rw [List.getElem_append_right (Nat.le_refl _)]
    simp
/-- Behind a Take and a crash: what was kept is read, or it is trimmed. -/
theorem kept_there {G : Sg} {n : Int} {r : Rec.R} (hok : G.Ok) (ho : G.s.off = false) (h : G.appErr n r = 0) (keep : Int) :
    n < ((G.app n r).sync.safe : Int) ∧ (((G.app n r).sync.crash keep).getErr n = 92 ∨ (((G.app n r).sync.crash keep).getErr n = 0 ∧ ((G.app n r).sync.crash keep).getRec n = r)) ∧ (G.app n r).sync.safe ≤ ((G.app n r).sync.crash keep).safe := by
  have ho2 : (G.app n r).s.off = false := by rw [app_off]; exact ho
  obtain ⟨h0, h1, h2⟩ := app_there hok h
  obtain ⟨c1, c2⟩ := crash_synced (hok.app n r) ho2 keep
  obtain ⟨s1, _, _⟩ := sync_all ho2
  refine ⟨by rw [s1]; exact h1, ?_, by rw [s1, c2]; exact Nat.le_refl _⟩
  have hlen : ((G.app n r).sync.crash keep).len = (G.app n r).len := by unfold Sg.len; rw [c1]
  have e1 : ((G.app n r).sync.crash keep).getErr n = if n < ((G.app n r).w.trimmed : Int) then 92 else 0 := by
    unfold Sg.getErr
    rw [hlen, c1, if_neg (by omega)]
  have e2 : ((G.app n r).sync.crash keep).getRec n = if n < ((G.app n r).w.trimmed : Int) then zeroR else (G.app n r).w.l.getD n.toNat zeroR := by
    unfold Sg.getRec
    rw [hlen, c1, if_neg (by omega)]
  rw [e1, e2]
  by_cases ht : n < ((G.app n r).w.trimmed : Int)
  · rw [if_pos ht]
    exact .inl rfl
  · rw [if_neg ht, if_neg ht]
    rcases h2 with h2 | ⟨hn, h2⟩
    · exact absurd h2 ht
    · refine .inr ⟨rfl, ?_⟩
      rw [List.getD_eq_getElem?_getD, List.getElem?_eq_getElem hn, Option.getD_some]
      exact h2
end Go.Proofs.YtaijgpdlgcgfaaaGreat.Seg

/- Layer 3, mathematics: vectors; no program. -/
namespace Go.Proofs.YtaijgpdlgcgfaaaGreat.Vec

def okOne (x : Int) : Bool := decide (0 ≤ x ∧ x ≤ 1099511627776)
/-- Is a row of numbers a vector? -/
def right (v : List Int) : Bool := v.all okOne && decide (1 ≤ v.length ∧ v.length ≤ 8)
def kind (a b : List Int) : Bool := right a && right b && decide (a.length = b.length)
def big (x y : Int) : Int := if x < y then y else x
def small (x y : Int) : Int := if x < y then x else y
def max (a b : List Int) : List Int := List.zipWith big a b
def min (a b : List Int) : List Int := List.zipWith small a b
/-- Is no number of a below that of b? -/
def ge : List Int → List Int → Bool
  | x :: a, y :: b => decide (y ≤ x) && ge a b
  | _, _ => true
def covers (a b : List Int) : Bool := kind a b && ge a b
def same (a b : List Int) : Bool := covers a b && covers b a
def set (v : List Int) (k : Nat) (n : Int) : List Int := v.set k (big (v.getD k 0) n)

theorem right_ok {v : List Int} (h : right v = true) : (∀ x ∈ v, 0 ≤ x ∧ x ≤ 1099511627776) ∧ 1 ≤ v.length ∧ v.length ≤ 8 := by
  unfold right okOne at h
  simp only [Bool.and_eq_true, List.all_eq_true, decide_eq_true_eq] at h
  exact h
theorem kind_ok {a b : List Int} (h : kind a b = true) : right a = true ∧ right b = true ∧ a.length = b.length := by
  unfold kind at h
  simp only [Bool.and_eq_true, decide_eq_true_eq] at h
  exact ⟨h.1.1, h.1.2, h.2⟩
theorem ge_iff : ∀ (a b : List Int), a.length = b.length → (ge a b = true ↔ ∀ i (h : i < a.length) (h' : i < b.length), b[i] ≤ a[i]) := by
  intro a
  induction a with
  | nil => intro b h; simp [ge]
  | cons x a ih =>
    intro b h
    cases b with
    | nil => simp at h
    | cons y b =>
      simp only [List.length_cons, Nat.add_right_cancel_iff] at h
      simp only [ge, Bool.and_eq_true, decide_eq_true_eq, ih b h]
      constructor
      · rintro ⟨h1, h2⟩ i hi hi'
        cases i with
        | zero => exact h1
        | succ i => exact h2 i (by simpa using hi) (by simpa using hi')
      · intro h1
        refine ⟨h1 0 (by simp) (by simp), fun i hi hi' => ?_⟩
        have := h1 (i + 1) (by simpa using hi) (by simpa using hi')
        simpa using this
/-! What so many have. -/
def many (xs : List Int) (n : Int) : Nat := xs.countP (fun x => decide (n ≤ x))
end Go.Proofs.YtaijgpdlgcgfaaaGreat.Vec

/- Layer 5, mathematics: entries as bytes, chains; no program. -/
namespace Go.Proofs.YtaijgpdlgcgfaaaGreat.Ent

structure E where
  number : Int
  kind : Int
  cut : List Int
  tag : Int
  term : Int
  pos : Int

def rightCut (e : E) : Bool := Vec.right e.cut && decide (e.tag = 0 ∧ e.term = 0 ∧ e.pos = 0)
def rightTrim (e : E) : Bool := e.cut.isEmpty && decide ((0 ≤ e.tag ∧ e.tag ≤ 1073741824) ∧ (1 ≤ e.term ∧ e.term ≤ 64) ∧ 0 ≤ e.pos ∧ e.pos ≤ 1099511627776)
def right (e : E) : Bool := decide (1 ≤ e.number ∧ e.number ≤ 1099511627776) && ((decide (e.kind = 1) && rightCut e) || (decide (e.kind = 2) && rightTrim e))
/-- A vector's bytes. -/
def vecBytes (v : List Int) : List UInt8 := Pack.num v.length ++ Rec.numsOf v
def body (e : E) : List UInt8 := if e.kind = 1 then Pack.num (vecBytes e.cut).length ++ vecBytes e.cut else Pack.num e.tag.toNat ++ (Pack.num e.term.toNat ++ Pack.num e.pos.toNat)
def text (e : E) : List UInt8 := Pack.num e.number.toNat ++ (Pack.num e.kind.toNat ++ body e)
def enc (e : E) : List UInt8 := text e ++ Crc.low (Crc.sum (text e))

theorem right_ok {e : E} (h : right e = true) : (1 ≤ e.number ∧ e.number ≤ 1099511627776) ∧ ((e.kind = 1 ∧ Vec.right e.cut = true ∧ e.tag = 0 ∧ e.term = 0 ∧ e.pos = 0) ∨ (e.kind = 2 ∧ e.cut = [] ∧ (0 ≤ e.tag ∧ e.tag ≤ 1073741824) ∧ (1 ≤ e.term ∧ e.term ≤ 64) ∧ 0 ≤ e.pos ∧ e.pos ≤ 1099511627776)) := by
  unfold right rightCut rightTrim at h
  simp only [Bool.and_eq_true, Bool.or_eq_true, decide_eq_true_eq, List.isEmpty_iff] at h
  obtain ⟨h1, h2⟩ := h
  refine ⟨h1, ?_⟩
  rcases h2 with ⟨k, v, t⟩ | ⟨k, v, t⟩
  · exact .inl ⟨k, v, t.1, t.2.1, t.2.2⟩
  · exact .inr ⟨k, v, t.1, t.2.1, t.2.2⟩
theorem vecBytes_le {v : List Int} (h : Vec.right v = true) : (vecBytes v).length ≤ 81 := by
  obtain ⟨h1, _, h3⟩ := Vec.right_ok h
  have key : ∀ l : List Int, (∀ x ∈ l, 0 ≤ x ∧ x ≤ 1099511627776) → (Rec.numsOf l).length ≤ 9 * l.length := by
    intro l
    induction l with
    | nil => intro _; simp [Rec.numsOf]
    | cons x l ih =>
      intro hl
      rw [Rec.numsOf_cons, List.length_append, List.length_cons]
      have := Pack.num_nine (n := x.toNat) (by have := hl x (by simp); omega)
      have := ih (fun y hy => hl y (by simp [hy]))
      omega
  have h4 := key v h1
  have h5 := Pack.num_nine (n := v.length) (by omega)
  unfold vecBytes
  rw [List.length_append]
  omega

theorem body_one {e : E} (h : e.kind = 1) : body e = Pack.num (vecBytes e.cut).length ++ vecBytes e.cut := by unfold body; rw [if_pos h]
theorem body_two {e : E} (h : e.kind ≠ 1) : body e = Pack.num e.tag.toNat ++ (Pack.num e.term.toNat ++ Pack.num e.pos.toNat) := by unfold body; rw [if_neg h]
theorem same {a b : E} (h1 : a.number = b.number) (h2 : a.kind = b.kind) (h3 : a.cut = b.cut) (h4 : a.tag = b.tag) (h5 : a.term = b.term) (h6 : a.pos = b.pos) : a = b := by
  cases a
  cases b
  simp only at h1 h2 h3 h4 h5 h6
  subst h1 h2 h3 h4 h5 h6
  rfl
/-! Chains. -/
/-- The last cut. -/
def lastCut (l : List E) : Option (List Int) := l.foldl (fun c e => if e.kind = 1 then some e.cut else c) none
def coversLast (c : Option (List Int)) (v : List Int) : Bool := match c with
  | none => true
  | some u => Vec.covers v u
/-- May an entry stand behind these? -/
def follows (l : List E) (e : E) : Bool := right e && (decide (e.number = (l.length : Int) + 1) && (!decide (e.kind = 1) || coversLast (lastCut l) e.cut))
def chainFrom : List E → List E → Nat
  | _, [] => 0
  | d, e :: r => if follows d e then chainFrom (d ++ [e]) r + 1 else 0
/-- How many of the first ones are a chain. -/
def chain (l : List E) : Nat := chainFrom [] l
/-- The last cut of a chain, or so many zeros. -/
def lastOf (l : List E) (zero : List Int) : List Int := match lastCut (l.take (chain l)) with
  | none => zero
  | some c => c
/-! Are two entries the same? -/
def alike (a b : E) : Bool := (a.number == b.number) && ((a.kind == b.kind) && ((a.cut == b.cut) && ((a.tag == b.tag) && ((a.term == b.term) && (a.pos == b.pos)))))
theorem alike_iff (a b : E) : alike a b = true ↔ a = b := by
  obtain ⟨a1, a2, a3, a4, a5, a6⟩ := a
  obtain ⟨b1, b2, b3, b4, b5, b6⟩ := b
  unfold alike
  simp
theorem alike_self (a : E) : alike a a = true := (alike_iff a a).2 rfl
theorem enc_le {e : E} (h : right e = true) : (enc e).length ≤ 112 := by
  obtain ⟨h1, h2⟩ := right_ok h
  have n1 := Pack.num_nine (n := e.number.toNat) (by omega)
  have n2 := Pack.num_nine (n := e.kind.toNat) (by rcases h2 with ⟨k, _⟩ | ⟨k, _⟩ <;> omega)
  unfold enc text
  simp only [List.length_append, Crc.low_length]
  rcases h2 with ⟨k, v, t⟩ | ⟨k, v, t1, t2, t3⟩
  · have hl := vecBytes_le v
    have n3 := Pack.num_nine (n := (vecBytes e.cut).length) (by omega)
    rw [body_one k, List.length_append]
    omega
  · have n3 := Pack.num_nine (n := e.tag.toNat) (by omega)
    have n4 := Pack.num_nine (n := e.term.toNat) (by omega)
    have n5 := Pack.num_nine (n := e.pos.toNat) (by omega)
    rw [body_two (by omega)]
    simp only [List.length_append]
    omega
end Go.Proofs.YtaijgpdlgcgfaaaGreat.Ent

/- Layer 5, mathematics: bytes as an entry; no program. How a vector is read is left open (vd): that it is read back is all that is wanted. -/
namespace Go.Proofs.YtaijgpdlgcgfaaaGreat.Ent

def big : Int := 4611686018427387904
def stA (l : List UInt8) : Pack.St × Nat := Pack.St.num ⟨l, 0⟩ big
def stB (l : List UInt8) : Pack.St × Nat := (stA l).1.num big
def stV (l : List UInt8) : Pack.St × List UInt8 := (stB l).1.text 65536
def stT (l : List UInt8) : Pack.St × Nat := (stB l).1.num big
def stM (l : List UInt8) : Pack.St × Nat := (stT l).1.num big
def stP (l : List UInt8) : Pack.St × Nat := (stM l).1.num big
def read (vd : List UInt8 → List Int) (l : List UInt8) : E := if (stB l).2 = 1 then ⟨(stA l).2, 1, vd (stV l).2, 0, 0, 0⟩ else ⟨(stA l).2, (stB l).2, [], (stT l).2, (stM l).2, (stP l).2⟩
theorem read_text {vd : List UInt8 → List Int} (hv : ∀ v, Vec.right v = true → vd (vecBytes v) = v) {e : E} (h : right e = true) : read vd (text e) = e := by
  obtain ⟨h1, h2⟩ := right_ok h
  have hb : (0 : Int) ≤ big ∧ big = 4611686018427387904 := ⟨by decide, rfl⟩
  have hk : 0 ≤ e.kind ∧ e.kind ≤ 2 := by rcases h2 with ⟨k, _⟩ | ⟨k, _⟩ <;> omega
  have hA : stA (text e) = (⟨Pack.num e.kind.toNat ++ body e, 0⟩, e.number.toNat) := Pack.read_num _ _ _ _ (by omega) (by omega)
  have hB : stB (text e) = (⟨body e, 0⟩, e.kind.toNat) := by
    unfold stB; rw [hA]; exact Pack.read_num _ _ _ _ (by omega) (by omega)
  rcases h2 with ⟨k, v, t1, t2, t3⟩ | ⟨k, v, t1, t2, t3⟩
  · have hl := vecBytes_le v
    have hV : stV (text e) = (⟨[], 0⟩, vecBytes e.cut) := by
      unfold stV; rw [hB, body_one k]
      unfold Pack.St.text
      rw [Pack.read_num _ _ _ _ (by omega) (by omega)]
      simp
    unfold read
    rw [hB, if_pos (show e.kind.toNat = 1 by omega), hA, hV, hv _ v]
    exact same (by simp only []; omega) k.symm rfl t1.symm t2.symm t3.symm
  · have hT : stT (text e) = (⟨Pack.num e.term.toNat ++ Pack.num e.pos.toNat, 0⟩, e.tag.toNat) := by
      unfold stT; rw [hB, body_two (by omega)]; exact Pack.read_num _ _ _ _ (by omega) (by omega)
    have hM : stM (text e) = (⟨Pack.num e.pos.toNat, 0⟩, e.term.toNat) := by
      unfold stM; rw [hT]; exact Pack.read_num _ _ _ _ (by omega) (by omega)
    have hP : stP (text e) = (⟨[], 0⟩, e.pos.toNat) := by
      unfold stP; rw [hM]
      have := Pack.read_num e.pos.toNat [] 0 big (by omega) (by omega)
      rw [List.append_nil] at this
      exact this
    unfold read
    rw [hB, if_neg (show ¬ e.kind.toNat = 1 by omega), hA, hT, hM, hP]
    exact same (by simp only []; omega) (by simp only []; omega) v.symm (by simp only []; omega) (by simp only []; omega) (by simp only []; omega)
/-- What is read must be what is written. -/
def dec (vd : List UInt8 → List Int) (b : List UInt8) : Option E := match Crc.cutOf b with
  | none => none
  | some l => if right (read vd l) && (enc (read vd l) == b) then some (read vd l) else none
theorem dec_enc {vd : List UInt8 → List Int} (hv : ∀ v, Vec.right v = true → vd (vecBytes v) = v) {e : E} (h : right e = true) : dec vd (enc e) = some e := by
  unfold dec
  rw [show Crc.cutOf (enc e) = some (text e) from Crc.cut_put _]
  simp only [read_text hv h, h, beq_self_eq_true, Bool.and_self, if_true]
theorem enc_dec {vd : List UInt8 → List Int} {b : List UInt8} {e : E} (h : dec vd b = some e) : right e = true ∧ enc e = b := by
  unfold dec at h
  split at h
  · cases h
  · split at h
    · rename_i hok
      injection h with h
      rw [Bool.and_eq_true, beq_iff_eq] at hok
      subst h
      exact hok
    · cases h
/-- Bytes are an entry just if they are its bytes: however a vector is read. -/
theorem dec_iff {vd : List UInt8 → List Int} (hv : ∀ v, Vec.right v = true → vd (vecBytes v) = v) {b : List UInt8} {e : E} : dec vd b = some e ↔ right e = true ∧ enc e = b :=
  ⟨enc_dec, fun h => by rw [← h.2]; exact dec_enc hv h.1⟩
end Go.Proofs.YtaijgpdlgcgfaaaGreat.Ent

/- Layer 6, mathematics: configurations as bytes, what they tell, the next one; no program. -/
namespace Go.Proofs.YtaijgpdlgcgfaaaGreat.Term

structure C where
  term : Int
  seqs : List Int
  shards : List (List Int)

def okNode (x : Int) : Bool := decide (0 ≤ x ∧ x ≤ 15)
/-- May nodes be, and are all unlike? -/
def unlike (l : List Int) : Bool := l.all okNode && decide l.Nodup
def okShard (l : List Int) : Bool := decide (1 ≤ l.length ∧ l.length ≤ 3) && unlike l
def right (c : C) : Bool := decide ((1 ≤ c.term ∧ c.term ≤ 64) ∧ 1 ≤ c.shards.length ∧ c.shards.length ≤ 8) && (c.shards.all okShard && (decide (c.seqs.length = 1 ∨ c.seqs.length = 3 ∨ c.seqs.length = 5 ∨ c.seqs.length = 7) && unlike c.seqs))

theorem unlike_ok {l : List Int} (h : unlike l = true) : (∀ x ∈ l, 0 ≤ x ∧ x ≤ 15) ∧ l.Nodup := by
  unfold unlike at h
  rw [Bool.and_eq_true, List.all_eq_true, decide_eq_true_eq] at h
  exact ⟨fun x hx => of_decide_eq_true (h.1 x hx), h.2⟩
theorem unlike_of {l : List Int} (h1 : ∀ x ∈ l, 0 ≤ x ∧ x ≤ 15) (h2 : l.Nodup) : unlike l = true := by
  unfold unlike
  rw [Bool.and_eq_true, List.all_eq_true, decide_eq_true_eq]
  exact ⟨fun x hx => decide_eq_true (h1 x hx), h2⟩
/-- One behind the others. -/
theorem unlike_snoc (l : List Int) (x : Int) : unlike (l ++ [x]) = (unlike l && (okNode x && !l.contains x)) := by
  rw [Bool.eq_iff_iff]
  unfold unlike
  simp only [List.all_append, Bool.and_eq_true, decide_eq_true_eq, List.all_cons, List.all_nil, and_true, List.nodup_append, List.nodup_cons, List.not_mem_nil, not_false_eq_true, List.nodup_nil, true_and, List.mem_singleton, Bool.not_eq_true', List.contains_eq_mem, decide_eq_false_iff_not]
  constructor
  · rintro ⟨⟨h1, h2⟩, h3, h4⟩
    exact ⟨⟨h1, h3⟩, h2, fun hm => h4 x hm x rfl rfl⟩
  · rintro ⟨⟨h1, h3⟩, h2, h4⟩
    exact ⟨⟨h1, h2⟩, h3, fun a ha b hb hab => h4 (by rw [← hb, ← hab]; exact ha)⟩
theorem unlike_take {l : List Int} (n : Nat) (h : unlike l = true) : unlike (l.take n) = true := by
  obtain ⟨h1, h2⟩ := unlike_ok h
  exact unlike_of (fun x hx => h1 x (List.mem_of_mem_take hx)) (h2.sublist (List.take_sublist n l))
theorem shard_ok {l : List Int} (h : okShard l = true) : 1 ≤ l.length ∧ l.length ≤ 3 ∧ unlike l = true := by
  unfold okShard at h
  rw [Bool.and_eq_true, decide_eq_true_eq] at h
  exact ⟨h.1.1, h.1.2, h.2⟩
theorem right_ok {c : C} (h : right c = true) : (1 ≤ c.term ∧ c.term ≤ 64) ∧ (1 ≤ c.shards.length ∧ c.shards.length ≤ 8) ∧ (∀ l ∈ c.shards, okShard l = true) ∧ (c.seqs.length = 1 ∨ c.seqs.length = 3 ∨ c.seqs.length = 5 ∨ c.seqs.length = 7) ∧ unlike c.seqs = true := by
  unfold right at h
  simp only [Bool.and_eq_true, decide_eq_true_eq, List.all_eq_true] at h
  exact ⟨h.1.1, h.1.2, h.2.1, h.2.2.1, h.2.2.2⟩
/-! As bytes. -/
def row (l : List Int) : List UInt8 := Pack.num l.length ++ Rec.numsOf l
def rowsOf (ls : List (List Int)) : List UInt8 := (ls.map row).flatten
theorem rowsOf_snoc (ls : List (List Int)) (l : List Int) : rowsOf (ls ++ [l]) = rowsOf ls ++ row l := by simp [rowsOf]
theorem rowsOf_cons (l : List Int) (ls : List (List Int)) : rowsOf (l :: ls) = row l ++ rowsOf ls := by simp [rowsOf]
def text (c : C) : List UInt8 := Pack.num c.term.toNat ++ (row c.seqs ++ (Pack.num c.shards.length ++ rowsOf c.shards))
def enc (c : C) : List UInt8 := text c ++ Crc.low (Crc.sum (text c))
/-- A row is read. -/
def readRow (s : Pack.St) : Pack.St × List Int := Rec.readsM 16 (s.num 16).1 (s.num 16).2
def readRows (s : Pack.St) : Nat → Pack.St × List (List Int)
  | 0 => (s, [])
  | k + 1 => ((readRow (readRows s k).1).1, (readRows s k).2 ++ [(readRow (readRows s k).1).2])
def stA (l : List UInt8) : Pack.St × Nat := Pack.St.num ⟨l, 0⟩ 64
def stB (l : List UInt8) : Pack.St × List Int := readRow (stA l).1
def stC (l : List UInt8) : Pack.St × Nat := (stB l).1.num 8
def stD (l : List UInt8) : Pack.St × List (List Int) := readRows (stC l).1 (stC l).2
def read (l : List UInt8) : C := ⟨(stA l).2, (stB l).2, (stD l).2⟩
def readOk (l : List UInt8) : Bool := ((stD l).1.done == 0) && right (read l)

theorem readRow_back {l : List Int} (h : ∀ x ∈ l, 0 ≤ x ∧ x ≤ 15) (h16 : l.length ≤ 16) (r : List UInt8) : readRow ⟨row l ++ r, 0⟩ = (⟨r, 0⟩, l) := by
  unfold readRow row
  rw [List.append_assoc, Pack.read_num _ _ _ _ (by omega) (by omega)]
  have := Rec.reads_back 16 l (fun x hx => by have := h x hx; omega) r l.length (Nat.le_refl _)
  rw [List.drop_length, List.take_length] at this
  exact this
theorem readRows_back (ls : List (List Int)) (h : ∀ l ∈ ls, okShard l = true) (r : List UInt8) : ∀ k, k ≤ ls.length → readRows ⟨rowsOf ls ++ r, 0⟩ k = (⟨rowsOf (ls.drop k) ++ r, 0⟩, ls.take k) := by
  intro k
  induction k with
  | zero => intro _; simp [readRows]
  | succ k ih =>
    intro hk
    have hlt : k < ls.length := by omega
    obtain ⟨h1, h2, h3⟩ := shard_ok (h _ (List.getElem_mem hlt))
    have hd : ls.drop k = ls[k] :: ls.drop (k + 1) := by rw [List.drop_eq_getElem_cons hlt]
    unfold readRows
    rw [ih (by omega), hd, rowsOf_cons, List.append_assoc]
    rw [readRow_back (unlike_ok h3).1 (by omega), List.take_succ_eq_append_getElem hlt]
theorem read_text {c : C} (h : right c = true) : (stD (text c)).1 = ⟨[], 0⟩ ∧ read (text c) = c := by
  obtain ⟨h1, h2, h3, h4, h5⟩ := right_ok h
  have hA : stA (text c) = (⟨row c.seqs ++ (Pack.num c.shards.length ++ rowsOf c.shards), 0⟩, c.term.toNat) := Pack.read_num _ _ _ _ (by omega) (by omega)
  have hB : stB (text c) = (⟨Pack.num c.shards.length ++ rowsOf c.shards, 0⟩, c.seqs) := by
    unfold stB; rw [hA]; exact readRow_back (unlike_ok h5).1 (by omega) _
  have hC : stC (text c) = (⟨rowsOf c.shards, 0⟩, c.shards.length) := by
    unfold stC; rw [hB]; exact Pack.read_num _ _ _ _ (by omega) (by omega)
  have hD : stD (text c) = (⟨[], 0⟩, c.shards) := by
    unfold stD; rw [hC]
    have := readRows_back c.shards h3 [] c.shards.length (Nat.le_refl _)
    rw [List.drop_length, List.take_length, List.append_nil] at this
    exact this
  refine ⟨by rw [hD], ?_⟩
  unfold read
  rw [hA, hB, hD]
  obtain ⟨t, s, d⟩ := c
  simp only at h1 ⊢
  rw [show ((t.toNat : Nat) : Int) = t from by omega]
theorem readOk_text {c : C} (h : right c = true) : readOk (text c) = true := by
  unfold readOk
  rw [(read_text h).1, (read_text h).2, h]
  rfl
def dec (b : List UInt8) : Option C := match Crc.cutOf b with
  | none => none
  | some l => if readOk l then some (read l) else none
theorem dec_enc {c : C} (h : right c = true) : dec (enc c) = some c := by
  unfold dec enc
  rw [Crc.cut_put]
  simp only [readOk_text h, if_true, (read_text h).2]

/-! Two majorities meet. -/
/-! Who all are: rising, each once. -/
def put : List Int → Int → List Int
  | [], n => [n]
  | x :: l, n => if n < x then n :: x :: l else if n = x then x :: l else x :: put l n
def rises (l : List Int) : Prop := l.Pairwise (· < ·)
def all (c : C) : List Int := c.seqs ++ c.shards.flatten
/-! The next one. -/
def left (l gone : List Int) : List Int := l.filter (fun x => !gone.contains x)
def odd (l : List Int) : List Int := if l.length % 2 = 0 then l.take (l.length - 1) else l
def next (c : C) (gone : List Int) : C := ⟨c.term + 1, odd (left c.seqs gone), c.shards.map (fun l => left l gone)⟩
/-! Are two configurations the same? -/
def alike (a b : C) : Bool := (a.term == b.term) && ((a.seqs == b.seqs) && (a.shards == b.shards))
theorem alike_iff (a b : C) : alike a b = true ↔ a = b := by
  obtain ⟨a1, a2, a3⟩ := a
  obtain ⟨b1, b2, b3⟩ := b
  unfold alike
  simp
theorem alike_self (a : C) : alike a a = true := (alike_iff a a).2 rfl
theorem row_le {l : List Int} (h : ∀ x ∈ l, 0 ≤ x ∧ x ≤ 15) (hl : l.length ≤ 100) : (row l).length ≤ 9 + 9 * l.length := by
  have key : ∀ l : List Int, (∀ x ∈ l, 0 ≤ x ∧ x ≤ 15) → (Rec.numsOf l).length ≤ 9 * l.length := by
    intro l
    induction l with
    | nil => intro _; simp [Rec.numsOf]
    | cons x l ih =>
      intro hl
      rw [Rec.numsOf_cons, List.length_append, List.length_cons]
      have := Pack.num_nine (n := x.toNat) (by have := hl x (by simp); omega)
      have := ih (fun y hy => hl y (by simp [hy]))
      omega
  have h1 := key l h
  have h2 := Pack.num_nine (n := l.length) (by omega)
  unfold row
  rw [List.length_append]
  omega
theorem rowsOf_le : ∀ ls : List (List Int), (∀ l ∈ ls, okShard l = true) → (rowsOf ls).length ≤ 36 * ls.length := by
  intro ls
  induction ls with
  | nil => intro _; simp [rowsOf]
  | cons l ls ih =>
    intro h
    obtain ⟨h1, h2, h3⟩ := shard_ok (h l (by simp))
    have := row_le (unlike_ok h3).1 (by omega)
    have := ih (fun m hm => h m (by simp [hm]))
    rw [rowsOf_cons, List.length_append, List.length_cons]
    omega
theorem enc_le {c : C} (h : right c = true) : (enc c).length ≤ 382 := by
  obtain ⟨h1, h2, h3, h4, h5⟩ := right_ok h
  have n1 := Pack.num_nine (n := c.term.toNat) (by omega)
  have n2 := row_le (unlike_ok h5).1 (by omega)
  have n3 := Pack.num_nine (n := c.shards.length) (by omega)
  have n4 := rowsOf_le c.shards h3
  unfold enc text
  simp only [List.length_append, Crc.low_length]
  omega
end Go.Proofs.YtaijgpdlgcgfaaaGreat.Term
