/-
  Plain mathematics of CRC-32 on natural numbers: the step, the table, that it is linear, that a turned byte is told. No program.
-/
import Derived.Below
namespace Go.Proofs.Ytpefengjpedifaa.Crc

theorem xor_zero_eq (a b : Nat) (h : a ^^^ b = 0) : a = b := by
  have e := congrArg (· ^^^ b) h
  simpa [Nat.xor_assoc] using e

/-- One bit out. -/
def step (n : Nat) : Nat := if n % 2 = 1 then (n / 2) ^^^ 3988292384 else n / 2
/-- k bits out. -/
def steps : Nat → Nat → Nat
  | 0, n => n
  | k + 1, n => steps k (step n)
/-- One byte more. -/
def byte (n : Nat) (x : UInt8) : Nat := steps 8 (n ^^^ x.toNat)
def run (n : Nat) (l : List UInt8) : Nat := l.foldl byte n
def more (s : Nat) (l : List UInt8) : Nat := 4294967295 - run (4294967295 - s) l
def sum (l : List UInt8) : Nat := more 0 l
def low (n : Nat) : List UInt8 := [UInt8.ofNat n, UInt8.ofNat (n / 256), UInt8.ofNat (n / 65536), UInt8.ofNat (n / 16777216)]

theorem xor_lt (a b : Nat) (ha : a < 4294967296) (hb : b < 4294967296) : a ^^^ b < 4294967296 := Nat.xor_lt_two_pow (n := 32) ha hb

theorem step_lt (n : Nat) (h : n < 4294967296) : step n < 4294967296 := by
  unfold step
  split
  · exact xor_lt _ _ (by omega) (by omega)
  · omega

theorem steps_lt (k : Nat) : ∀ n, n < 4294967296 → steps k n < 4294967296 := by
  induction k with
  | zero => intro n h; exact h
  | succ k ih => intro n h; exact ih _ (step_lt n h)

theorem byte_lt (n : Nat) (x : UInt8) (h : n < 4294967296) : byte n x < 4294967296 :=
  steps_lt 8 _ (xor_lt _ _ h (by have := x.toNat_lt; omega))

theorem run_lt (l : List UInt8) : ∀ n, n < 4294967296 → run n l < 4294967296 := by
  induction l with
  | nil => intro n h; exact h
  | cons x l ih => intro n h; exact ih _ (byte_lt n x h)

theorem more_lt (s : Nat) (l : List UInt8) : more s l < 4294967296 := by unfold more; omega

theorem run_append (n : Nat) (a b : List UInt8) : run n (a ++ b) = run (run n a) b := List.foldl_append

theorem more_more (s : Nat) (a b : List UInt8) : more (more s a) b = more s (a ++ b) := by
  unfold more
  have h := run_lt a (4294967295 - s) (by omega)
  rw [run_append]
  congr 2
  omega

theorem more_nil (s : Nat) (h : s < 4294967296) : more s [] = s := by
  show 4294967295 - (4294967295 - s) = s
  omega

theorem xor_mod2 (a b : Nat) : (a ^^^ b) % 2 = (a % 2 + b % 2) % 2 := by
  have h := Nat.testBit_xor a b 0
  simp only [Nat.testBit_zero] at h
  rcases Nat.mod_two_eq_zero_or_one a with ha | ha <;> rcases Nat.mod_two_eq_zero_or_one b with hb | hb <;>
    rcases Nat.mod_two_eq_zero_or_one (a ^^^ b) with hc | hc <;> simp_all

theorem xor_div2 (a b : Nat) : (a ^^^ b) / 2 = (a / 2) ^^^ (b / 2) := by
  apply Nat.eq_of_testBit_eq
  intro i
  simp [Nat.testBit_div_two]

theorem step_xor (a b : Nat) : step (a ^^^ b) = step a ^^^ step b := by
  unfold step
  rw [xor_mod2, xor_div2]
  rcases Nat.mod_two_eq_zero_or_one a with ha | ha <;> rcases Nat.mod_two_eq_zero_or_one b with hb | hb <;> simp only [ha, hb]
  · simp
  · simp [Nat.xor_assoc]
  · simp
    rw [Nat.xor_assoc, Nat.xor_assoc, Nat.xor_comm 3988292384]
  · simp
    have e : ∀ x y p : Nat, x ^^^ y = x ^^^ p ^^^ (y ^^^ p) := by
      intro x y p
      apply Nat.eq_of_testBit_eq
      intro i
      simp only [Nat.testBit_xor]
      cases x.testBit i <;> cases y.testBit i <;> cases p.testBit i <;> rfl
    exact e _ _ _

theorem steps_xor (k : Nat) : ∀ a b, steps k (a ^^^ b) = steps k a ^^^ steps k b := by
  induction k with
  | zero => intro a b; rfl
  | succ k ih => intro a b; show steps k (step (a ^^^ b)) = _; rw [step_xor, ih]; rfl

theorem steps_succ (k : Nat) : ∀ n, steps (k + 1) n = step (steps k n) := by
  induction k with
  | zero => intro n; rfl
  | succ k ih => intro n; show steps (k + 1) (step n) = _; rw [ih]; rfl

/-- Bits that are 0 fall out alone. -/
theorem steps_mul (k : Nat) : ∀ n, steps k (n * 2 ^ k) = n := by
  induction k with
  | zero => intro n; simp [steps]
  | succ k ih =>
    intro n
    show steps k (step (n * 2 ^ (k + 1))) = n
    have h : step (n * 2 ^ (k + 1)) = n * 2 ^ k := by
      unfold step
      have e : n * 2 ^ (k + 1) = 2 * (n * 2 ^ k) := by rw [Nat.pow_succ]; ac_rfl
      rw [e, if_neg (by omega)]
      omega
    rw [h, ih]

/-- The table's own way: eight bits at once. -/
theorem split_low (n : Nat) : n = (n / 256 * 2 ^ 8) ^^^ (n % 256) := by
  apply Nat.eq_of_testBit_eq
  intro i
  rw [Nat.testBit_xor, Nat.testBit_mul_two_pow]
  rw [show n / 256 = n >>> 8 from by rw [Nat.shiftRight_eq_div_pow]]
  rw [Nat.testBit_shiftRight, show n % 256 = n % 2 ^ 8 from rfl, Nat.testBit_mod_two_pow]
  by_cases h : i < 8
  · have h8 : ¬ 8 ≤ i := by omega
    simp [h, h8]
  · have h8 : 8 ≤ i := by omega
    simp [h, h8, Nat.add_sub_cancel' h8]

theorem steps8 (n : Nat) : steps 8 n = (n / 256) ^^^ steps 8 (n % 256) := by
  conv => lhs; rw [split_low n]
  rw [steps_xor, steps_mul]

theorem xor_div256 (a b : Nat) : (a ^^^ b) / 256 = (a / 256) ^^^ (b / 256) := by
  apply Nat.eq_of_testBit_eq
  intro i
  rw [show (256 : Nat) = 2 ^ 8 from rfl]
  simp only [Nat.testBit_div_two_pow, Nat.testBit_xor]

theorem xor_mod256 (a b : Nat) : (a ^^^ b) % 256 = (a % 256) ^^^ (b % 256) := by
  apply Nat.eq_of_testBit_eq
  intro i
  rw [show (256 : Nat) = 2 ^ 8 from rfl]
  simp only [Nat.testBit_mod_two_pow, Nat.testBit_xor]
  by_cases h : i < 8 <;> simp [h]

theorem byte_table (n : Nat) (x : UInt8) : byte n x = (n / 256) ^^^ steps 8 (n % 256 ^^^ x.toNat) := by
  have hx := x.toNat_lt
  unfold byte
  rw [steps8, xor_div256, xor_mod256, Nat.div_eq_of_lt (a := x.toNat) (by omega), Nat.mod_eq_of_lt (a := x.toNat) (by omega)]
  simp

/-- What Cut tells: the bytes ahead of the sum, if it is right. -/
def cutOf (l : List UInt8) : Option (List UInt8) :=
  if l.length < 4 then none else if l.take (l.length - 4) ++ low (sum (l.take (l.length - 4))) = l then some (l.take (l.length - 4)) else none
theorem low_length (n : Nat) : (low n).length = 4 := rfl
theorem cut_put (l : List UInt8) : cutOf (l ++ low (sum l)) = some l := by
  have h1 : (l ++ low (sum l)).length = l.length + 4 := by rw [List.length_append, low_length]
  unfold cutOf
  rw [h1, if_neg (by omega)]
  have h2 : (l ++ low (sum l)).take (l.length + 4 - 4) = l := by rw [Nat.add_sub_cancel]; exact List.take_left
  rw [h2, if_pos rfl]

theorem sum_nil : sum [] = 0 := more_nil 0 (by decide)

theorem all_xor (s : Nat) (h : s < 4294967296) : 4294967295 ^^^ s = 4294967295 - s := by
  apply Nat.eq_of_testBit_eq
  intro i
  rw [Nat.testBit_xor, show (4294967295 : Nat) = 2 ^ 32 - 1 from rfl, Nat.testBit_two_pow_sub_one]
  rw [show 2 ^ 32 - 1 - s = 2 ^ 32 - (s + 1) from by omega, Nat.testBit_two_pow_sub_succ h]
  by_cases hi : i < 32
  · simp [hi]
  · have : s.testBit i = false := Nat.testBit_lt_two_pow (Nat.lt_of_lt_of_le h (show (4294967296 : Nat) ≤ 2 ^ i from Nat.pow_le_pow_right (n := 2) (by omega) (show 32 ≤ i by omega)))
    simp [hi, this]

/-! The table, filled by halves. -/
theorem steps_add (j k : Nat) : ∀ n, steps (j + k) n = steps j (steps k n) := by
  induction k with
  | zero => intro n; rfl
  | succ k ih => intro n; show steps (j + k) (step n) = _; rw [ih]; rfl
theorem steps_bit (k : Nat) (h : k < 8) : steps 8 (2 ^ (7 - k)) = steps (k + 1) 1 := by
  have e : 8 = (k + 1) + (7 - k) := by omega
  conv => lhs; rw [e]
  rw [steps_add]
  have := steps_mul (7 - k) 1
  rw [Nat.one_mul] at this
  rw [this]
theorem add_eq_xor (a m : Nat) : a * 2 ^ (m + 1) + 2 ^ m = (a * 2 ^ (m + 1)) ^^^ 2 ^ m := by
  apply Nat.eq_of_testBit_eq
  intro i
  have h2 : 2 ^ m < 2 ^ (m + 1) := by rw [Nat.pow_succ]; have := Nat.two_pow_pos m; omega
  rw [Nat.mul_comm, Nat.testBit_two_pow_mul_add _ h2, Nat.testBit_xor, Nat.testBit_two_pow_mul]
  by_cases hi : i < m + 1
  · have : ¬ m + 1 ≤ i := by omega
    simp [hi, this]
  · have h3 : m + 1 ≤ i := by omega
    have h4 : (2 ^ m).testBit i = false := by rw [Nat.testBit_two_pow]; simp; omega
    simp [hi, h3, h4]
theorem table_next (a k : Nat) (h : k < 8) : steps 8 (a * 2 ^ (8 - k) + 2 ^ (7 - k)) = steps 8 (a * 2 ^ (8 - k)) ^^^ steps (k + 1) 1 := by
  have e : 8 - k = (7 - k) + 1 := by omega
  rw [e, add_eq_xor, steps_xor, steps_bit k h]

/-! Bytes of which one, and perhaps its neighbour, is another one. -/

theorem step_inj (a b : Nat) (ha : a < 4294967296) (hb : b < 4294967296) (h : step a = step b) : a = b := by
  have h2 : step (a ^^^ b) = 0 := by rw [step_xor, h]; simp
  have hlt : a ^^^ b < 4294967296 := xor_lt _ _ ha hb
  have key : ∀ n, n < 4294967296 → step n = 0 → n = 0 := by
    intro n hn hs
    unfold step at hs
    split at hs
    · rename_i hm
      exfalso
      have e : n / 2 = 3988292384 := by
        have := congrArg (· ^^^ 3988292384) hs
        simpa [Nat.xor_assoc] using this
      omega
    · omega
  have h0 := key _ hlt h2
  exact xor_zero_eq _ _ h0

theorem steps_inj (k : Nat) : ∀ a b, a < 4294967296 → b < 4294967296 → steps k a = steps k b → a = b := by
  induction k with
  | zero => intro a b _ _ h; exact h
  | succ k ih => intro a b ha hb h; exact step_inj a b ha hb (ih _ _ (step_lt a ha) (step_lt b hb) h)

theorem byte_inj (a b : Nat) (x : UInt8) (ha : a < 4294967296) (hb : b < 4294967296) (h : byte a x = byte b x) : a = b := by
  have hx := x.toNat_lt
  have := steps_inj 8 _ _ (xor_lt _ _ ha (by omega)) (xor_lt _ _ hb (by omega)) h
  have e := congrArg (· ^^^ x.toNat) this
  simpa [Nat.xor_assoc] using e

theorem run_inj (l : List UInt8) : ∀ a b, a < 4294967296 → b < 4294967296 → run a l = run b l → a = b := by
  induction l with
  | nil => intro a b _ _ h; exact h
  | cons x l ih => intro a b ha hb h; exact byte_inj a b x ha hb (ih _ _ (byte_lt a x ha) (byte_lt b x hb) h)

/-- What a byte that is not 0 does has a bit above the lowest 8. -/
theorem table_high : ∀ t : Fin 256, t.val ≠ 0 → 256 ≤ steps 8 t.val := by decide +kernel

theorem byte_ne (n : Nat) (x y : UInt8) (hn : n < 4294967296) (h : x ≠ y) : byte n x ≠ byte n y := by
  intro e
  have hx := x.toNat_lt
  have hy := y.toNat_lt
  have := steps_inj 8 _ _ (xor_lt _ _ hn (by omega)) (xor_lt _ _ hn (by omega)) e
  have e2 : x.toNat = y.toNat := by
    have e := congrArg (n ^^^ ·) this
    simpa [← Nat.xor_assoc] using e
  exact h (UInt8.toNat_inj.mp e2)

theorem two_ne (n : Nat) (x y p q : UInt8) (hn : n < 4294967296) (h : x ≠ y) : byte (byte n x) p ≠ byte (byte n y) q := by
  intro e
  have hx := x.toNat_lt
  have hy := y.toNat_lt
  have hp := p.toNat_lt
  have hq := q.toNat_lt
  have e1 := steps_inj 8 _ _ (xor_lt _ _ (byte_lt n x hn) (by omega)) (xor_lt _ _ (byte_lt n y hn) (by omega)) e
  have e2 : byte n x ^^^ byte n y = p.toNat ^^^ q.toNat := by
    apply Nat.eq_of_testBit_eq
    intro i
    have := congrArg (fun z => z.testBit i) e1
    simp only [Nat.testBit_xor] at this ⊢
    revert this
    cases (byte n x).testBit i <;> cases (byte n y).testBit i <;> cases p.toNat.testBit i <;> cases q.toNat.testBit i <;> simp
  have e3 : byte n x ^^^ byte n y = steps 8 (x.toNat ^^^ y.toNat) := by
    unfold byte
    rw [← steps_xor]
    congr 1
    apply Nat.eq_of_testBit_eq
    intro i
    simp only [Nat.testBit_xor]
    cases n.testBit i <;> cases x.toNat.testBit i <;> cases y.toNat.testBit i <;> rfl
  have hz : x.toNat ^^^ y.toNat ≠ 0 := by
    intro h0
    exact h (UInt8.toNat_inj.mp (xor_zero_eq _ _ h0))
  have hlt : x.toNat ^^^ y.toNat < 256 := Nat.xor_lt_two_pow (n := 8) hx hy
  have hhi := table_high ⟨_, hlt⟩ hz
  have hlo : p.toNat ^^^ q.toNat < 256 := Nat.xor_lt_two_pow (n := 8) hp hq
  rw [← e2, e3] at hlo
  simp only at hhi
  omega

theorem sum_eq (a b : List UInt8) (h : sum a = sum b) : run 4294967295 a = run 4294967295 b := by
  have h1 := run_lt a 4294967295 (by decide)
  have h2 := run_lt b 4294967295 (by decide)
  unfold sum more at h
  simp only [Nat.sub_zero] at h
  omega

/-- One byte turned, and its neighbour perhaps. -/
def turned (l : List UInt8) (k : Nat) (t u : UInt8) : List UInt8 :=
  if k + 1 < l.length then (l.set k (l.getD k 0 ^^^ t)).set (k + 1) (l.getD (k + 1) 0 ^^^ u) else l.set k (l.getD k 0 ^^^ t)
theorem turned_length (l : List UInt8) (k : Nat) (t u : UInt8) : (turned l k t u).length = l.length := by
  unfold turned; split <;> simp

theorem xor_ne (x t : UInt8) (h : t ≠ 0) : x ^^^ t ≠ x := by
  intro e
  have e1 := congrArg (fun z => x ^^^ z) e
  simp only [← UInt8.xor_assoc, UInt8.xor_self, UInt8.zero_xor] at e1
  exact h e1

theorem turned_one (s : Nat) (hs : s < 4294967296) (P D : List UInt8) (x t : UInt8) (ht : t ≠ 0) : run s (P ++ (x ^^^ t) :: D) ≠ run s (P ++ x :: D) := by
  intro h
  rw [run_append, run_append] at h
  have hp := run_lt P s hs
  generalize run s P = r at *
  exact byte_ne r _ _ hp (xor_ne x t ht) (run_inj D (byte r (x ^^^ t)) (byte r x) (byte_lt _ _ hp) (byte_lt _ _ hp) h)
theorem turned_two (s : Nat) (hs : s < 4294967296) (P D : List UInt8) (x y z t : UInt8) (ht : t ≠ 0) : run s (P ++ (x ^^^ t) :: z :: D) ≠ run s (P ++ x :: y :: D) := by
  intro h
  rw [run_append, run_append] at h
  have hp := run_lt P s hs
  generalize run s P = r at *
  exact two_ne r _ _ _ _ hp (xor_ne x t ht) (run_inj D (byte (byte r (x ^^^ t)) z) (byte (byte r x) y) (byte_lt _ _ (byte_lt _ _ hp)) (byte_lt _ _ (byte_lt _ _ hp)) h)

theorem part_at (l : List UInt8) (k : Nat) (hk : k < l.length) : ∃ P x D, P.length = k ∧ l = P ++ x :: D :=
  ⟨l.take k, l[k], l.drop (k + 1), by simp; omega, by rw [List.getElem_cons_drop hk, List.take_append_drop]⟩

theorem turned_ne (l : List UInt8) (k : Nat) (t u : UInt8) (hk : k < l.length) (ht : t ≠ 0) : sum (turned l k t u) ≠ sum l := by
  intro h
  have h1 := sum_eq _ _ h
  obtain ⟨s, hs⟩ : ∃ s, s = 4294967295 := ⟨_, rfl⟩
  rw [← hs] at h1
  have hs' : s < 4294967296 := by omega
  clear hs h
  obtain ⟨P, x, D, rfl, rfl⟩ := part_at l k hk
  unfold turned at h1
  split at h1
  · rename_i hk1
    cases D with
    | nil => simp at hk1
    | cons y D =>
      have hset : ((P ++ x :: y :: D).set P.length ((P ++ x :: y :: D).getD P.length 0 ^^^ t)).set (P.length + 1) ((P ++ x :: y :: D).getD (P.length + 1) 0 ^^^ u) = P ++ (x ^^^ t) :: (y ^^^ u) :: D := by
        simp [List.getD, List.set_append_right]
      rw [hset] at h1
      exact turned_two s hs' P D x y _ t ht h1
  · have hset : (P ++ x :: D).set P.length ((P ++ x :: D).getD P.length 0 ^^^ t) = P ++ (x ^^^ t) :: D := by
      simp [List.getD, List.set_append_right]
    rw [hset] at h1
    exact turned_one s hs' P D x t ht h1

theorem low_inj (n m : Nat) (hn : n < 4294967296) (hm : m < 4294967296) (h : low n = low m) : n = m := by
  unfold low at h
  simp only [List.cons.injEq, and_true] at h
  obtain ⟨h0, h1, h2, h3⟩ := h
  have key : ∀ a b : Nat, UInt8.ofNat a = UInt8.ofNat b → a % 256 = b % 256 := by
    intro a b e
    have := congrArg UInt8.toNat e
    simpa [UInt8.toNat_ofNat'] using this
  have k0 := key _ _ h0
  have k1 := key _ _ h1
  have k2 := key _ _ h2
  have k3 := key _ _ h3
  omega

theorem cut_other (c l : List UInt8) (h : sum c ≠ sum l) : cutOf (c ++ low (sum l)) = none := by
  have h1 : (c ++ low (sum l)).length = c.length + 4 := by rw [List.length_append, low_length]
  unfold cutOf
  rw [h1, if_neg (by omega)]
  have h2 : (c ++ low (sum l)).take (c.length + 4 - 4) = c := by rw [Nat.add_sub_cancel]; exact List.take_left
  rw [h2, if_neg]
  intro e
  exact h (low_inj _ _ (more_lt _ _) (more_lt _ _) (List.append_cancel_left e))

end Go.Proofs.Ytpefengjpedifaa.Crc
