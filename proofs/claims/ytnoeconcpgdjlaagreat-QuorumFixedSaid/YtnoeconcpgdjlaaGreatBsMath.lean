import Derived.Below
import Derived.Test.YtnoeconcpgdjlaaGreatBsLib
set_option linter.unusedSimpArgs false
set_option linter.unusedVariables false
namespace Go.Proofs.YtnoeconcpgdjlaaGreat.Pack
theorem zjq (n : Nat) (h : n < 256) : (UInt8.ofNat n).toNat = n := by simp [UInt8.toNat_ofNat', Nat.mod_eq_of_lt h]
def num (n : Nat) : List UInt8 := if n < 128 then [UInt8.ofNat n] else UInt8.ofNat (128 + n % 128) :: num (n / 128)
termination_by n
decreasing_by omega
theorem num_low {n : Nat} (h : n < 128) : num n = [UInt8.ofNat n] := by rw [num, if_pos h]
theorem num_high {n : Nat} (h : ¬ n < 128) : num n = UInt8.ofNat (128 + n % 128) :: num (n / 128) := by rw [num, if_neg h]
def val : List UInt8 -> Nat
 | [] => 0
 | b :: l => b.toNat % 128 + 128 * val l
theorem zm5 (l m : List UInt8) : val (l ++ m) = val l + 128 ^ l.length * val m := by
 induction l with
 | nil => simp [val]
 | cons b l ih => simp only [List.cons_append, val, ih, List.length_cons, Nat.pow_succ]; rw [Nat.mul_add, Nat.add_assoc, Nat.mul_comm (128 ^ l.length) 128, Nat.mul_assoc]
theorem val_lt (l : List UInt8) : val l < 128 ^ l.length := by
 induction l with
 | nil => simp [val]
 | cons b l ih => simp only [val, List.length_cons, Nat.pow_succ]; have := Nat.mod_lt b.toNat (show 0 < 128 by decide); omega
theorem val_snoc (l : List UInt8) (b : UInt8) : val (l ++ [b]) = val l + 128 ^ l.length * (b.toNat % 128) := by
 rw [zm5]; simp [val]
def lead : List UInt8 -> Nat
 | [] => 0
 | b :: l => if b.toNat < 128 then 0 else lead l + 1
theorem lead_le (l : List UInt8) : lead l <= l.length := by
 induction l with
 | nil => simp [lead]
 | cons b l ih => simp only [lead, List.length_cons]; split <;> omega
theorem lead_big (l : List UInt8) (i : Nat) (hi : i < l.length) (h : i < lead l) : ¬ l[i].toNat < 128 := by
 induction l generalizing i with
 | nil => simp at hi
 | cons b l ih =>
  simp only [lead] at h
  split at h
  . omega
  . cases i with
    | zero => rename_i hb; exact hb
    | succ i => simpa using ih i (by simpa using hi) (by omega)
theorem lead_small (l : List UInt8) (h : lead l < l.length) : l[lead l].toNat < 128 := by
 induction l with
 | nil => simp at h
 | cons b l ih =>
  by_cases hb : b.toNat < 128
  . have e : lead (b :: l) = 0 := by simp [lead, hb]
    simpa only [e, List.getElem_cons_zero] using hb
  . have e : lead (b :: l) = lead l + 1 := by simp [lead, hb]
    simp only [e, List.getElem_cons_succ]
    exact ih (by rw [e] at h; simpa using h)
theorem lead_eq (l : List UInt8) (k : Nat) (hk : k < l.length) (hb : ∀ i (hi : i < l.length), i < k -> ¬ l[i].toNat < 128) (hs : l[k].toNat < 128) : lead l = k := by
 have h1 : ¬ lead l < k := fun h => by
  have := lead_small l (by omega)
  exact hb (lead l) (by omega) h this
 have h2 : ¬ k < lead l := fun h => lead_big l k hk h hs
 omega
theorem zte (n : Nat) : num n ≠ [] := by
 by_cases h : n < 128
 . rw [num_low h]; simp
 . rw [num_high h]; simp
theorem zno (n : Nat) : 1 <= (num n).length := List.length_pos_iff.2 (zte n)
theorem zkb (n : Nat) : val (num n) = n := by
 induction n using Nat.strongRecOn with
 | _ n ih =>
  by_cases h : n < 128
  . rw [num_low h]; simp only [val, zjq n (by omega)]; omega
  . rw [num_high h]; simp only [val, zjq (128 + n % 128) (by omega)]; rw [ih (n / 128) (by omega)]; omega
theorem zhs (k : Nat) : ∀ n, n < 128 ^ (k + 1) -> (num n).length <= k + 1 := by
 induction k with
 | zero => intro n h; rw [num_low (by simpa using h)]; simp
 | succ k ih =>
  intro n h
  by_cases hn : n < 128
  . rw [num_low hn]; simp
  . rw [num_high hn]
    have := ih (n / 128) (by rw [Nat.pow_succ] at h; exact Nat.div_lt_of_lt_mul (by rw [Nat.mul_comm]; exact h))
    simp only [List.length_cons]; omega
theorem num_nine {n : Nat} (h : n <= 4611686018427387904) : (num n).length <= 9 := zhs 8 n (Nat.lt_of_le_of_lt h (by decide))
theorem zln (n : Nat) : ∃ l b, num n = l ++ [b] /\ b.toNat < 128 /\ (∀ x ∈ l, ¬ x.toNat < 128) /\ (l = [] \/ b ≠ 0) := by
 induction n using Nat.strongRecOn with
 | _ n ih =>
  by_cases h : n < 128
  . exact ⟨[], UInt8.ofNat n, by rw [num_low h]; rfl, by rw [zjq n (by omega)]; exact h, by simp, .inl rfl⟩
  . obtain ⟨l, b, e, h1, h2, h3⟩ := ih (n / 128) (by omega)
    refine ⟨UInt8.ofNat (128 + n % 128) :: l, b, by rw [num_high h, e]; rfl, h1, ?_, .inr ?_⟩
    . intro x hx
      rcases List.mem_cons.1 hx with rfl | hx
      . rw [zjq _ (by omega)]; omega
      . exact h2 x hx
    . rcases h3 with rfl | h3
      . intro hb
        have hv := zkb (n / 128)
        rw [e, hb] at hv
        simp [val] at hv
        omega
      . exact h3
theorem zqs (n : Nat) (r : List UInt8) : lead (num n ++ r) + 1 = (num n).length := by
 obtain ⟨l, b, e, h1, h2, _⟩ := zln n
 rw [e]
 have : lead (l ++ [b] ++ r) = l.length := by
  refine lead_eq _ _ (by simp) ?_ (by simpa using h1)
  intro i hi hil
  have : (l ++ [b] ++ r)[i] = l[i] := by simp [List.getElem_append_left hil]
  rw [this]
  exact h2 _ (List.getElem_mem _)
 rw [this]; simp
theorem zsy (l : List UInt8) : ∀ (b : UInt8), b.toNat < 128 -> (∀ x ∈ l, ¬ x.toNat < 128) -> (l = [] \/ b ≠ 0) -> num (val (l ++ [b])) = l ++ [b] := by
 induction l with
 | nil =>
  intro b hb _ _
  have : val ([] ++ [b]) = b.toNat := by simp [val]; omega
  rw [this, num_low hb]; simp
 | cons x l ih =>
  intro b hb hl h0
  have hb0 : b ≠ 0 := by rcases h0 with h | h <;> first | cases h | exact h
  have hx := hl x (by simp)
  have hlt := x.toNat_lt
  have hv : 1 <= val (l ++ [b]) := by
   rw [val_snoc]
   have : 1 <= b.toNat := by
    rcases Nat.eq_zero_or_pos b.toNat with h | h
    . exact absurd (UInt8.toNat_inj.1 (by simpa using h)) hb0
    . exact h
   have h1 : 1 <= 128 ^ l.length := Nat.one_le_pow _ _ (by decide)
   have := Nat.mul_le_mul h1 (show 1 <= b.toNat % 128 by omega)
   omega
  have e : val (x :: l ++ [b]) = x.toNat % 128 + 128 * val (l ++ [b]) := rfl
  rw [e, num_high (by omega)]
  have e1 : (x.toNat % 128 + 128 * val (l ++ [b])) % 128 = x.toNat % 128 := by omega
  have e2 : (x.toNat % 128 + 128 * val (l ++ [b])) / 128 = val (l ++ [b]) := by omega
  rw [e1, e2, ih b hb (fun y hy => hl y (by simp [hy])) (.inr hb0)]
  have : UInt8.ofNat (128 + x.toNat % 128) = x := UInt8.toNat_inj.1 (by rw [zjq _ (by omega)]; omega)
  rw [this]; rfl
structure St where
 left : List UInt8
 err : Int
def St.fail (s : St) (e : Int) : St := ⟨[], if s.err = 0 then e else s.err⟩
def wrong (s : List UInt8) (most : Int) : Prop := (2 <= s.length /\ s.getLast? = some 0) \/ 4611686018427387904 < val s \/ most < (val s : Int)
instance (s : List UInt8) (most : Int) : Decidable (wrong s most) := by unfold wrong; infer_instance
def St.num (s : St) (most : Int) : St × Nat :=
 if 9 <= lead s.left then (s.fail 21, 0)
 else if s.left.length <= lead s.left then (s.fail 20, 0)
 else if wrong (s.left.take (lead s.left + 1)) most then (s.fail 21, 0)
 else (⟨s.left.drop (lead s.left + 1), s.err⟩, val (s.left.take (lead s.left + 1)))
def St.text (s : St) (most : Int) : St × List UInt8 :=
 let r := s.num most
 if r.1.left.length < r.2 then (r.1.fail 20, []) else (⟨r.1.left.drop r.2, r.1.err⟩, r.1.left.take r.2)
def St.bool (s : St) : St × Bool :=
 match s.left with
 | [] => (s.fail 20, false)
 | b :: l => if 1 < b.toNat then (s.fail 21, false) else (⟨l, s.err⟩, b == 1)
def St.done (s : St) : Int := if s.left = [] then s.err else 22
theorem zn0 {l : List UInt8} (h : lead l < l.length) : l.take (lead l + 1) = l.take (lead l) ++ [l[lead l]] := zam l _ h
theorem zri {l : List UInt8} (h : lead l < l.length) {x : UInt8} (hx : x ∈ l.take (lead l)) : ¬ x.toNat < 128 := by
 obtain ⟨i, hi, rfl⟩ := List.getElem_of_mem hx
 have hi' : i < lead l := by simp at hi; omega
 simpa using lead_big l i (by omega) hi'
theorem num_read {s : St} {most : Int} (he : s.err = 0) (h : (s.num most).1.err = 0) :
 ∃ n : Nat, s.num most = (⟨s.left.drop (num n).length, 0⟩, n) /\ s.left.take (num n).length = num n /\ (num n).length <= s.left.length /\ n <= 4611686018427387904 /\ (n : Int) <= most := by
 unfold St.num at h ⊢
 split at h
 . simp [St.fail, he] at h
 . split at h
   . simp [St.fail, he] at h
   . split at h
     . simp [St.fail, he] at h
     . rename_i h1 h2 h3
       rw [if_neg h1, if_neg h2, if_neg h3]
       have hlt : lead s.left < s.left.length := by omega
       have e := zn0 hlt
       unfold wrong at h3
       have e2 : num (val (s.left.take (lead s.left + 1))) = s.left.take (lead s.left + 1) := by
        rw [e]
        refine zsy _ _ (lead_small _ hlt) (fun x hx => zri hlt hx) ?_
        by_cases h0 : lead s.left = 0
        . left; simp [h0]
        . right
          intro hz
          apply h3
          left
          rw [e, hz]
          simp
          omega
       refine ⟨val (s.left.take (lead s.left + 1)), ?_, ?_, ?_, by omega, by omega⟩
       . rw [e2, he]; simp only [List.length_take, Nat.min_eq_left hlt]
       . rw [e2]; simp only [List.length_take, Nat.min_eq_left hlt]
       . rw [e2]; simp only [List.length_take, Nat.min_eq_left hlt]; exact hlt
theorem read_num (n : Nat) (r : List UInt8) (e most : Int) (h1 : n <= 4611686018427387904) (h2 : (n : Int) <= most) : St.num ⟨num n ++ r, e⟩ most = (⟨r, e⟩, n) := by
 have hl := zqs n r
 have h9 := num_nine h1
 have ht : (num n ++ r).take (lead (num n ++ r) + 1) = num n := by rw [hl]; simp
 unfold St.num
 simp only []
 rw [if_neg (by omega), if_neg (by simp; omega), ht, if_neg, zkb, hl]
 . simp
 . unfold wrong
   rw [zkb]
   obtain ⟨l, b, e, _, _, h3⟩ := zln n
   rw [e]
   simp
   refine ⟨fun hlen hb => ?_, h1, h2⟩
   rcases h3 with rfl | h3
   . simp at hlen
   . exact h3 hb
structure Part where
 kind : Int
 n : Int
 most : Int
 s : List UInt8
 is : Bool
def Part.good (p : Part) : Bool := if p.kind = 0 then decide (0 <= p.n /\ p.n <= 4611686018427387904) else if p.kind = 1 then decide (p.s.length <= 65536) else true
def Part.bytes (p : Part) : List UInt8 :=
 if p.kind = 0 then (if 0 <= p.n /\ p.n <= 4611686018427387904 then num p.n.toNat else [])
 else if p.kind = 1 then (if p.s.length <= 65536 then num p.s.length ++ p.s else [])
 else if p.kind = 2 then [if p.is then 1 else 0] else []
def St.part (s : St) (p : Part) : St × Part :=
 if p.kind = 0 then ((s.num p.most).1, { kind := p.kind, n := (s.num p.most).2, most := p.most, s := [], is := false })
 else if p.kind = 1 then ((s.text p.most).1, { kind := p.kind, n := 0, most := p.most, s := (s.text p.most).2, is := false })
 else if p.kind = 2 then (s.bool.1, { kind := p.kind, n := 0, most := p.most, s := [], is := s.bool.2 })
 else (s, { kind := p.kind, n := 0, most := p.most, s := [], is := false })
def Part.full (p : Part) : Part := { p with most := 4611686018427387904 }
def St.parts (s : St) : List Part -> St
 | [] => s
 | p :: ps => St.parts (s.part p.full).1 ps
end Go.Proofs.YtnoeconcpgdjlaaGreat.Pack
namespace Go.Proofs.YtnoeconcpgdjlaaGreat.Crc
def step (n : Nat) : Nat := if n % 2 = 1 then (n / 2) ^^^ 3988292384 else n / 2
def steps : Nat -> Nat -> Nat
 | 0, n => n
 | k + 1, n => steps k (step n)
def byte (n : Nat) (x : UInt8) : Nat := steps 8 (n ^^^ x.toNat)
def run (n : Nat) (l : List UInt8) : Nat := l.foldl byte n
def more (s : Nat) (l : List UInt8) : Nat := 4294967295 - run (4294967295 - s) l
def sum (l : List UInt8) : Nat := more 0 l
def low (n : Nat) : List UInt8 := [UInt8.ofNat n, UInt8.ofNat (n / 256), UInt8.ofNat (n / 65536), UInt8.ofNat (n / 16777216)]
theorem xor_lt (a b : Nat) (ha : a < 4294967296) (hb : b < 4294967296) : a ^^^ b < 4294967296 := Nat.xor_lt_two_pow (n := 32) ha hb
theorem zsp (n : Nat) (h : n < 4294967296) : step n < 4294967296 := by
 unfold step
 split
 . exact xor_lt _ _ (by omega) (by omega)
 . omega
theorem steps_lt (k : Nat) : ∀ n, n < 4294967296 -> steps k n < 4294967296 := by
 induction k with
 | zero => intro n h; exact h
 | succ k ih => intro n h; exact ih _ (zsp n h)
theorem byte_lt (n : Nat) (x : UInt8) (h : n < 4294967296) : byte n x < 4294967296 :=
 steps_lt 8 _ (xor_lt _ _ h (by have := x.toNat_lt; omega))
theorem ztt (l : List UInt8) : ∀ n, n < 4294967296 -> run n l < 4294967296 := by
 induction l with
 | nil => intro n h; exact h
 | cons x l ih => intro n h; exact ih _ (byte_lt n x h)
theorem more_lt (s : Nat) (l : List UInt8) : more s l < 4294967296 := by unfold more; omega
theorem run_append (n : Nat) (a b : List UInt8) : run n (a ++ b) = run (run n a) b := List.foldl_append
theorem more_more (s : Nat) (a b : List UInt8) : more (more s a) b = more s (a ++ b) := by
 unfold more
 have h := ztt a (4294967295 - s) (by omega)
 rw [run_append]
 congr 2
 omega
theorem zqm (s : Nat) (h : s < 4294967296) : more s [] = s := by
 show 4294967295 - (4294967295 - s) = s
 omega
theorem zqq (a b : Nat) : (a ^^^ b) % 2 = (a % 2 + b % 2) % 2 := by
 have h := Nat.testBit_xor a b 0
 simp only [Nat.testBit_zero] at h
 rcases Nat.mod_two_eq_zero_or_one a with ha | ha <;> rcases Nat.mod_two_eq_zero_or_one b with hb | hb <;>
  rcases Nat.mod_two_eq_zero_or_one (a ^^^ b) with hc | hc <;> simp_all
theorem zq1 (a b : Nat) : (a ^^^ b) / 2 = (a / 2) ^^^ (b / 2) := by
 apply Nat.eq_of_testBit_eq
 intro i
 simp [Nat.testBit_div_two]
theorem zqr (a b : Nat) : step (a ^^^ b) = step a ^^^ step b := by
 unfold step
 rw [zqq, zq1]
 rcases Nat.mod_two_eq_zero_or_one a with ha | ha <;> rcases Nat.mod_two_eq_zero_or_one b with hb | hb <;> simp only [ha, hb]
 . simp
 . simp [Nat.xor_assoc]
 . simp
   rw [Nat.xor_assoc, Nat.xor_assoc, Nat.xor_comm 3988292384]
 . simp
   have e : ∀ x y p : Nat, x ^^^ y = x ^^^ p ^^^ (y ^^^ p) := by
    intro x y p
    apply Nat.eq_of_testBit_eq
    intro i
    simp only [Nat.testBit_xor]
    cases x.testBit i <;> cases y.testBit i <;> cases p.testBit i <;> rfl
   exact e _ _ _
theorem zi8 (k : Nat) : ∀ a b, steps k (a ^^^ b) = steps k a ^^^ steps k b := by
 induction k with
 | zero => intro a b; rfl
 | succ k ih => intro a b; show steps k (step (a ^^^ b)) = _; rw [zqr, ih]; rfl
theorem steps_succ (k : Nat) : ∀ n, steps (k + 1) n = step (steps k n) := by
 induction k with
 | zero => intro n; rfl
 | succ k ih => intro n; show steps (k + 1) (step n) = _; rw [ih]; rfl
theorem zh4 (k : Nat) : ∀ n, steps k (n * 2 ^ k) = n := by
 induction k with
 | zero => intro n; simp [steps]
 | succ k ih =>
  intro n
  show steps k (step (n * 2 ^ (k + 1))) = n
  have h : step (n * 2 ^ (k + 1)) = n * 2 ^ k := by
   unfold step
   have e : n * 2 ^ (k + 1) = 2 * (n * 2 ^ k) := by rw [Nat.pow_succ]; ac_rfl
   rw [e, if_neg (by omega)]
   omega
  rw [h, ih]
theorem zoy (n : Nat) : n = (n / 256 * 2 ^ 8) ^^^ (n % 256) := by
 apply Nat.eq_of_testBit_eq
 intro i
 rw [Nat.testBit_xor, Nat.testBit_mul_two_pow]
 rw [show n / 256 = n >>> 8 from by rw [Nat.shiftRight_eq_div_pow]]
 rw [Nat.testBit_shiftRight, show n % 256 = n % 2 ^ 8 from rfl, Nat.testBit_mod_two_pow]
 by_cases h : i < 8
 . have h8 : ¬ 8 <= i := by omega
   simp [h, h8]
 . have h8 : 8 <= i := by omega
   simp [h, h8, Nat.add_sub_cancel' h8]
theorem ztb (n : Nat) : steps 8 n = (n / 256) ^^^ steps 8 (n % 256) := by
 conv => lhs; rw [zoy n]
 rw [zi8, zh4]
theorem zmz (a b : Nat) : (a ^^^ b) / 256 = (a / 256) ^^^ (b / 256) := by
 apply Nat.eq_of_testBit_eq
 intro i
 rw [show (256 : Nat) = 2 ^ 8 from rfl]
 simp only [Nat.testBit_div_two_pow, Nat.testBit_xor]
theorem zmi (a b : Nat) : (a ^^^ b) % 256 = (a % 256) ^^^ (b % 256) := by
 apply Nat.eq_of_testBit_eq
 intro i
 rw [show (256 : Nat) = 2 ^ 8 from rfl]
 simp only [Nat.testBit_mod_two_pow, Nat.testBit_xor]
 by_cases h : i < 8 <;> simp [h]
theorem byte_table (n : Nat) (x : UInt8) : byte n x = (n / 256) ^^^ steps 8 (n % 256 ^^^ x.toNat) := by
 have hx := x.toNat_lt
 unfold byte
 rw [ztb, zmz, zmi, Nat.div_eq_of_lt (a := x.toNat) (by omega), Nat.mod_eq_of_lt (a := x.toNat) (by omega)]
 simp
def cutOf (l : List UInt8) : Option (List UInt8) :=
 if l.length < 4 then none else if l.take (l.length - 4) ++ low (sum (l.take (l.length - 4))) = l then some (l.take (l.length - 4)) else none
theorem low_length (n : Nat) : (low n).length = 4 := rfl
theorem cut_put (l : List UInt8) : cutOf (l ++ low (sum l)) = some l := by
 have h1 : (l ++ low (sum l)).length = l.length + 4 := by rw [List.length_append, low_length]
 unfold cutOf
 rw [h1, if_neg (by omega)]
 have h2 : (l ++ low (sum l)).take (l.length + 4 - 4) = l := by rw [Nat.add_sub_cancel]; exact List.take_left
 rw [h2, if_pos rfl]
theorem sum_nil : sum [] = 0 := zqm 0 (by decide)
theorem all_xor (s : Nat) (h : s < 4294967296) : 4294967295 ^^^ s = 4294967295 - s := by
 apply Nat.eq_of_testBit_eq
 intro i
 rw [Nat.testBit_xor, show (4294967295 : Nat) = 2 ^ 32 - 1 from rfl, Nat.testBit_two_pow_sub_one]
 rw [show 2 ^ 32 - 1 - s = 2 ^ 32 - (s + 1) from by omega, Nat.testBit_two_pow_sub_succ h]
 by_cases hi : i < 32
 . simp [hi]
 . have : s.testBit i = false := Nat.testBit_lt_two_pow (Nat.lt_of_lt_of_le h (show (4294967296 : Nat) <= 2 ^ i from Nat.pow_le_pow_right (n := 2) (by omega) (show 32 <= i by omega)))
   simp [hi, this]
theorem zp9 (j k : Nat) : ∀ n, steps (j + k) n = steps j (steps k n) := by
 induction k with
 | zero => intro n; rfl
 | succ k ih => intro n; show steps (j + k) (step n) = _; rw [ih]; rfl
theorem zo8 (k : Nat) (h : k < 8) : steps 8 (2 ^ (7 - k)) = steps (k + 1) 1 := by
 have e : 8 = (k + 1) + (7 - k) := by omega
 conv => lhs; rw [e]
 rw [zp9]
 have := zh4 (7 - k) 1
 rw [Nat.one_mul] at this
 rw [this]
theorem zmc (a m : Nat) : a * 2 ^ (m + 1) + 2 ^ m = (a * 2 ^ (m + 1)) ^^^ 2 ^ m := by
 apply Nat.eq_of_testBit_eq
 intro i
 have h2 : 2 ^ m < 2 ^ (m + 1) := by rw [Nat.pow_succ]; have := Nat.two_pow_pos m; omega
 rw [Nat.mul_comm, Nat.testBit_two_pow_mul_add _ h2, Nat.testBit_xor, Nat.testBit_two_pow_mul]
 by_cases hi : i < m + 1
 . have : ¬ m + 1 <= i := by omega
   simp [hi, this]
 . have h3 : m + 1 <= i := by omega
   have h4 : (2 ^ m).testBit i = false := by rw [Nat.testBit_two_pow]; simp; omega
   simp [hi, h3, h4]
theorem table_next (a k : Nat) (h : k < 8) : steps 8 (a * 2 ^ (8 - k) + 2 ^ (7 - k)) = steps 8 (a * 2 ^ (8 - k)) ^^^ steps (k + 1) 1 := by
 have e : 8 - k = (7 - k) + 1 := by omega
 rw [e, zmc, zi8, zo8 k h]
end Go.Proofs.YtnoeconcpgdjlaaGreat.Crc
namespace Go.Proofs.YtnoeconcpgdjlaaGreat.Rec
structure R where
 client : Int
 number : Int
 tags : List Int
 data : List UInt8
def rising : Int -> List Int -> Bool
 | _, [] => true
 | last, t :: l => decide (last < t /\ t <= 1073741824) && rising t l
def okId (n : Int) : Bool := decide (0 <= n /\ n <= 1099511627776)
def right (r : R) : Bool := okId r.client && (okId r.number && (rising 0 r.tags && decide (r.tags.length <= 8 /\ r.data.length <= 1024)))
def numsOf (ns : List Int) : List UInt8 := (ns.map fun n => Pack.num n.toNat).flatten
theorem zkq (ns : List Int) (n : Int) : numsOf (ns ++ [n]) = numsOf ns ++ Pack.num n.toNat := by simp [numsOf]
theorem numsOf_cons (n : Int) (ns : List Int) : numsOf (n :: ns) = Pack.num n.toNat ++ numsOf ns := by simp [numsOf]
def text (r : R) : List UInt8 := Pack.num r.client.toNat ++ (Pack.num r.number.toNat ++ (Pack.num r.tags.length ++ (numsOf r.tags ++ (Pack.num r.data.length ++ r.data))))
def enc (r : R) : List UInt8 := text r ++ Crc.low (Crc.sum (text r))
theorem zoi : ∀ (l : List Int) (last : Int), 0 <= last -> rising last l = true -> ∀ x ∈ l, 1 <= x /\ x <= 1073741824 := by
 intro l
 induction l with
 | nil => intro _ _ _ x hx; cases hx
 | cons t l ih =>
  intro last h0 h x hx
  simp only [rising, Bool.and_eq_true, decide_eq_true_eq] at h
  rcases List.mem_cons.1 hx with rfl | hx
  . omega
  . exact ih t (by omega) h.2 x hx
theorem right_ok {r : R} (h : right r = true) : (0 <= r.client /\ r.client <= 1099511627776) /\ (0 <= r.number /\ r.number <= 1099511627776) /\ rising 0 r.tags = true /\ (∀ x ∈ r.tags, 1 <= x /\ x <= 1073741824) /\ r.tags.length <= 8 /\ r.data.length <= 1024 := by
 unfold right okId at h
 simp only [Bool.and_eq_true, decide_eq_true_eq] at h
 obtain ⟨h1, h2, h3, h4, h5⟩ := h
 exact ⟨h1, h2, h3, zoi _ 0 (by omega) h3, h4, h5⟩
def readsM (most : Int) (s : Pack.St) : Nat -> Pack.St × List Int
 | 0 => (s, [])
 | k + 1 => (((readsM most s k).1.num most).1, (readsM most s k).2 ++ [(((readsM most s k).1.num most).2 : Int)])
theorem readsM_len (most : Int) (s : Pack.St) (k : Nat) : (readsM most s k).2.length = k := by
 induction k with
 | zero => rfl
 | succ k ih => simp [readsM, ih]
def stA (l : List UInt8) : Pack.St × Nat := Pack.St.num ⟨l, 0⟩ 1099511627776
def stB (l : List UInt8) : Pack.St × Nat := (stA l).1.num 1099511627776
def stC (l : List UInt8) : Pack.St × Nat := (stB l).1.num 8
def stD (l : List UInt8) : Pack.St × List Int := readsM 1073741824 (stC l).1 (stC l).2
def stE (l : List UInt8) : Pack.St × List UInt8 := (stD l).1.text 1024
def read (l : List UInt8) : R := ⟨(stA l).2, (stB l).2, (stD l).2, (stE l).2⟩
def zdy (l : List UInt8) : Bool := ((stE l).1.done == 0) && right (read l)
theorem reads_back (most : Int) (ns : List Int) (h : ∀ x ∈ ns, 0 <= x /\ x <= most /\ x <= 4611686018427387904) (r : List UInt8) : ∀ k, k <= ns.length -> readsM most ⟨numsOf ns ++ r, 0⟩ k = (⟨numsOf (ns.drop k) ++ r, 0⟩, ns.take k) := by
 intro k
 induction k with
 | zero => intro _; simp [readsM]
 | succ k ih =>
  intro hk
  have hlt : k < ns.length := by omega
  have hx := h _ (List.getElem_mem hlt)
  have hd : ns.drop k = ns[k] :: ns.drop (k + 1) := by rw [List.drop_eq_getElem_cons hlt]
  unfold readsM
  rw [ih (by omega), hd, numsOf_cons, List.append_assoc]
  have hr := Pack.read_num ns[k].toNat (numsOf (ns.drop (k + 1)) ++ r) 0 most (by omega) (by omega)
  rw [hr, List.take_succ_eq_append_getElem hlt]
  simp only
  rw [show ((ns[k].toNat : Nat) : Int) = ns[k] from by omega]
theorem zbl {r : R} (h : right r = true) : (stE (text r)).1 = ⟨[], 0⟩ /\ read (text r) = r := by
 obtain ⟨h1, h2, h3, h4, h5, h6⟩ := right_ok h
 have hA : stA (text r) = (⟨Pack.num r.number.toNat ++ (Pack.num r.tags.length ++ (numsOf r.tags ++ (Pack.num r.data.length ++ r.data))), 0⟩, r.client.toNat) := Pack.read_num _ _ _ _ (by omega) (by omega)
 have hB : stB (text r) = (⟨Pack.num r.tags.length ++ (numsOf r.tags ++ (Pack.num r.data.length ++ r.data)), 0⟩, r.number.toNat) := by
  unfold stB; rw [hA]; exact Pack.read_num _ _ _ _ (by omega) (by omega)
 have hC : stC (text r) = (⟨numsOf r.tags ++ (Pack.num r.data.length ++ r.data), 0⟩, r.tags.length) := by
  unfold stC; rw [hB]; exact Pack.read_num _ _ _ _ (by omega) (by omega)
 have hD : stD (text r) = (⟨Pack.num r.data.length ++ r.data, 0⟩, r.tags) := by
  unfold stD; rw [hC]
  have := reads_back 1073741824 r.tags (fun x hx => by have := h4 x hx; omega) (Pack.num r.data.length ++ r.data) r.tags.length (Nat.le_refl _)
  rw [List.drop_length, List.take_length] at this
  exact this
 have hE : stE (text r) = (⟨[], 0⟩, r.data) := by
  unfold stE; rw [hD]
  unfold Pack.St.text
  rw [Pack.read_num _ _ _ _ (by omega) (by omega)]
  simp
 refine ⟨by rw [hE], ?_⟩
 unfold read
 rw [hA, hB, hD, hE]
 obtain ⟨c, n, t, d⟩ := r
 simp only at h1 h2 ⊢
 rw [show ((c.toNat : Nat) : Int) = c from by omega, show ((n.toNat : Nat) : Int) = n from by omega]
theorem zee {r : R} (h : right r = true) : zdy (text r) = true := by
 unfold zdy
 rw [(zbl h).1, (zbl h).2, h]
 rfl
theorem num_err {s : Pack.St} {most : Int} (h : (s.num most).1.err = 0) : s.err = 0 := by
 by_cases he : s.err = 0
 . exact he
 . exfalso
   unfold Pack.St.num at h
   split at h
   . simp [Pack.St.fail, he] at h
   . split at h
     . simp [Pack.St.fail, he] at h
     . split at h
       . simp [Pack.St.fail, he] at h
       . exact he h
theorem num_left {s : Pack.St} {most : Int} (h : (s.num most).1.err = 0) : s.left = Pack.num (s.num most).2 ++ (s.num most).1.left := by
 obtain ⟨n, h1, h2, h3, _, _⟩ := Pack.num_read (num_err h) h
 rw [h1]
 simp only
 rw [<- h2, List.length_take, Nat.min_eq_left h3, List.take_append_drop]
theorem reads_err {most : Int} {s : Pack.St} : ∀ k, (readsM most s k).1.err = 0 -> s.err = 0 := by
 intro k
 induction k with
 | zero => exact id
 | succ k ih => intro h; exact ih (num_err h)
theorem reads_left {most : Int} {s : Pack.St} : ∀ k, (readsM most s k).1.err = 0 -> s.left = numsOf (readsM most s k).2 ++ (readsM most s k).1.left := by
 intro k
 induction k with
 | zero => intro _; simp [readsM, numsOf]
 | succ k ih =>
  intro h
  have h1 : ((readsM most s k).1.num most).1.err = 0 := h
  rw [ih (num_err h1), num_left h1]
  show _ = numsOf ((readsM most s k).2 ++ [(((readsM most s k).1.num most).2 : Int)]) ++ ((readsM most s k).1.num most).1.left
  rw [zkq, List.append_assoc]
  simp
theorem text_err {s : Pack.St} {most : Int} (h : (s.text most).1.err = 0) : (s.num most).1.err = 0 := by
 unfold Pack.St.text at h
 simp only at h
 split at h
 . by_cases he : (s.num most).1.err = 0
   . exact he
   . simp [Pack.St.fail, he] at h
 . exact h
theorem text_left {s : Pack.St} {most : Int} (h : (s.text most).1.err = 0) : s.left = Pack.num (s.text most).2.length ++ ((s.text most).2 ++ (s.text most).1.left) := by
 have h0 := num_left (text_err h)
 unfold Pack.St.text at h ⊢
 simp only at h ⊢
 split at h
 . exfalso
   by_cases he : (s.num most).1.err = 0
   . simp [Pack.St.fail, he] at h
   . simp [Pack.St.fail, he] at h
 . rename_i hn
   rw [if_neg hn]
   simp only [List.length_take, List.take_append_drop]
   rw [Nat.min_eq_left (by omega)]
   exact h0
theorem done_zero {s : Pack.St} (h : s.done = 0) : s.left = [] /\ s.err = 0 := by
 unfold Pack.St.done at h
 split at h
 . rename_i h1; exact ⟨h1, h⟩
 . cases h
theorem zh7 {l : List UInt8} (h : (stE l).1.done = 0) : text (read l) = l := by
 obtain ⟨h1, h2⟩ := done_zero h
 have h2' : ((stD l).1.text 1024).1.err = 0 := by unfold stE at h2; exact h2
 have eD : (stD l).1.err = 0 := num_err (text_err h2')
 have eD' : (readsM 1073741824 (stC l).1 (stC l).2).1.err = 0 := by unfold stD at eD; exact eD
 have eC : (stC l).1.err = 0 := reads_err _ eD'
 have eC' : ((stB l).1.num 8).1.err = 0 := by unfold stC at eC; exact eC
 have eB : (stB l).1.err = 0 := num_err eC'
 have eB' : ((stA l).1.num 1099511627776).1.err = 0 := by unfold stB at eB; exact eB
 have eA : (stA l).1.err = 0 := num_err eB'
 have lE := text_left (s := (stD l).1) (most := 1024) h2'
 have lD := reads_left (most := 1073741824) (s := (stC l).1) (stC l).2 eD'
 have lC := num_left (s := (stB l).1) (most := 8) eC'
 have lB := num_left (s := (stA l).1) (most := 1099511627776) eB'
 have eA' : (Pack.St.num ⟨l, 0⟩ 1099511627776).1.err = 0 := by unfold stA at eA; exact eA
 have lA := num_left (s := ⟨l, 0⟩) (most := 1099511627776) eA'
 have hlen : (stD l).2.length = (stC l).2 := by unfold stD; exact readsM_len _ _ _
 have h1' : ((stD l).1.text 1024).1.left = [] := by unfold stE at h1; exact h1
 rw [h1', List.append_nil] at lE
 unfold text read
 simp only
 have lA' : l = Pack.num (stA l).2 ++ (stA l).1.left := by rw [show stA l = _ from rfl]; exact lA
 have lB' : (stA l).1.left = Pack.num (stB l).2 ++ (stB l).1.left := by rw [show stB l = _ from rfl]; exact lB
 have lC' : (stB l).1.left = Pack.num (stC l).2 ++ (stC l).1.left := by rw [show stC l = _ from rfl]; exact lC
 have lD' : (stC l).1.left = numsOf (stD l).2 ++ (stD l).1.left := by rw [show stD l = _ from rfl]; exact lD
 have lE' : (stD l).1.left = Pack.num (stE l).2.length ++ (stE l).2 := by rw [show stE l = _ from rfl]; exact lE
 rw [hlen, show (((stA l).2 : Nat) : Int).toNat = (stA l).2 from rfl, show (((stB l).2 : Nat) : Int).toNat = (stB l).2 from rfl, <- lE', <- lD', <- lC', <- lB', <- lA']
def has (r : R) (tag : Int) : Bool := (tag == 0) || r.tags.any (fun t => t == tag)
def same (a b : R) : Bool := (a.client == b.client) && ((a.number == b.number) && ((a.tags == b.tags) && (a.data == b.data)))
theorem same_iff (a b : R) : same a b = true ↔ a = b := by
 obtain ⟨a1, a2, a3, a4⟩ := a
 obtain ⟨b1, b2, b3, b4⟩ := b
 unfold same
 simp
theorem same_self (a : R) : same a a = true := (same_iff a a).2 rfl
def dec (b : List UInt8) : Option R := match Crc.cutOf b with
 | none => none
 | some l => if zdy l then some (read l) else none
theorem dec_enc {r : R} (h : right r = true) : dec (enc r) = some r := by
 unfold dec enc
 rw [Crc.cut_put]
 simp only [zee h, if_true, (zbl h).2]
theorem enc_dec {b : List UInt8} {r : R} (h : dec b = some r) : right r = true /\ enc r = b := by
 unfold dec at h
 split at h
 . cases h
 . rename_i l hl
   split at h
   . rename_i hok
     injection h with h
     unfold zdy at hok
     rw [Bool.and_eq_true, beq_iff_eq] at hok
     subst h
     refine ⟨hok.2, ?_⟩
     unfold enc
     rw [zh7 hok.1]
     unfold Crc.cutOf at hl
     split at hl
     . cases hl
     . split at hl
       . rename_i hc
         injection hl with hl
         rw [<- hl]
         exact hc
       . cases hl
   . cases h
theorem zor : ∀ l : List Int, (∀ x ∈ l, 1 <= x /\ x <= 1073741824) -> (numsOf l).length <= 9 * l.length := by
 intro l
 induction l with
 | nil => intro _; simp [numsOf]
 | cons x l ih =>
  intro hl
  rw [numsOf_cons, List.length_append, List.length_cons]
  have := Pack.num_nine (n := x.toNat) (by have := hl x (by simp); omega)
  have := ih (fun y hy => hl y (by simp [hy]))
  omega
theorem enc_le {r : R} (h : right r = true) : (enc r).length <= 1136 := by
 obtain ⟨h1, h2, _, h4, h5, h6⟩ := right_ok h
 have n1 := Pack.num_nine (n := r.client.toNat) (by omega)
 have n2 := Pack.num_nine (n := r.number.toNat) (by omega)
 have n3 := Pack.num_nine (n := r.tags.length) (by omega)
 have n4 := zor r.tags h4
 have n5 := Pack.num_nine (n := r.data.length) (by omega)
 unfold enc text
 simp only [List.length_append, Crc.low_length]
 omega
end Go.Proofs.YtnoeconcpgdjlaaGreat.Rec
namespace Go.Proofs.YtnoeconcpgdjlaaGreat.Vec
def okOne (x : Int) : Bool := decide (0 <= x /\ x <= 1099511627776)
def right (v : List Int) : Bool := v.all okOne && decide (1 <= v.length /\ v.length <= 8)
def kind (a b : List Int) : Bool := right a && right b && decide (a.length = b.length)
def big (x y : Int) : Int := if x < y then y else x
def small (x y : Int) : Int := if x < y then x else y
def max (a b : List Int) : List Int := List.zipWith big a b
def min (a b : List Int) : List Int := List.zipWith small a b
def ge : List Int -> List Int -> Bool
 | x :: a, y :: b => decide (y <= x) && ge a b
 | _, _ => true
def covers (a b : List Int) : Bool := kind a b && ge a b
def same (a b : List Int) : Bool := covers a b && covers b a
def set (v : List Int) (k : Nat) (n : Int) : List Int := v.set k (big (v.getD k 0) n)
theorem right_ok {v : List Int} (h : right v = true) : (∀ x ∈ v, 0 <= x /\ x <= 1099511627776) /\ 1 <= v.length /\ v.length <= 8 := by
 unfold right okOne at h
 simp only [Bool.and_eq_true, List.all_eq_true, decide_eq_true_eq] at h
 exact h
theorem right_of {v : List Int} (h : ∀ x ∈ v, 0 <= x /\ x <= 1099511627776) (h1 : 1 <= v.length) (h8 : v.length <= 8) : right v = true := by
 unfold right okOne
 simp only [Bool.and_eq_true, List.all_eq_true, decide_eq_true_eq]
 exact ⟨h, h1, h8⟩
theorem kind_ok {a b : List Int} (h : kind a b = true) : right a = true /\ right b = true /\ a.length = b.length := by
 unfold kind at h
 simp only [Bool.and_eq_true, decide_eq_true_eq] at h
 exact ⟨h.1.1, h.1.2, h.2⟩
theorem kind_of {a b : List Int} (h1 : right a = true) (h2 : right b = true) (h3 : a.length = b.length) : kind a b = true := by
 unfold kind; rw [h1, h2, decide_eq_true h3]; rfl
theorem ge_iff : ∀ (a b : List Int), a.length = b.length -> (ge a b = true ↔ ∀ i (h : i < a.length) (h' : i < b.length), b[i] <= a[i]) := by
 intro a
 induction a with
 | nil => intro b h; simp [ge]
 | cons x a ih =>
  intro b h
  cases b with
  | nil => simp at h
  | cons y b =>
   simp only [List.length_cons, Nat.add_right_cancel_iff] at h
   simp only [ge, Bool.and_eq_true, decide_eq_true_eq, ih b h]
   constructor
   . rintro ⟨h1, h2⟩ i hi hi'
     cases i with
     | zero => exact h1
     | succ i => exact h2 i (by simpa using hi) (by simpa using hi')
   . intro h1
     refine ⟨h1 0 (by simp) (by simp), fun i hi hi' => ?_⟩
     have := h1 (i + 1) (by simpa using hi) (by simpa using hi')
     simpa using this
theorem zey {a b : List Int} (h : kind a b = true) : covers a b = true ↔ ∀ i (h : i < a.length) (h' : i < b.length), b[i] <= a[i] := by
 unfold covers
 rw [h, Bool.true_and, ge_iff a b (kind_ok h).2.2]
theorem covers_kind {a b : List Int} (h : covers a b = true) : kind a b = true := by
 unfold covers at h
 simp only [Bool.and_eq_true] at h
 exact h.1
theorem zkv {a : List Int} (h : right a = true) : covers a a = true := by
 rw [zey (kind_of h h rfl)]
 intro i _ _
 exact Int.le_refl _
theorem same_self {a : List Int} (h : right a = true) : same a a = true := by unfold same; rw [zkv h]; rfl
theorem same_eq {a b : List Int} (h : same a b = true) : a = b := by
 unfold same at h
 simp only [Bool.and_eq_true] at h
 have hk := covers_kind h.1
 have h1 := (zey hk).1 h.1
 have h2 := (zey (covers_kind h.2)).1 h.2
 refine List.ext_getElem (kind_ok hk).2.2 fun i hi hi' => ?_
 have := h1 i hi hi'
 have := h2 i hi' hi
 omega
def many (xs : List Int) (n : Int) : Nat := xs.countP (fun x => decide (n <= x))
def zbn (xs : List Int) (need : Int) (best x : Int) : Int := if best < x /\ need <= (many xs x : Int) then x else best
def quorumNum (xs : List Int) (need : Int) : Int := xs.foldl (zbn xs need) 0
def IsQuorum (xs : List Int) (need : Int) (q : Int) : Prop := 0 <= q /\ need <= (many xs q : Int) /\ ∀ n, q < n -> (many xs n : Int) < need
theorem many_mono (xs : List Int) {n m : Int} (h : n <= m) : many xs m <= many xs n := by
 unfold many
 refine List.countP_mono_left fun x _ hx => ?_
 simp only [decide_eq_true_eq] at hx ⊢
 omega
theorem znp {xs : List Int} (h : ∀ x ∈ xs, 0 <= x) : many xs 0 = xs.length := by
 unfold many
 rw [List.countP_eq_length]
 intro x hx
 simpa using h x hx
theorem quorum_unique {xs : List Int} {need p q : Int} (hp : IsQuorum xs need p) (hq : IsQuorum xs need q) : p = q := by
 rcases Int.lt_trichotomy p q with h | h | h
 . have := hp.2.2 q h; have := hq.2.1; omega
 . exact h
 . have := hq.2.2 p h; have := hp.2.1; omega
theorem many_member {xs : List Int} {need n : Int} (h1 : 1 <= need) (h : need <= (many xs n : Int)) : ∃ x ∈ xs, n <= x /\ need <= (many xs x : Int) := by
 have hne : (xs.filter (fun x => decide (n <= x))) ≠ [] := by
  intro he
  have : many xs n = 0 := by unfold many; rw [List.countP_eq_length_filter, he]; rfl
  omega
 have key : ∀ l : List Int, l ≠ [] -> ∃ y ∈ l, ∀ z ∈ l, y <= z := by
  intro l
  induction l with
  | nil => intro h; exact absurd rfl h
  | cons a l ih =>
   intro _
   by_cases hl : l = []
   . subst hl; exact ⟨a, by simp, by simp⟩
   . obtain ⟨y, hy, hmin⟩ := ih hl
     by_cases hay : a <= y
     . exact ⟨a, by simp, fun z hz => by
        rcases List.mem_cons.1 hz with rfl | hz
        . exact Int.le_refl _
        . exact Int.le_trans hay (hmin z hz)⟩
     . exact ⟨y, by simp [hy], fun z hz => by
        rcases List.mem_cons.1 hz with rfl | hz
        . omega
        . exact hmin z hz⟩
 obtain ⟨y, hy, hmin⟩ := key _ hne
 rw [List.mem_filter] at hy
 refine ⟨y, hy.1, by simpa using hy.2, ?_⟩
 have : many xs n <= many xs y := by
  unfold many
  refine List.countP_mono_left fun x hx hnx => ?_
  simp only [decide_eq_true_eq] at hnx ⊢
  exact hmin x (by rw [List.mem_filter]; exact ⟨hx, by simpa using hnx⟩)
 omega
theorem quorum_is {xs : List Int} {need : Int} (h0 : ∀ x ∈ xs, 0 <= x) (h1 : 1 <= need) (hn : need <= (xs.length : Int)) : IsQuorum xs need (quorumNum xs need) := by
 have key : ∀ (l : List Int) (b : Int), 0 <= b -> need <= (many xs b : Int) -> (0 <= l.foldl (zbn xs need) b /\ need <= (many xs (l.foldl (zbn xs need) b) : Int) /\ b <= l.foldl (zbn xs need) b /\ ∀ x ∈ l, need <= (many xs x : Int) -> x <= l.foldl (zbn xs need) b) := by
  intro l
  induction l with
  | nil => intro b hb hm; exact ⟨hb, hm, Int.le_refl _, fun x hx => by cases hx⟩
  | cons x l ih =>
   intro b hb hm
   simp only [List.foldl_cons]
   have hs : b <= zbn xs need b x /\ need <= (many xs (zbn xs need b x) : Int) /\ (need <= (many xs x : Int) -> x <= zbn xs need b x) := by
    unfold zbn
    split
    . rename_i h; exact ⟨by omega, h.2, fun _ => Int.le_refl _⟩
    . rename_i h
      refine ⟨Int.le_refl _, hm, fun hx => ?_⟩
      rcases Int.lt_or_le b x with h' | h'
      . exact absurd ⟨h', hx⟩ h
      . exact h'
   obtain ⟨r1, r2, r3, r4⟩ := ih (zbn xs need b x) (by omega) hs.2.1
   refine ⟨r1, r2, by omega, fun y hy hm' => ?_⟩
   rcases List.mem_cons.1 hy with rfl | hy
   . have := hs.2.2 hm'; omega
   . exact r4 y hy hm'
 have hz := znp h0
 obtain ⟨r1, r2, _, r4⟩ := key xs 0 (Int.le_refl _) (by omega)
 refine ⟨r1, r2, fun n hq => ?_⟩
 rcases Int.lt_or_le (many xs n : Int) need with h | h
 . exact h
 . obtain ⟨x, hx, hnx, hmx⟩ := many_member h1 h
   have := r4 x hx hmx
   unfold quorumNum at hq
   omega
end Go.Proofs.YtnoeconcpgdjlaaGreat.Vec
namespace Go.Proofs.YtnoeconcpgdjlaaGreat.Ent
structure E where
 number : Int
 kind : Int
 cut : List Int
 tag : Int
 term : Int
 pos : Int
def rightCut (e : E) : Bool := Vec.right e.cut && decide (e.tag = 0 /\ e.term = 0 /\ e.pos = 0)
def rightTrim (e : E) : Bool := e.cut.isEmpty && decide ((0 <= e.tag /\ e.tag <= 1073741824) /\ (1 <= e.term /\ e.term <= 64) /\ 0 <= e.pos /\ e.pos <= 1099511627776)
def right (e : E) : Bool := decide (1 <= e.number /\ e.number <= 1099511627776) && ((decide (e.kind = 1) && rightCut e) || (decide (e.kind = 2) && rightTrim e))
def vecBytes (v : List Int) : List UInt8 := Pack.num v.length ++ Rec.numsOf v
def body (e : E) : List UInt8 := if e.kind = 1 then Pack.num (vecBytes e.cut).length ++ vecBytes e.cut else Pack.num e.tag.toNat ++ (Pack.num e.term.toNat ++ Pack.num e.pos.toNat)
def text (e : E) : List UInt8 := Pack.num e.number.toNat ++ (Pack.num e.kind.toNat ++ body e)
def enc (e : E) : List UInt8 := text e ++ Crc.low (Crc.sum (text e))
theorem right_ok {e : E} (h : right e = true) : (1 <= e.number /\ e.number <= 1099511627776) /\ ((e.kind = 1 /\ Vec.right e.cut = true /\ e.tag = 0 /\ e.term = 0 /\ e.pos = 0) \/ (e.kind = 2 /\ e.cut = [] /\ (0 <= e.tag /\ e.tag <= 1073741824) /\ (1 <= e.term /\ e.term <= 64) /\ 0 <= e.pos /\ e.pos <= 1099511627776)) := by
 unfold right rightCut rightTrim at h
 simp only [Bool.and_eq_true, Bool.or_eq_true, decide_eq_true_eq, List.isEmpty_iff] at h
 obtain ⟨h1, h2⟩ := h
 refine ⟨h1, ?_⟩
 rcases h2 with ⟨k, v, t⟩ | ⟨k, v, t⟩
 . exact .inl ⟨k, v, t.1, t.2.1, t.2.2⟩
 . exact .inr ⟨k, v, t.1, t.2.1, t.2.2⟩
theorem vecBytes_le {v : List Int} (h : Vec.right v = true) : (vecBytes v).length <= 81 := by
 obtain ⟨h1, _, h3⟩ := Vec.right_ok h
 have key : ∀ l : List Int, (∀ x ∈ l, 0 <= x /\ x <= 1099511627776) -> (Rec.numsOf l).length <= 9 * l.length := by
  intro l
  induction l with
  | nil => intro _; simp [Rec.numsOf]
  | cons x l ih =>
   intro hl
   rw [Rec.numsOf_cons, List.length_append, List.length_cons]
   have := Pack.num_nine (n := x.toNat) (by have := hl x (by simp); omega)
   have := ih (fun y hy => hl y (by simp [hy]))
   omega
 have h4 := key v h1
 have h5 := Pack.num_nine (n := v.length) (by omega)
 unfold vecBytes
 rw [List.length_append]
 omega
theorem body_one {e : E} (h : e.kind = 1) : body e = Pack.num (vecBytes e.cut).length ++ vecBytes e.cut := by unfold body; rw [if_pos h]
theorem body_two {e : E} (h : e.kind ≠ 1) : body e = Pack.num e.tag.toNat ++ (Pack.num e.term.toNat ++ Pack.num e.pos.toNat) := by unfold body; rw [if_neg h]
theorem same {a b : E} (h1 : a.number = b.number) (h2 : a.kind = b.kind) (h3 : a.cut = b.cut) (h4 : a.tag = b.tag) (h5 : a.term = b.term) (h6 : a.pos = b.pos) : a = b := by
 cases a
 cases b
 simp only at h1 h2 h3 h4 h5 h6
 subst h1 h2 h3 h4 h5 h6
 rfl
def lastCut (l : List E) : Option (List Int) := l.foldl (fun c e => if e.kind = 1 then some e.cut else c) none
theorem lastCut_snoc (l : List E) (e : E) : lastCut (l ++ [e]) = if e.kind = 1 then some e.cut else lastCut l := by
 unfold lastCut
 rw [List.foldl_append]
 rfl
def coversLast (c : Option (List Int)) (v : List Int) : Bool := match c with
 | none => true
 | some u => Vec.covers v u
def follows (l : List E) (e : E) : Bool := right e && (decide (e.number = (l.length : Int) + 1) && (!decide (e.kind = 1) || coversLast (lastCut l) e.cut))
def zba : List E -> List E -> Nat
 | _, [] => 0
 | d, e :: r => if follows d e then zba (d ++ [e]) r + 1 else 0
def chain (l : List E) : Nat := zba [] l
theorem zjp : ∀ (r d : List E), zba d r <= r.length := by
 intro r
 induction r with
 | nil => intro d; exact Nat.le_refl _
 | cons e r ih =>
  intro d
  simp only [zba]
  split
  . have := ih (d ++ [e]); simp only [List.length_cons]; omega
  . omega
theorem chain_le (l : List E) : chain l <= l.length := zjp l []
theorem zgi : ∀ (r d : List E) (n : Nat), zba d (r.take n) = min n (zba d r) := by
 intro r
 induction r with
 | nil => intro d n; simp [zba]
 | cons e r ih =>
  intro d n
  cases n with
  | zero => simp [zba]
  | succ n =>
   simp only [List.take_succ_cons, zba]
   split
   . rw [ih (d ++ [e]) n]; omega
   . omega
theorem chain_take (l : List E) (n : Nat) : chain (l.take n) = min n (chain l) := zgi l [] n
theorem zgg : ∀ (r d : List E) (e : E), zba d (r ++ [e]) = if zba d r = r.length then (if follows (d ++ r) e then r.length + 1 else r.length) else zba d r := by
 intro r
 induction r with
 | nil => intro d e; simp [zba]
 | cons x r ih =>
  intro d e
  simp only [List.cons_append, zba, List.length_cons]
  by_cases hf : follows d x = true
  . rw [if_pos hf, if_pos hf, ih (d ++ [x]) e, List.append_assoc]
    simp only [List.cons_append, List.nil_append]
    by_cases hc : zba (d ++ [x]) r = r.length
    . rw [if_pos hc, if_pos (show zba (d ++ [x]) r + 1 = r.length + 1 by omega)]
      by_cases hg : follows (d ++ x :: r) e = true
      . rw [if_pos hg, if_pos hg]
      . rw [if_neg hg, if_neg hg]
    . rw [if_neg hc, if_neg (show ¬ zba (d ++ [x]) r + 1 = r.length + 1 by omega)]
  . rw [if_neg hf, if_neg hf, if_neg (by omega)]
theorem chain_snoc (l : List E) (e : E) : chain (l ++ [e]) = if chain l = l.length then (if follows l e then l.length + 1 else l.length) else chain l := zgg l [] e
def isChain (l : List E) : Prop := chain l = l.length
theorem isChain_snoc {l : List E} {e : E} (h : isChain (l ++ [e])) : isChain l /\ follows l e = true := by
 unfold isChain at h ⊢
 rw [chain_snoc, List.length_append] at h
 have := chain_le l
 by_cases hc : chain l = l.length
 . rw [if_pos hc] at h
   refine ⟨hc, ?_⟩
   by_cases hf : follows l e = true
   . exact hf
   . rw [if_neg hf] at h; simp at h
 . rw [if_neg hc] at h; simp at h; omega
theorem zi4 (l : List E) : isChain (l.take (chain l)) := by
 unfold isChain
 rw [chain_take, List.length_take]
 have := chain_le l
 omega
def lastOf (l : List E) (zero : List Int) : List Int := match lastCut (l.take (chain l)) with
 | none => zero
 | some c => c
def alike (a b : E) : Bool := (a.number == b.number) && ((a.kind == b.kind) && ((a.cut == b.cut) && ((a.tag == b.tag) && ((a.term == b.term) && (a.pos == b.pos)))))
theorem alike_iff (a b : E) : alike a b = true ↔ a = b := by
 obtain ⟨a1, a2, a3, a4, a5, a6⟩ := a
 obtain ⟨b1, b2, b3, b4, b5, b6⟩ := b
 unfold alike
 simp
theorem alike_self (a : E) : alike a a = true := (alike_iff a a).2 rfl
theorem enc_le {e : E} (h : right e = true) : (enc e).length <= 112 := by
 obtain ⟨h1, h2⟩ := right_ok h
 have n1 := Pack.num_nine (n := e.number.toNat) (by omega)
 have n2 := Pack.num_nine (n := e.kind.toNat) (by rcases h2 with ⟨k, _⟩ | ⟨k, _⟩ <;> omega)
 unfold enc text
 simp only [List.length_append, Crc.low_length]
 rcases h2 with ⟨k, v, t⟩ | ⟨k, v, t1, t2, t3⟩
 . have hl := vecBytes_le v
   have n3 := Pack.num_nine (n := (vecBytes e.cut).length) (by omega)
   rw [body_one k, List.length_append]
   omega
 . have n3 := Pack.num_nine (n := e.tag.toNat) (by omega)
   have n4 := Pack.num_nine (n := e.term.toNat) (by omega)
   have n5 := Pack.num_nine (n := e.pos.toNat) (by omega)
   rw [body_two (by omega)]
   simp only [List.length_append]
   omega
end Go.Proofs.YtnoeconcpgdjlaaGreat.Ent
namespace Go.Proofs.YtnoeconcpgdjlaaGreat.Ent
theorem zmj {l : List E} (h : isChain l) : l.take (chain l) = l := by
 rw [show chain l = l.length from h, List.take_length]
theorem lastOf_chain {l : List E} (h : isChain l) (z : List Int) : lastOf l z = match lastCut l with
 | none => z
 | some c => c := by
 unfold lastOf
 rw [zmj h]
 all_goals rfl
theorem chain_next {l : List E} {k : Nat} (hk : k < l.length) (h : chain (l.take k) = k) : chain (l.take (k + 1)) = if follows (l.take k) l[k] then k + 1 else k := by
 have hl : (l.take k).length = k := by rw [List.length_take]; omega
 rw [List.take_succ_eq_append_getElem hk, chain_snoc, hl, if_pos h]
theorem chain_stop {l : List E} {k : Nat} (hk : k < l.length) (h : chain (l.take k) = k) (hf : follows (l.take k) l[k] = false) : chain l = k := by
 have h1 := chain_next hk h
 rw [hf] at h1
 have h2 := chain_take l (k + 1)
 rw [h1] at h2
 simp only [Bool.false_eq_true, if_false] at h2
 omega
theorem chain_end {l : List E} (h : chain (l.take l.length) = l.length) : chain l = l.length := by rwa [List.take_length] at h
theorem follows_iff (d : List E) (e : E) : follows d e = true ↔ right e = true /\ e.number = (d.length : Int) + 1 /\ (e.kind = 1 -> coversLast (lastCut d) e.cut = true) := by
 unfold follows
 simp only [Bool.and_eq_true, Bool.or_eq_true, Bool.not_eq_true', decide_eq_false_iff_not, decide_eq_true_eq]
 constructor
 . rintro ⟨h1, h2, h3⟩
   exact ⟨h1, h2, fun hk => h3.resolve_left (fun h => h hk)⟩
 . rintro ⟨h1, h2, h3⟩
   refine ⟨h1, h2, ?_⟩
   by_cases hk : e.kind = 1
   . exact .inr (h3 hk)
   . exact .inl hk
theorem isChain_right : ∀ (n : Nat) (l : List E), l.length = n -> isChain l -> ∀ e ∈ l, right e = true := by
 intro n
 induction n with
 | zero => intro l hl _ e he; rw [List.eq_nil_of_length_eq_zero hl] at he; cases he
 | succ n ih =>
  intro l hl hc e he
  have hne : l ≠ [] := by rintro rfl; simp at hl
  obtain ⟨d, x, rfl⟩ : ∃ d x, l = d ++ [x] := ⟨l.dropLast, l.getLast hne, (List.dropLast_concat_getLast hne).symm⟩
  obtain ⟨hd, hf⟩ := isChain_snoc hc
  rcases List.mem_append.1 he with hm | hm
  . exact ih d (by simpa using hl) hd e hm
  . obtain rfl : e = x := by simpa using hm
    exact ((follows_iff d e).1 hf).1
theorem zix : ∀ (n : Nat) (l : List E), l.length = n -> ∀ c, lastCut l = some c -> ∃ e ∈ l, e.kind = 1 /\ e.cut = c := by
 intro n
 induction n with
 | zero => intro l hl c h; rw [List.eq_nil_of_length_eq_zero hl] at h; cases h
 | succ n ih =>
  intro l hl c h
  have hne : l ≠ [] := by rintro rfl; simp at hl
  obtain ⟨d, x, rfl⟩ : ∃ d x, l = d ++ [x] := ⟨l.dropLast, l.getLast hne, (List.dropLast_concat_getLast hne).symm⟩
  rw [lastCut_snoc] at h
  by_cases hx : x.kind = 1
  . rw [if_pos hx] at h
    injection h with h
    exact ⟨x, by simp, hx, h⟩
  . rw [if_neg hx] at h
    obtain ⟨e, he, h1⟩ := ih d (by simpa using hl) c h
    exact ⟨e, by simp [he], h1⟩
theorem last_right {l : List E} {c : List Int} (h : lastCut (l.take (chain l)) = some c) : Vec.right c = true := by
 obtain ⟨e, he, hk, rfl⟩ := zix _ _ rfl c h
 rcases (right_ok (isChain_right _ _ rfl (zi4 l) e he)).2 with ⟨_, hv, _⟩ | ⟨h, _⟩
 . exact hv
 . omega
end Go.Proofs.YtnoeconcpgdjlaaGreat.Ent
namespace Go.Proofs.YtnoeconcpgdjlaaGreat.Ent
def big : Int := 4611686018427387904
def stA (l : List UInt8) : Pack.St × Nat := Pack.St.num ⟨l, 0⟩ big
def stB (l : List UInt8) : Pack.St × Nat := (stA l).1.num big
def stV (l : List UInt8) : Pack.St × List UInt8 := (stB l).1.text 65536
def stT (l : List UInt8) : Pack.St × Nat := (stB l).1.num big
def stM (l : List UInt8) : Pack.St × Nat := (stT l).1.num big
def stP (l : List UInt8) : Pack.St × Nat := (stM l).1.num big
def read (vd : List UInt8 -> List Int) (l : List UInt8) : E := if (stB l).2 = 1 then ⟨(stA l).2, 1, vd (stV l).2, 0, 0, 0⟩ else ⟨(stA l).2, (stB l).2, [], (stT l).2, (stM l).2, (stP l).2⟩
theorem zbl {vd : List UInt8 -> List Int} (hv : ∀ v, Vec.right v = true -> vd (vecBytes v) = v) {e : E} (h : right e = true) : read vd (text e) = e := by
 obtain ⟨h1, h2⟩ := right_ok h
 have hb : (0 : Int) <= big /\ big = 4611686018427387904 := ⟨by decide, rfl⟩
 have hk : 0 <= e.kind /\ e.kind <= 2 := by rcases h2 with ⟨k, _⟩ | ⟨k, _⟩ <;> omega
 have hA : stA (text e) = (⟨Pack.num e.kind.toNat ++ body e, 0⟩, e.number.toNat) := Pack.read_num _ _ _ _ (by omega) (by omega)
 have hB : stB (text e) = (⟨body e, 0⟩, e.kind.toNat) := by
  unfold stB; rw [hA]; exact Pack.read_num _ _ _ _ (by omega) (by omega)
 rcases h2 with ⟨k, v, t1, t2, t3⟩ | ⟨k, v, t1, t2, t3⟩
 . have hl := vecBytes_le v
   have hV : stV (text e) = (⟨[], 0⟩, vecBytes e.cut) := by
    unfold stV; rw [hB, body_one k]
    unfold Pack.St.text
    rw [Pack.read_num _ _ _ _ (by omega) (by omega)]
    simp
   unfold read
   rw [hB, if_pos (show e.kind.toNat = 1 by omega), hA, hV, hv _ v]
   exact same (by simp only []; omega) k.symm rfl t1.symm t2.symm t3.symm
 . have hT : stT (text e) = (⟨Pack.num e.term.toNat ++ Pack.num e.pos.toNat, 0⟩, e.tag.toNat) := by
    unfold stT; rw [hB, body_two (by omega)]; exact Pack.read_num _ _ _ _ (by omega) (by omega)
   have hM : stM (text e) = (⟨Pack.num e.pos.toNat, 0⟩, e.term.toNat) := by
    unfold stM; rw [hT]; exact Pack.read_num _ _ _ _ (by omega) (by omega)
   have hP : stP (text e) = (⟨[], 0⟩, e.pos.toNat) := by
    unfold stP; rw [hM]
    have := Pack.read_num e.pos.toNat [] 0 big (by omega) (by omega)
    rw [List.append_nil] at this
    exact this
   unfold read
   rw [hB, if_neg (show ¬ e.kind.toNat = 1 by omega), hA, hT, hM, hP]
   exact same (by simp only []; omega) (by simp only []; omega) v.symm (by simp only []; omega) (by simp only []; omega) (by simp only []; omega)
def dec (vd : List UInt8 -> List Int) (b : List UInt8) : Option E := match Crc.cutOf b with
 | none => none
 | some l => if right (read vd l) && (enc (read vd l) == b) then some (read vd l) else none
theorem dec_enc {vd : List UInt8 -> List Int} (hv : ∀ v, Vec.right v = true -> vd (vecBytes v) = v) {e : E} (h : right e = true) : dec vd (enc e) = some e := by
 unfold dec
 rw [show Crc.cutOf (enc e) = some (text e) from Crc.cut_put _]
 simp only [zbl hv h, h, beq_self_eq_true, Bool.and_self, if_true]
theorem enc_dec {vd : List UInt8 -> List Int} {b : List UInt8} {e : E} (h : dec vd b = some e) : right e = true /\ enc e = b := by
 unfold dec at h
 split at h
 . cases h
 . split at h
   . rename_i hok
     injection h with h
     rw [Bool.and_eq_true, beq_iff_eq] at hok
     subst h
     exact hok
   . cases h
theorem dec_iff {vd : List UInt8 -> List Int} (hv : ∀ v, Vec.right v = true -> vd (vecBytes v) = v) {b : List UInt8} {e : E} : dec vd b = some e ↔ right e = true /\ enc e = b :=
 ⟨enc_dec, fun h => by rw [<- h.2]; exact dec_enc hv h.1⟩
end Go.Proofs.YtnoeconcpgdjlaaGreat.Ent
namespace Go.Proofs.YtnoeconcpgdjlaaGreat.Term
structure C where
 term : Int
 seqs : List Int
 shards : List (List Int)
def okNode (x : Int) : Bool := decide (0 <= x /\ x <= 15)
def unlike (l : List Int) : Bool := l.all okNode && decide l.Nodup
def okShard (l : List Int) : Bool := decide (1 <= l.length /\ l.length <= 3) && unlike l
def right (c : C) : Bool := decide ((1 <= c.term /\ c.term <= 64) /\ 1 <= c.shards.length /\ c.shards.length <= 8) && (c.shards.all okShard && (decide (c.seqs.length = 1 \/ c.seqs.length = 3 \/ c.seqs.length = 5 \/ c.seqs.length = 7) && unlike c.seqs))
theorem unlike_ok {l : List Int} (h : unlike l = true) : (∀ x ∈ l, 0 <= x /\ x <= 15) /\ l.Nodup := by
 unfold unlike at h
 rw [Bool.and_eq_true, List.all_eq_true, decide_eq_true_eq] at h
 exact ⟨fun x hx => of_decide_eq_true (h.1 x hx), h.2⟩
theorem zpj {l : List Int} (h1 : ∀ x ∈ l, 0 <= x /\ x <= 15) (h2 : l.Nodup) : unlike l = true := by
 unfold unlike
 rw [Bool.and_eq_true, List.all_eq_true, decide_eq_true_eq]
 exact ⟨fun x hx => decide_eq_true (h1 x hx), h2⟩
theorem unlike_snoc (l : List Int) (x : Int) : unlike (l ++ [x]) = (unlike l && (okNode x && !l.contains x)) := by
 rw [Bool.eq_iff_iff]
 unfold unlike
 simp only [List.all_append, Bool.and_eq_true, decide_eq_true_eq, List.all_cons, List.all_nil, and_true, List.nodup_append, List.nodup_cons, List.not_mem_nil, not_false_eq_true, List.nodup_nil, true_and, List.mem_singleton, Bool.not_eq_true', List.contains_eq_mem, decide_eq_false_iff_not]
 constructor
 . rintro ⟨⟨h1, h2⟩, h3, h4⟩
   exact ⟨⟨h1, h3⟩, h2, fun hm => h4 x hm x rfl rfl⟩
 . rintro ⟨⟨h1, h3⟩, h2, h4⟩
   exact ⟨⟨h1, h2⟩, h3, fun a ha b hb hab => h4 (by rw [<- hb, <- hab]; exact ha)⟩
theorem unlike_take {l : List Int} (n : Nat) (h : unlike l = true) : unlike (l.take n) = true := by
 obtain ⟨h1, h2⟩ := unlike_ok h
 exact zpj (fun x hx => h1 x (List.mem_of_mem_take hx)) (h2.sublist (List.take_sublist n l))
theorem zk5 {l : List Int} (h : okShard l = true) : 1 <= l.length /\ l.length <= 3 /\ unlike l = true := by
 unfold okShard at h
 rw [Bool.and_eq_true, decide_eq_true_eq] at h
 exact ⟨h.1.1, h.1.2, h.2⟩
theorem right_ok {c : C} (h : right c = true) : (1 <= c.term /\ c.term <= 64) /\ (1 <= c.shards.length /\ c.shards.length <= 8) /\ (∀ l ∈ c.shards, okShard l = true) /\ (c.seqs.length = 1 \/ c.seqs.length = 3 \/ c.seqs.length = 5 \/ c.seqs.length = 7) /\ unlike c.seqs = true := by
 unfold right at h
 simp only [Bool.and_eq_true, decide_eq_true_eq, List.all_eq_true] at h
 exact ⟨h.1.1, h.1.2, h.2.1, h.2.2.1, h.2.2.2⟩
theorem right_of {c : C} (h1 : 1 <= c.term /\ c.term <= 64) (h2 : 1 <= c.shards.length /\ c.shards.length <= 8) (h3 : ∀ l ∈ c.shards, okShard l = true) (h4 : c.seqs.length = 1 \/ c.seqs.length = 3 \/ c.seqs.length = 5 \/ c.seqs.length = 7) (h5 : unlike c.seqs = true) : right c = true := by
 unfold right
 simp only [Bool.and_eq_true, decide_eq_true_eq, List.all_eq_true]
 exact ⟨⟨h1, h2⟩, h3, h4, h5⟩
def row (l : List Int) : List UInt8 := Pack.num l.length ++ Rec.numsOf l
def zbz (ls : List (List Int)) : List UInt8 := (ls.map row).flatten
theorem zkn (ls : List (List Int)) (l : List Int) : zbz (ls ++ [l]) = zbz ls ++ row l := by simp [zbz]
theorem zf0 (l : List Int) (ls : List (List Int)) : zbz (l :: ls) = row l ++ zbz ls := by simp [zbz]
def text (c : C) : List UInt8 := Pack.num c.term.toNat ++ (row c.seqs ++ (Pack.num c.shards.length ++ zbz c.shards))
def enc (c : C) : List UInt8 := text c ++ Crc.low (Crc.sum (text c))
def zbp (s : Pack.St) : Pack.St × List Int := Rec.readsM 16 (s.num 16).1 (s.num 16).2
def zcc (s : Pack.St) : Nat -> Pack.St × List (List Int)
 | 0 => (s, [])
 | k + 1 => ((zbp (zcc s k).1).1, (zcc s k).2 ++ [(zbp (zcc s k).1).2])
def stA (l : List UInt8) : Pack.St × Nat := Pack.St.num ⟨l, 0⟩ 64
def stB (l : List UInt8) : Pack.St × List Int := zbp (stA l).1
def stC (l : List UInt8) : Pack.St × Nat := (stB l).1.num 8
def stD (l : List UInt8) : Pack.St × List (List Int) := zcc (stC l).1 (stC l).2
def read (l : List UInt8) : C := ⟨(stA l).2, (stB l).2, (stD l).2⟩
def zdy (l : List UInt8) : Bool := ((stD l).1.done == 0) && right (read l)
theorem ze4 {l : List Int} (h : ∀ x ∈ l, 0 <= x /\ x <= 15) (h16 : l.length <= 16) (r : List UInt8) : zbp ⟨row l ++ r, 0⟩ = (⟨r, 0⟩, l) := by
 unfold zbp row
 rw [List.append_assoc, Pack.read_num _ _ _ _ (by omega) (by omega)]
 have := Rec.reads_back 16 l (fun x hx => by have := h x hx; omega) r l.length (Nat.le_refl _)
 rw [List.drop_length, List.take_length] at this
 exact this
theorem zht (ls : List (List Int)) (h : ∀ l ∈ ls, okShard l = true) (r : List UInt8) : ∀ k, k <= ls.length -> zcc ⟨zbz ls ++ r, 0⟩ k = (⟨zbz (ls.drop k) ++ r, 0⟩, ls.take k) := by
 intro k
 induction k with
 | zero => intro _; simp [zcc]
 | succ k ih =>
  intro hk
  have hlt : k < ls.length := by omega
  obtain ⟨h1, h2, h3⟩ := zk5 (h _ (List.getElem_mem hlt))
  have hd : ls.drop k = ls[k] :: ls.drop (k + 1) := by rw [List.drop_eq_getElem_cons hlt]
  unfold zcc
  rw [ih (by omega), hd, zf0, List.append_assoc]
  rw [ze4 (unlike_ok h3).1 (by omega), List.take_succ_eq_append_getElem hlt]
theorem zbl {c : C} (h : right c = true) : (stD (text c)).1 = ⟨[], 0⟩ /\ read (text c) = c := by
 obtain ⟨h1, h2, h3, h4, h5⟩ := right_ok h
 have hA : stA (text c) = (⟨row c.seqs ++ (Pack.num c.shards.length ++ zbz c.shards), 0⟩, c.term.toNat) := Pack.read_num _ _ _ _ (by omega) (by omega)
 have hB : stB (text c) = (⟨Pack.num c.shards.length ++ zbz c.shards, 0⟩, c.seqs) := by
  unfold stB; rw [hA]; exact ze4 (unlike_ok h5).1 (by omega) _
 have hC : stC (text c) = (⟨zbz c.shards, 0⟩, c.shards.length) := by
  unfold stC; rw [hB]; exact Pack.read_num _ _ _ _ (by omega) (by omega)
 have hD : stD (text c) = (⟨[], 0⟩, c.shards) := by
  unfold stD; rw [hC]
  have := zht c.shards h3 [] c.shards.length (Nat.le_refl _)
  rw [List.drop_length, List.take_length, List.append_nil] at this
  exact this
 refine ⟨by rw [hD], ?_⟩
 unfold read
 rw [hA, hB, hD]
 obtain ⟨t, s, d⟩ := c
 simp only at h1 ⊢
 rw [show ((t.toNat : Nat) : Int) = t from by omega]
theorem zee {c : C} (h : right c = true) : zdy (text c) = true := by
 unfold zdy
 rw [(zbl h).1, (zbl h).2, h]
 rfl
def dec (b : List UInt8) : Option C := match Crc.cutOf b with
 | none => none
 | some l => if zdy l then some (read l) else none
theorem dec_enc {c : C} (h : right c = true) : dec (enc c) = some c := by
 unfold dec enc
 rw [Crc.cut_put]
 simp only [zee h, if_true, (zbl h).2]
def majority (c : C) : Nat := c.seqs.length / 2 + 1
def put : List Int -> Int -> List Int
 | [], n => [n]
 | x :: l, n => if n < x then n :: x :: l else if n = x then x :: l else x :: put l n
def all (c : C) : List Int := c.seqs ++ c.shards.flatten
def left (l gone : List Int) : List Int := l.filter (fun x => !gone.contains x)
def odd (l : List Int) : List Int := if l.length % 2 = 0 then l.take (l.length - 1) else l
def next (c : C) (gone : List Int) : C := ⟨c.term + 1, odd (left c.seqs gone), c.shards.map (fun l => left l gone)⟩
def alike (a b : C) : Bool := (a.term == b.term) && ((a.seqs == b.seqs) && (a.shards == b.shards))
theorem alike_iff (a b : C) : alike a b = true ↔ a = b := by
 obtain ⟨a1, a2, a3⟩ := a
 obtain ⟨b1, b2, b3⟩ := b
 unfold alike
 simp
theorem alike_self (a : C) : alike a a = true := (alike_iff a a).2 rfl
theorem zr5 {l : List Int} (h : ∀ x ∈ l, 0 <= x /\ x <= 15) (hl : l.length <= 100) : (row l).length <= 9 + 9 * l.length := by
 have key : ∀ l : List Int, (∀ x ∈ l, 0 <= x /\ x <= 15) -> (Rec.numsOf l).length <= 9 * l.length := by
  intro l
  induction l with
  | nil => intro _; simp [Rec.numsOf]
  | cons x l ih =>
   intro hl
   rw [Rec.numsOf_cons, List.length_append, List.length_cons]
   have := Pack.num_nine (n := x.toNat) (by have := hl x (by simp); omega)
   have := ih (fun y hy => hl y (by simp [hy]))
   omega
 have h1 := key l h
 have h2 := Pack.num_nine (n := l.length) (by omega)
 unfold row
 rw [List.length_append]
 omega
theorem zqa : ∀ ls : List (List Int), (∀ l ∈ ls, okShard l = true) -> (zbz ls).length <= 36 * ls.length := by
 intro ls
 induction ls with
 | nil => intro _; simp [zbz]
 | cons l ls ih =>
  intro h
  obtain ⟨h1, h2, h3⟩ := zk5 (h l (by simp))
  have := zr5 (unlike_ok h3).1 (by omega)
  have := ih (fun m hm => h m (by simp [hm]))
  rw [zf0, List.length_append, List.length_cons]
  omega
theorem enc_le {c : C} (h : right c = true) : (enc c).length <= 382 := by
 obtain ⟨h1, h2, h3, h4, h5⟩ := right_ok h
 have n1 := Pack.num_nine (n := c.term.toNat) (by omega)
 have n2 := zr5 (unlike_ok h5).1 (by omega)
 have n3 := Pack.num_nine (n := c.shards.length) (by omega)
 have n4 := zqa c.shards h3
 unfold enc text
 simp only [List.length_append, Crc.low_length]
 omega
end Go.Proofs.YtnoeconcpgdjlaaGreat.Term
namespace Go.Proofs.YtnoeconcpgdjlaaGreat.Msg
structure M where
 kind : Int
 src : Int
 dst : Int
 term : Int
 shard : Int
 number : Int
 is : Bool
 reco : Rec.R
 ent : Ent.E
 ballot : Int
 old : Int
 conf : Term.C
def rec0 : Rec.R := ⟨0, 0, [], []⟩
def ent0 : Ent.E := ⟨0, 0, [], 0, 0, 0⟩
def conf0 : Term.C := ⟨0, [], []⟩
def none0 : M := ⟨0, 0, 0, 0, 0, 0, false, rec0, ent0, 0, 0, conf0⟩
def headOk (m : M) : Bool := decide ((0 <= m.src /\ m.src <= 15) /\ (0 <= m.dst /\ m.dst <= 15) /\ (1 <= m.term /\ m.term <= 64) /\ (0 <= m.number /\ m.number <= 1099511627776) /\ 0 <= m.shard /\ m.shard <= 7)
def quiet (m : M) : Bool := decide (m.ballot = 0 /\ m.old = 0)
def plain (m : M) (r e c : Bool) : Bool := (r || Rec.same m.reco rec0) && ((e || Ent.alike m.ent ent0) && (c || Term.alike m.conf conf0))
def votes (m : M) : Bool := decide ((1 <= m.ballot /\ m.ballot <= 1099511627776) /\ m.shard = 0 /\ m.number = 0)
def withConf (m : M) : Bool := Term.right m.conf && decide (m.conf.term = m.term)
def kindOk (m : M) : Bool :=
 if m.kind = 1 then quiet m && (!m.is && (plain m true false false && Rec.right m.reco))
 else if m.kind = 2 then quiet m && (!m.is && plain m false false false)
 else if m.kind = 3 then quiet m && (!m.is && (decide (m.shard = 0 /\ m.number = 0) && (plain m false true false && Ent.right m.ent)))
 else if m.kind = 4 \/ m.kind = 6 then quiet m && (decide (m.shard = 0) && plain m false false false)
 else if m.kind = 5 then quiet m && (!m.is && (decide (m.shard = 0 /\ m.number = 0) && plain m false false false))
 else if m.kind = 7 then votes m && (decide (m.old = 0) && (!m.is && plain m false false false))
 else if m.kind = 8 then votes m && (!m.is && (decide (0 <= m.old /\ m.old <= 1099511627776) && (if m.old = 0 then plain m false false false else plain m false false true && withConf m)))
 else if m.kind = 9 then votes m && (decide (m.old = 0) && (!m.is && (plain m false false true && withConf m)))
 else if m.kind = 10 then votes m && (decide (m.old = 0) && plain m false false false)
 else false
def right (m : M) : Bool := headOk m && kindOk m
def num (n : Int) : List UInt8 := Pack.num n.toNat
def textOf (l : List UInt8) : List UInt8 := Pack.num l.length ++ l
def zas : Bool -> List UInt8
 | true => [1]
 | false => [0]
def parts (m : M) : List UInt8 :=
 if m.kind = 1 then num m.shard ++ (num m.number ++ textOf (Rec.enc m.reco))
 else if m.kind = 2 then num m.shard ++ num m.number
 else if m.kind = 3 then textOf (Ent.enc m.ent)
 else if m.kind = 4 \/ m.kind = 6 then num m.number ++ zas m.is
 else if m.kind = 7 then num m.ballot
 else if m.kind = 8 then (if m.old = 0 then num m.ballot ++ [0] else num m.ballot ++ (num m.old ++ textOf (Term.enc m.conf)))
 else if m.kind = 9 then num m.ballot ++ textOf (Term.enc m.conf)
 else if m.kind = 10 then num m.ballot ++ zas m.is
 else []
def text (m : M) : List UInt8 := num m.kind ++ (num m.src ++ (num m.dst ++ (num m.term ++ parts m)))
def enc (m : M) : List UInt8 := text m ++ Crc.low (Crc.sum (text m))
def most : Int := 1099511627776
def zak (c : Bool) (s : Pack.St) : Pack.St × Nat := if c then s.num most else (s, 0)
def za7 (c : Bool) (s : Pack.St) : Pack.St × Bool := if c then s.bool else (s, false)
def za3 (c : Bool) (s : Pack.St) : Pack.St × List UInt8 := if c then s.text 65536 else (s, [])
def stK (l : List UInt8) : Pack.St × Nat := Pack.St.num ⟨l, 0⟩ most
def stS (l : List UInt8) : Pack.St × Nat := (stK l).1.num most
def stD (l : List UInt8) : Pack.St × Nat := (stS l).1.num most
def stT (l : List UInt8) : Pack.St × Nat := (stD l).1.num most
def k (l : List UInt8) : Nat := (stK l).2
def zai (l : List UInt8) : Pack.St × Nat := zak (decide (k l = 1 \/ k l = 2)) (stT l).1
def zae (l : List UInt8) : Pack.St × Nat := zak (decide (k l = 1 \/ k l = 2 \/ k l = 4 \/ k l = 6)) (zai l).1
def zaf (l : List UInt8) : Pack.St × Nat := zak (decide (7 <= k l /\ k l <= 10)) (zae l).1
def stOld (l : List UInt8) : Pack.St × Nat := zak (decide (k l = 8)) (zaf l).1
def stIs (l : List UInt8) : Pack.St × Bool := za7 (decide (k l = 4 \/ k l = 6 \/ k l = 10)) (stOld l).1
def zal (l : List UInt8) : Pack.St × List UInt8 := za3 (decide (k l = 1 \/ k l = 3 \/ k l = 9 \/ (k l = 8 /\ (stOld l).2 ≠ 0))) (stIs l).1
def recOf (l : List UInt8) : Rec.R := if k l = 1 then (Rec.dec (zal l).2).getD rec0 else rec0
def entOf (vd : List UInt8 -> List Int) (l : List UInt8) : Ent.E := if k l = 3 then (Ent.dec vd (zal l).2).getD ent0 else ent0
def zau (l : List UInt8) : Term.C := if k l = 9 \/ (k l = 8 /\ (stOld l).2 ≠ 0) then (Term.dec (zal l).2).getD conf0 else conf0
def read (vd : List UInt8 -> List Int) (l : List UInt8) : M := ⟨k l, (stS l).2, (stD l).2, (stT l).2, (zai l).2, (zae l).2, (stIs l).2, recOf l, entOf vd l, (zaf l).2, (stOld l).2, zau l⟩
theorem zci {n : Int} (h0 : 0 <= n) (h1 : n <= 1099511627776) (r : List UInt8) : Pack.St.num ⟨num n ++ r, 0⟩ most = (⟨r, 0⟩, n.toNat) :=
 Pack.read_num _ _ _ _ (by omega) (by unfold most; omega)
theorem zf7 {n : Int} (h0 : 0 <= n) (h1 : n <= 1099511627776) : Pack.St.num ⟨num n, 0⟩ most = (⟨[], 0⟩, n.toNat) := by
 have := zci h0 h1 []
 rwa [List.append_nil] at this
theorem zk7 {l : List UInt8} (h : l.length <= 65536) : Pack.St.text ⟨textOf l, 0⟩ 65536 = (⟨[], 0⟩, l) := by
 unfold Pack.St.text textOf
 rw [Pack.read_num _ _ _ _ (by omega) (by omega)]
 simp
theorem zgu (b : Bool) : Pack.St.bool ⟨zas b, 0⟩ = (⟨[], 0⟩, b) := by cases b <;> rfl
theorem zbx {n : Int} (h : 0 <= n) : ((n.toNat : Nat) : Int) = n := by omega
theorem za5 {m : M} (h : headOk m = true) : (0 <= m.src /\ m.src <= 15) /\ (0 <= m.dst /\ m.dst <= 15) /\ (1 <= m.term /\ m.term <= 64) /\ (0 <= m.number /\ m.number <= 1099511627776) /\ 0 <= m.shard /\ m.shard <= 7 := of_decide_eq_true h
theorem zav {m : M} (hk : 0 <= m.kind /\ m.kind <= 10) (h : headOk m = true) : (k (text m) : Int) = m.kind /\ ((stS (text m)).2 : Int) = m.src /\ ((stD (text m)).2 : Int) = m.dst /\ ((stT (text m)).2 : Int) = m.term /\ (stT (text m)).1 = ⟨parts m, 0⟩ := by
 obtain ⟨h1, h2, h3, h4, h5⟩ := za5 h
 have hK : stK (text m) = (⟨num m.src ++ (num m.dst ++ (num m.term ++ parts m)), 0⟩, m.kind.toNat) := zci hk.1 (by omega) _
 have hS : stS (text m) = (⟨num m.dst ++ (num m.term ++ parts m), 0⟩, m.src.toNat) := by unfold stS; rw [hK]; exact zci h1.1 (by omega) _
 have hD : stD (text m) = (⟨num m.term ++ parts m, 0⟩, m.dst.toNat) := by unfold stD; rw [hS]; exact zci h2.1 (by omega) _
 have hT : stT (text m) = (⟨parts m, 0⟩, m.term.toNat) := by unfold stT; rw [hD]; exact zci (by omega) (by omega) _
 unfold k
 rw [hK, hS, hD, hT]
 exact ⟨zbx hk.1, zbx h1.1, zbx h2.1, zbx (by omega), rfl⟩
theorem kind_in {m : M} (h : right m = true) : 1 <= m.kind /\ m.kind <= 10 := by
 unfold right at h
 rw [Bool.and_eq_true] at h
 have h2 := h.2
 unfold kindOk at h2
 by_cases a : 1 <= m.kind /\ m.kind <= 10
 . exact a
 . iterate 9 rw [if_neg (by omega)] at h2
   cases h2
theorem ext {a b : M} (h1 : a.kind = b.kind) (h2 : a.src = b.src) (h3 : a.dst = b.dst) (h4 : a.term = b.term) (h5 : a.shard = b.shard) (h6 : a.number = b.number) (h7 : a.is = b.is) (h8 : a.reco = b.reco) (h9 : a.ent = b.ent) (h10 : a.ballot = b.ballot) (h11 : a.old = b.old) (h12 : a.conf = b.conf) : a = b := by
 cases a
 cases b
 simp only at h1 h2 h3 h4 h5 h6 h7 h8 h9 h10 h11 h12
 subst h1 h2 h3 h4 h5 h6 h7 h8 h9 h10 h11 h12
 rfl
theorem zb6 {m : M} {r e c : Bool} (h : plain m r e c = true) : (r = false -> m.reco = rec0) /\ (e = false -> m.ent = ent0) /\ (c = false -> m.conf = conf0) := by
 unfold plain at h
 simp only [Bool.and_eq_true, Bool.or_eq_true, Rec.same_iff, Ent.alike_iff, Term.alike_iff] at h
 obtain ⟨h1, h2, h3⟩ := h
 refine ⟨fun e => ?_, fun e => ?_, fun e => ?_⟩
 . rcases h1 with h | h
   . rw [e] at h; cases h
   . exact h
 . rcases h2 with h | h
   . rw [e] at h; cases h
   . exact h
 . rcases h3 with h | h
   . rw [e] at h; cases h
   . exact h
inductive Is (m : M) : Prop
 | one (k : m.kind = 1) (b : m.ballot = 0) (o : m.old = 0) (i : m.is = false) (r : Rec.right m.reco = true) (e : m.ent = ent0) (c : m.conf = conf0) : Is m
 | two (k : m.kind = 2) (b : m.ballot = 0) (o : m.old = 0) (i : m.is = false) (r : m.reco = rec0) (e : m.ent = ent0) (c : m.conf = conf0) : Is m
 | three (k : m.kind = 3) (b : m.ballot = 0) (o : m.old = 0) (i : m.is = false) (s : m.shard = 0) (n : m.number = 0) (r : m.reco = rec0) (e : Ent.right m.ent = true) (c : m.conf = conf0) : Is m
 | four (k : m.kind = 4 \/ m.kind = 6) (b : m.ballot = 0) (o : m.old = 0) (s : m.shard = 0) (r : m.reco = rec0) (e : m.ent = ent0) (c : m.conf = conf0) : Is m
 | five (k : m.kind = 5) (b : m.ballot = 0) (o : m.old = 0) (i : m.is = false) (s : m.shard = 0) (n : m.number = 0) (r : m.reco = rec0) (e : m.ent = ent0) (c : m.conf = conf0) : Is m
 | seven (k : m.kind = 7) (b : 1 <= m.ballot /\ m.ballot <= 1099511627776) (o : m.old = 0) (i : m.is = false) (s : m.shard = 0) (n : m.number = 0) (r : m.reco = rec0) (e : m.ent = ent0) (c : m.conf = conf0) : Is m
 | eight0 (k : m.kind = 8) (b : 1 <= m.ballot /\ m.ballot <= 1099511627776) (o : m.old = 0) (i : m.is = false) (s : m.shard = 0) (n : m.number = 0) (r : m.reco = rec0) (e : m.ent = ent0) (c : m.conf = conf0) : Is m
 | eight (k : m.kind = 8) (b : 1 <= m.ballot /\ m.ballot <= 1099511627776) (o : 1 <= m.old /\ m.old <= 1099511627776) (i : m.is = false) (s : m.shard = 0) (n : m.number = 0) (r : m.reco = rec0) (e : m.ent = ent0) (c : Term.right m.conf = true) (t : m.conf.term = m.term) : Is m
 | nine (k : m.kind = 9) (b : 1 <= m.ballot /\ m.ballot <= 1099511627776) (o : m.old = 0) (i : m.is = false) (s : m.shard = 0) (n : m.number = 0) (r : m.reco = rec0) (e : m.ent = ent0) (c : Term.right m.conf = true) (t : m.conf.term = m.term) : Is m
 | ten (k : m.kind = 10) (b : 1 <= m.ballot /\ m.ballot <= 1099511627776) (o : m.old = 0) (s : m.shard = 0) (n : m.number = 0) (r : m.reco = rec0) (e : m.ent = ent0) (c : m.conf = conf0) : Is m
theorem zff {m : M} (h : right m = true) : headOk m = true /\ Is m := by
 unfold right at h
 rw [Bool.and_eq_true] at h
 refine ⟨h.1, ?_⟩
 have h2 := h.2
 unfold kindOk at h2
 split at h2
 . rename_i hk
   simp only [quiet, Bool.and_eq_true, Bool.not_eq_true', decide_eq_true_eq] at h2
   obtain ⟨⟨b, o⟩, i, p, r⟩ := h2
   obtain ⟨_, p2, p3⟩ := zb6 p
   exact .one hk b o i r (p2 rfl) (p3 rfl)
 split at h2
 . rename_i hk
   simp only [quiet, Bool.and_eq_true, Bool.not_eq_true', decide_eq_true_eq] at h2
   obtain ⟨⟨b, o⟩, i, p⟩ := h2
   obtain ⟨p1, p2, p3⟩ := zb6 p
   exact .two hk b o i (p1 rfl) (p2 rfl) (p3 rfl)
 split at h2
 . rename_i hk
   simp only [quiet, Bool.and_eq_true, Bool.not_eq_true', decide_eq_true_eq] at h2
   obtain ⟨⟨b, o⟩, i, ⟨s, n⟩, p, r⟩ := h2
   obtain ⟨p1, _, p3⟩ := zb6 p
   exact .three hk b o i s n (p1 rfl) r (p3 rfl)
 split at h2
 . rename_i hk
   simp only [quiet, Bool.and_eq_true, decide_eq_true_eq] at h2
   obtain ⟨⟨b, o⟩, s, p⟩ := h2
   obtain ⟨p1, p2, p3⟩ := zb6 p
   exact .four hk b o s (p1 rfl) (p2 rfl) (p3 rfl)
 split at h2
 . rename_i hk
   simp only [quiet, Bool.and_eq_true, Bool.not_eq_true', decide_eq_true_eq] at h2
   obtain ⟨⟨b, o⟩, i, ⟨s, n⟩, p⟩ := h2
   obtain ⟨p1, p2, p3⟩ := zb6 p
   exact .five hk b o i s n (p1 rfl) (p2 rfl) (p3 rfl)
 split at h2
 . rename_i hk
   simp only [votes, Bool.and_eq_true, Bool.not_eq_true', decide_eq_true_eq] at h2
   obtain ⟨⟨b, s, n⟩, o, i, p⟩ := h2
   obtain ⟨p1, p2, p3⟩ := zb6 p
   exact .seven hk b o i s n (p1 rfl) (p2 rfl) (p3 rfl)
 split at h2
 . rename_i hk
   simp only [votes, Bool.and_eq_true, Bool.not_eq_true', decide_eq_true_eq] at h2
   obtain ⟨⟨b, s, n⟩, i, o, p⟩ := h2
   by_cases ho : m.old = 0
   . rw [if_pos ho] at p
     obtain ⟨p1, p2, p3⟩ := zb6 p
     exact .eight0 hk b ho i s n (p1 rfl) (p2 rfl) (p3 rfl)
   . rw [if_neg ho, Bool.and_eq_true] at p
     obtain ⟨p1, p2, _⟩ := zb6 p.1
     have q := p.2
     unfold withConf at q
     rw [Bool.and_eq_true, decide_eq_true_eq] at q
     exact .eight hk b (by omega) i s n (p1 rfl) (p2 rfl) q.1 q.2
 split at h2
 . rename_i hk
   simp only [votes, withConf, Bool.and_eq_true, Bool.not_eq_true', decide_eq_true_eq] at h2
   obtain ⟨⟨b, s, n⟩, o, i, p, q1, q2⟩ := h2
   obtain ⟨p1, p2, _⟩ := zb6 p
   exact .nine hk b o i s n (p1 rfl) (p2 rfl) q1 q2
 split at h2
 . rename_i hk
   simp only [votes, Bool.and_eq_true, decide_eq_true_eq] at h2
   obtain ⟨⟨b, s, n⟩, o, p⟩ := h2
   obtain ⟨p1, p2, p3⟩ := zb6 p
   exact .ten hk b o s n (p1 rfl) (p2 rfl) (p3 rfl)
 . cases h2
theorem zpu {m : M} (h : headOk m = true) (k1 : m.kind = 1) (r : Rec.right m.reco = true) : k (text m) = 1 /\ zai (text m) = (⟨num m.number ++ textOf (Rec.enc m.reco), 0⟩, m.shard.toNat) /\ zae (text m) = (⟨textOf (Rec.enc m.reco), 0⟩, m.number.toNat) /\ zaf (text m) = (⟨textOf (Rec.enc m.reco), 0⟩, 0) /\ stOld (text m) = (⟨textOf (Rec.enc m.reco), 0⟩, 0) /\ stIs (text m) = (⟨textOf (Rec.enc m.reco), 0⟩, false) /\ zal (text m) = (⟨[], 0⟩, Rec.enc m.reco) := by
 obtain ⟨h1, h2, h3, h4, h5⟩ := za5 h
 have hl := Rec.enc_le r
 obtain ⟨hk0, _, _, _, hT⟩ := zav (by omega) h
 have hk : k (text m) = 1 := by omega
 have hp : parts m = num m.shard ++ (num m.number ++ textOf (Rec.enc m.reco)) := by
  unfold parts
  rw [if_pos (by omega)]
 rw [hp] at hT
 have r_shard : zai (text m) = (⟨num m.number ++ textOf (Rec.enc m.reco), 0⟩, m.shard.toNat) := by unfold zai zak; rw [hT]; simp only [hk]; exact zci (by omega) (by omega) _
 have r_number : zae (text m) = (⟨textOf (Rec.enc m.reco), 0⟩, m.number.toNat) := by unfold zae zak; rw [r_shard]; simp only [hk]; exact zci (by omega) (by omega) _
 have r_ballot : zaf (text m) = (⟨textOf (Rec.enc m.reco), 0⟩, 0) := by unfold zaf zak; rw [r_number]; simp only [hk]; rfl
 have r_old : stOld (text m) = (⟨textOf (Rec.enc m.reco), 0⟩, 0) := by unfold stOld zak; rw [r_ballot]; simp only [hk]; rfl
 have r_is : stIs (text m) = (⟨textOf (Rec.enc m.reco), 0⟩, false) := by unfold stIs za7; rw [r_old]; simp only [hk]; rfl
 have r_text : zal (text m) = (⟨[], 0⟩, Rec.enc m.reco) := by unfold zal za3; rw [r_is]; simp only [hk]; exact zk7 (by omega)
 exact ⟨hk, r_shard, r_number, r_ballot, r_old, r_is, r_text⟩
theorem zqh {m : M} (h : headOk m = true) (k1 : m.kind = 2)  : k (text m) = 2 /\ zai (text m) = (⟨num m.number, 0⟩, m.shard.toNat) /\ zae (text m) = (⟨[], 0⟩, m.number.toNat) /\ zaf (text m) = (⟨[], 0⟩, 0) /\ stOld (text m) = (⟨[], 0⟩, 0) /\ stIs (text m) = (⟨[], 0⟩, false) /\ zal (text m) = (⟨[], 0⟩, []) := by
 obtain ⟨h1, h2, h3, h4, h5⟩ := za5 h
 obtain ⟨hk0, _, _, _, hT⟩ := zav (by omega) h
 have hk : k (text m) = 2 := by omega
 have hp : parts m = num m.shard ++ num m.number := by
  unfold parts
  rw [if_neg (by omega)]
  rw [if_pos (by omega)]
 rw [hp] at hT
 have r_shard : zai (text m) = (⟨num m.number, 0⟩, m.shard.toNat) := by unfold zai zak; rw [hT]; simp only [hk]; exact zci (by omega) (by omega) _
 have r_number : zae (text m) = (⟨[], 0⟩, m.number.toNat) := by unfold zae zak; rw [r_shard]; simp only [hk]; exact zf7 (by omega) (by omega)
 have r_ballot : zaf (text m) = (⟨[], 0⟩, 0) := by unfold zaf zak; rw [r_number]; simp only [hk]; rfl
 have r_old : stOld (text m) = (⟨[], 0⟩, 0) := by unfold stOld zak; rw [r_ballot]; simp only [hk]; rfl
 have r_is : stIs (text m) = (⟨[], 0⟩, false) := by unfold stIs za7; rw [r_old]; simp only [hk]; rfl
 have r_text : zal (text m) = (⟨[], 0⟩, []) := by unfold zal za3; rw [r_is]; simp only [hk]; rfl
 exact ⟨hk, r_shard, r_number, r_ballot, r_old, r_is, r_text⟩
theorem zpc {m : M} (h : headOk m = true) (k1 : m.kind = 3) (r : Ent.right m.ent = true) : k (text m) = 3 /\ zai (text m) = (⟨textOf (Ent.enc m.ent), 0⟩, 0) /\ zae (text m) = (⟨textOf (Ent.enc m.ent), 0⟩, 0) /\ zaf (text m) = (⟨textOf (Ent.enc m.ent), 0⟩, 0) /\ stOld (text m) = (⟨textOf (Ent.enc m.ent), 0⟩, 0) /\ stIs (text m) = (⟨textOf (Ent.enc m.ent), 0⟩, false) /\ zal (text m) = (⟨[], 0⟩, Ent.enc m.ent) := by
 obtain ⟨h1, h2, h3, h4, h5⟩ := za5 h
 have hl := Ent.enc_le r
 obtain ⟨hk0, _, _, _, hT⟩ := zav (by omega) h
 have hk : k (text m) = 3 := by omega
 have hp : parts m = textOf (Ent.enc m.ent) := by
  unfold parts
  rw [if_neg (by omega)]
  rw [if_neg (by omega)]
  rw [if_pos (by omega)]
 rw [hp] at hT
 have r_shard : zai (text m) = (⟨textOf (Ent.enc m.ent), 0⟩, 0) := by unfold zai zak; rw [hT]; simp only [hk]; rfl
 have r_number : zae (text m) = (⟨textOf (Ent.enc m.ent), 0⟩, 0) := by unfold zae zak; rw [r_shard]; simp only [hk]; rfl
 have r_ballot : zaf (text m) = (⟨textOf (Ent.enc m.ent), 0⟩, 0) := by unfold zaf zak; rw [r_number]; simp only [hk]; rfl
 have r_old : stOld (text m) = (⟨textOf (Ent.enc m.ent), 0⟩, 0) := by unfold stOld zak; rw [r_ballot]; simp only [hk]; rfl
 have r_is : stIs (text m) = (⟨textOf (Ent.enc m.ent), 0⟩, false) := by unfold stIs za7; rw [r_old]; simp only [hk]; rfl
 have r_text : zal (text m) = (⟨[], 0⟩, Ent.enc m.ent) := by unfold zal za3; rw [r_is]; simp only [hk]; exact zk7 (by omega)
 exact ⟨hk, r_shard, r_number, r_ballot, r_old, r_is, r_text⟩
theorem zoo {m : M} (h : headOk m = true) (k1 : m.kind = 4)  : k (text m) = 4 /\ zai (text m) = (⟨num m.number ++ zas m.is, 0⟩, 0) /\ zae (text m) = (⟨zas m.is, 0⟩, m.number.toNat) /\ zaf (text m) = (⟨zas m.is, 0⟩, 0) /\ stOld (text m) = (⟨zas m.is, 0⟩, 0) /\ stIs (text m) = (⟨[], 0⟩, m.is) /\ zal (text m) = (⟨[], 0⟩, []) := by
 obtain ⟨h1, h2, h3, h4, h5⟩ := za5 h
 obtain ⟨hk0, _, _, _, hT⟩ := zav (by omega) h
 have hk : k (text m) = 4 := by omega
 have hp : parts m = num m.number ++ zas m.is := by
  unfold parts
  rw [if_neg (by omega)]
  rw [if_neg (by omega)]
  rw [if_neg (by omega)]
  rw [if_pos (by omega)]
 rw [hp] at hT
 have r_shard : zai (text m) = (⟨num m.number ++ zas m.is, 0⟩, 0) := by unfold zai zak; rw [hT]; simp only [hk]; rfl
 have r_number : zae (text m) = (⟨zas m.is, 0⟩, m.number.toNat) := by unfold zae zak; rw [r_shard]; simp only [hk]; exact zci (by omega) (by omega) _
 have r_ballot : zaf (text m) = (⟨zas m.is, 0⟩, 0) := by unfold zaf zak; rw [r_number]; simp only [hk]; rfl
 have r_old : stOld (text m) = (⟨zas m.is, 0⟩, 0) := by unfold stOld zak; rw [r_ballot]; simp only [hk]; rfl
 have r_is : stIs (text m) = (⟨[], 0⟩, m.is) := by unfold stIs za7; rw [r_old]; simp only [hk]; exact zgu _
 have r_text : zal (text m) = (⟨[], 0⟩, []) := by unfold zal za3; rw [r_is]; simp only [hk]; rfl
 exact ⟨hk, r_shard, r_number, r_ballot, r_old, r_is, r_text⟩
theorem zn8 {m : M} (h : headOk m = true) (k1 : m.kind = 5)  : k (text m) = 5 /\ zai (text m) = (⟨[], 0⟩, 0) /\ zae (text m) = (⟨[], 0⟩, 0) /\ zaf (text m) = (⟨[], 0⟩, 0) /\ stOld (text m) = (⟨[], 0⟩, 0) /\ stIs (text m) = (⟨[], 0⟩, false) /\ zal (text m) = (⟨[], 0⟩, []) := by
 obtain ⟨h1, h2, h3, h4, h5⟩ := za5 h
 obtain ⟨hk0, _, _, _, hT⟩ := zav (by omega) h
 have hk : k (text m) = 5 := by omega
 have hp : parts m = [] := by
  unfold parts
  rw [if_neg (by omega)]
  rw [if_neg (by omega)]
  rw [if_neg (by omega)]
  rw [if_neg (by omega)]
  rw [if_neg (by omega)]
  rw [if_neg (by omega)]
  rw [if_neg (by omega)]
  rw [if_neg (by omega)]
 rw [hp] at hT
 have r_shard : zai (text m) = (⟨[], 0⟩, 0) := by unfold zai zak; rw [hT]; simp only [hk]; rfl
 have r_number : zae (text m) = (⟨[], 0⟩, 0) := by unfold zae zak; rw [r_shard]; simp only [hk]; rfl
 have r_ballot : zaf (text m) = (⟨[], 0⟩, 0) := by unfold zaf zak; rw [r_number]; simp only [hk]; rfl
 have r_old : stOld (text m) = (⟨[], 0⟩, 0) := by unfold stOld zak; rw [r_ballot]; simp only [hk]; rfl
 have r_is : stIs (text m) = (⟨[], 0⟩, false) := by unfold stIs za7; rw [r_old]; simp only [hk]; rfl
 have r_text : zal (text m) = (⟨[], 0⟩, []) := by unfold zal za3; rw [r_is]; simp only [hk]; rfl
 exact ⟨hk, r_shard, r_number, r_ballot, r_old, r_is, r_text⟩
theorem zn9 {m : M} (h : headOk m = true) (k1 : m.kind = 6)  : k (text m) = 6 /\ zai (text m) = (⟨num m.number ++ zas m.is, 0⟩, 0) /\ zae (text m) = (⟨zas m.is, 0⟩, m.number.toNat) /\ zaf (text m) = (⟨zas m.is, 0⟩, 0) /\ stOld (text m) = (⟨zas m.is, 0⟩, 0) /\ stIs (text m) = (⟨[], 0⟩, m.is) /\ zal (text m) = (⟨[], 0⟩, []) := by
 obtain ⟨h1, h2, h3, h4, h5⟩ := za5 h
 obtain ⟨hk0, _, _, _, hT⟩ := zav (by omega) h
 have hk : k (text m) = 6 := by omega
 have hp : parts m = num m.number ++ zas m.is := by
  unfold parts
  rw [if_neg (by omega)]
  rw [if_neg (by omega)]
  rw [if_neg (by omega)]
  rw [if_pos (by omega)]
 rw [hp] at hT
 have r_shard : zai (text m) = (⟨num m.number ++ zas m.is, 0⟩, 0) := by unfold zai zak; rw [hT]; simp only [hk]; rfl
 have r_number : zae (text m) = (⟨zas m.is, 0⟩, m.number.toNat) := by unfold zae zak; rw [r_shard]; simp only [hk]; exact zci (by omega) (by omega) _
 have r_ballot : zaf (text m) = (⟨zas m.is, 0⟩, 0) := by unfold zaf zak; rw [r_number]; simp only [hk]; rfl
 have r_old : stOld (text m) = (⟨zas m.is, 0⟩, 0) := by unfold stOld zak; rw [r_ballot]; simp only [hk]; rfl
 have r_is : stIs (text m) = (⟨[], 0⟩, m.is) := by unfold stIs za7; rw [r_old]; simp only [hk]; exact zgu _
 have r_text : zal (text m) = (⟨[], 0⟩, []) := by unfold zal za3; rw [r_is]; simp only [hk]; rfl
 exact ⟨hk, r_shard, r_number, r_ballot, r_old, r_is, r_text⟩
theorem zpl {m : M} (h : headOk m = true) (k1 : m.kind = 7)  (b : 1 <= m.ballot /\ m.ballot <= 1099511627776) : k (text m) = 7 /\ zai (text m) = (⟨num m.ballot, 0⟩, 0) /\ zae (text m) = (⟨num m.ballot, 0⟩, 0) /\ zaf (text m) = (⟨[], 0⟩, m.ballot.toNat) /\ stOld (text m) = (⟨[], 0⟩, 0) /\ stIs (text m) = (⟨[], 0⟩, false) /\ zal (text m) = (⟨[], 0⟩, []) := by
 obtain ⟨h1, h2, h3, h4, h5⟩ := za5 h
 obtain ⟨hk0, _, _, _, hT⟩ := zav (by omega) h
 have hk : k (text m) = 7 := by omega
 have hp : parts m = num m.ballot := by
  unfold parts
  rw [if_neg (by omega)]
  rw [if_neg (by omega)]
  rw [if_neg (by omega)]
  rw [if_neg (by omega)]
  rw [if_pos (by omega)]
 rw [hp] at hT
 have r_shard : zai (text m) = (⟨num m.ballot, 0⟩, 0) := by unfold zai zak; rw [hT]; simp only [hk]; rfl
 have r_number : zae (text m) = (⟨num m.ballot, 0⟩, 0) := by unfold zae zak; rw [r_shard]; simp only [hk]; rfl
 have r_ballot : zaf (text m) = (⟨[], 0⟩, m.ballot.toNat) := by unfold zaf zak; rw [r_number]; simp only [hk]; exact zf7 (by omega) (by omega)
 have r_old : stOld (text m) = (⟨[], 0⟩, 0) := by unfold stOld zak; rw [r_ballot]; simp only [hk]; rfl
 have r_is : stIs (text m) = (⟨[], 0⟩, false) := by unfold stIs za7; rw [r_old]; simp only [hk]; rfl
 have r_text : zal (text m) = (⟨[], 0⟩, []) := by unfold zal za3; rw [r_is]; simp only [hk]; rfl
 exact ⟨hk, r_shard, r_number, r_ballot, r_old, r_is, r_text⟩
theorem zkc {m : M} (h : headOk m = true) (k1 : m.kind = 8) (o : m.old = 0) (b : 1 <= m.ballot /\ m.ballot <= 1099511627776) : k (text m) = 8 /\ zai (text m) = (⟨num m.ballot ++ num m.old, 0⟩, 0) /\ zae (text m) = (⟨num m.ballot ++ num m.old, 0⟩, 0) /\ zaf (text m) = (⟨num m.old, 0⟩, m.ballot.toNat) /\ stOld (text m) = (⟨[], 0⟩, m.old.toNat) /\ stIs (text m) = (⟨[], 0⟩, false) /\ zal (text m) = (⟨[], 0⟩, []) := by
 obtain ⟨h1, h2, h3, h4, h5⟩ := za5 h
 obtain ⟨hk0, _, _, _, hT⟩ := zav (by omega) h
 have hk : k (text m) = 8 := by omega
 have hp : parts m = num m.ballot ++ num m.old := by
  unfold parts
  rw [if_neg (by omega)]
  rw [if_neg (by omega)]
  rw [if_neg (by omega)]
  rw [if_neg (by omega)]
  rw [if_neg (by omega)]
  rw [if_pos (by omega)]
  rw [if_pos o, o]
  rw [show num 0 = [0] from by unfold num; exact Pack.num_low (by decide)]
 rw [hp] at hT
 have r_shard : zai (text m) = (⟨num m.ballot ++ num m.old, 0⟩, 0) := by unfold zai zak; rw [hT]; simp only [hk]; rfl
 have r_number : zae (text m) = (⟨num m.ballot ++ num m.old, 0⟩, 0) := by unfold zae zak; rw [r_shard]; simp only [hk]; rfl
 have r_ballot : zaf (text m) = (⟨num m.old, 0⟩, m.ballot.toNat) := by unfold zaf zak; rw [r_number]; simp only [hk]; exact zci (by omega) (by omega) _
 have r_old : stOld (text m) = (⟨[], 0⟩, m.old.toNat) := by unfold stOld zak; rw [r_ballot]; simp only [hk]; exact zf7 (by omega) (by omega)
 have r_is : stIs (text m) = (⟨[], 0⟩, false) := by unfold stIs za7; rw [r_old]; simp only [hk]; rfl
 have r_text : zal (text m) = (⟨[], 0⟩, []) := by
  have ho : (stOld (text m)).2 = 0 := by rw [r_old]; show m.old.toNat = 0; omega
  unfold zal za3
  rw [r_is]
  simp only [hk, ho]
  rfl
 exact ⟨hk, r_shard, r_number, r_ballot, r_old, r_is, r_text⟩
theorem zn7 {m : M} (h : headOk m = true) (k1 : m.kind = 8) (r : Term.right m.conf = true) (o : 1 <= m.old /\ m.old <= 1099511627776) (b : 1 <= m.ballot /\ m.ballot <= 1099511627776) : k (text m) = 8 /\ zai (text m) = (⟨num m.ballot ++ (num m.old ++ textOf (Term.enc m.conf)), 0⟩, 0) /\ zae (text m) = (⟨num m.ballot ++ (num m.old ++ textOf (Term.enc m.conf)), 0⟩, 0) /\ zaf (text m) = (⟨num m.old ++ textOf (Term.enc m.conf), 0⟩, m.ballot.toNat) /\ stOld (text m) = (⟨textOf (Term.enc m.conf), 0⟩, m.old.toNat) /\ stIs (text m) = (⟨textOf (Term.enc m.conf), 0⟩, false) /\ zal (text m) = (⟨[], 0⟩, Term.enc m.conf) := by
 obtain ⟨h1, h2, h3, h4, h5⟩ := za5 h
 have hl := Term.enc_le r
 obtain ⟨hk0, _, _, _, hT⟩ := zav (by omega) h
 have hk : k (text m) = 8 := by omega
 have hp : parts m = num m.ballot ++ (num m.old ++ textOf (Term.enc m.conf)) := by
  unfold parts
  rw [if_neg (by omega)]
  rw [if_neg (by omega)]
  rw [if_neg (by omega)]
  rw [if_neg (by omega)]
  rw [if_neg (by omega)]
  rw [if_pos (by omega)]
  rw [if_neg (by omega)]
 rw [hp] at hT
 have r_shard : zai (text m) = (⟨num m.ballot ++ (num m.old ++ textOf (Term.enc m.conf)), 0⟩, 0) := by unfold zai zak; rw [hT]; simp only [hk]; rfl
 have r_number : zae (text m) = (⟨num m.ballot ++ (num m.old ++ textOf (Term.enc m.conf)), 0⟩, 0) := by unfold zae zak; rw [r_shard]; simp only [hk]; rfl
 have r_ballot : zaf (text m) = (⟨num m.old ++ textOf (Term.enc m.conf), 0⟩, m.ballot.toNat) := by unfold zaf zak; rw [r_number]; simp only [hk]; exact zci (by omega) (by omega) _
 have r_old : stOld (text m) = (⟨textOf (Term.enc m.conf), 0⟩, m.old.toNat) := by unfold stOld zak; rw [r_ballot]; simp only [hk]; exact zci (by omega) (by omega) _
 have r_is : stIs (text m) = (⟨textOf (Term.enc m.conf), 0⟩, false) := by unfold stIs za7; rw [r_old]; simp only [hk]; rfl
 have r_text : zal (text m) = (⟨[], 0⟩, Term.enc m.conf) := by
  have ho : (stOld (text m)).2 ≠ 0 := by rw [r_old]; show m.old.toNat ≠ 0; omega
  have hc : decide (k (text m) = 1 \/ k (text m) = 3 \/ k (text m) = 9 \/ (k (text m) = 8 /\ (stOld (text m)).2 ≠ 0)) = true := decide_eq_true (.inr (.inr (.inr ⟨hk, ho⟩)))
  unfold zal za3
  rw [r_is, if_pos hc]
  exact zk7 (by omega)
 exact ⟨hk, r_shard, r_number, r_ballot, r_old, r_is, r_text⟩
theorem zph {m : M} (h : headOk m = true) (k1 : m.kind = 9) (r : Term.right m.conf = true) (b : 1 <= m.ballot /\ m.ballot <= 1099511627776) : k (text m) = 9 /\ zai (text m) = (⟨num m.ballot ++ textOf (Term.enc m.conf), 0⟩, 0) /\ zae (text m) = (⟨num m.ballot ++ textOf (Term.enc m.conf), 0⟩, 0) /\ zaf (text m) = (⟨textOf (Term.enc m.conf), 0⟩, m.ballot.toNat) /\ stOld (text m) = (⟨textOf (Term.enc m.conf), 0⟩, 0) /\ stIs (text m) = (⟨textOf (Term.enc m.conf), 0⟩, false) /\ zal (text m) = (⟨[], 0⟩, Term.enc m.conf) := by
 obtain ⟨h1, h2, h3, h4, h5⟩ := za5 h
 have hl := Term.enc_le r
 obtain ⟨hk0, _, _, _, hT⟩ := zav (by omega) h
 have hk : k (text m) = 9 := by omega
 have hp : parts m = num m.ballot ++ textOf (Term.enc m.conf) := by
  unfold parts
  rw [if_neg (by omega)]
  rw [if_neg (by omega)]
  rw [if_neg (by omega)]
  rw [if_neg (by omega)]
  rw [if_neg (by omega)]
  rw [if_neg (by omega)]
  rw [if_pos (by omega)]
 rw [hp] at hT
 have r_shard : zai (text m) = (⟨num m.ballot ++ textOf (Term.enc m.conf), 0⟩, 0) := by unfold zai zak; rw [hT]; simp only [hk]; rfl
 have r_number : zae (text m) = (⟨num m.ballot ++ textOf (Term.enc m.conf), 0⟩, 0) := by unfold zae zak; rw [r_shard]; simp only [hk]; rfl
 have r_ballot : zaf (text m) = (⟨textOf (Term.enc m.conf), 0⟩, m.ballot.toNat) := by unfold zaf zak; rw [r_number]; simp only [hk]; exact zci (by omega) (by omega) _
 have r_old : stOld (text m) = (⟨textOf (Term.enc m.conf), 0⟩, 0) := by unfold stOld zak; rw [r_ballot]; simp only [hk]; rfl
 have r_is : stIs (text m) = (⟨textOf (Term.enc m.conf), 0⟩, false) := by unfold stIs za7; rw [r_old]; simp only [hk]; rfl
 have r_text : zal (text m) = (⟨[], 0⟩, Term.enc m.conf) := by unfold zal za3; rw [r_is]; simp only [hk]; exact zk7 (by omega)
 exact ⟨hk, r_shard, r_number, r_ballot, r_old, r_is, r_text⟩
theorem zkz {m : M} (h : headOk m = true) (k1 : m.kind = 10)  (b : 1 <= m.ballot /\ m.ballot <= 1099511627776) : k (text m) = 10 /\ zai (text m) = (⟨num m.ballot ++ zas m.is, 0⟩, 0) /\ zae (text m) = (⟨num m.ballot ++ zas m.is, 0⟩, 0) /\ zaf (text m) = (⟨zas m.is, 0⟩, m.ballot.toNat) /\ stOld (text m) = (⟨zas m.is, 0⟩, 0) /\ stIs (text m) = (⟨[], 0⟩, m.is) /\ zal (text m) = (⟨[], 0⟩, []) := by
 obtain ⟨h1, h2, h3, h4, h5⟩ := za5 h
 obtain ⟨hk0, _, _, _, hT⟩ := zav (by omega) h
 have hk : k (text m) = 10 := by omega
 have hp : parts m = num m.ballot ++ zas m.is := by
  unfold parts
  rw [if_neg (by omega)]
  rw [if_neg (by omega)]
  rw [if_neg (by omega)]
  rw [if_neg (by omega)]
  rw [if_neg (by omega)]
  rw [if_neg (by omega)]
  rw [if_neg (by omega)]
  rw [if_pos (by omega)]
 rw [hp] at hT
 have r_shard : zai (text m) = (⟨num m.ballot ++ zas m.is, 0⟩, 0) := by unfold zai zak; rw [hT]; simp only [hk]; rfl
 have r_number : zae (text m) = (⟨num m.ballot ++ zas m.is, 0⟩, 0) := by unfold zae zak; rw [r_shard]; simp only [hk]; rfl
 have r_ballot : zaf (text m) = (⟨zas m.is, 0⟩, m.ballot.toNat) := by unfold zaf zak; rw [r_number]; simp only [hk]; exact zci (by omega) (by omega) _
 have r_old : stOld (text m) = (⟨zas m.is, 0⟩, 0) := by unfold stOld zak; rw [r_ballot]; simp only [hk]; rfl
 have r_is : stIs (text m) = (⟨[], 0⟩, m.is) := by unfold stIs za7; rw [r_old]; simp only [hk]; exact zgu _
 have r_text : zal (text m) = (⟨[], 0⟩, []) := by unfold zal za3; rw [r_is]; simp only [hk]; rfl
 exact ⟨hk, r_shard, r_number, r_ballot, r_old, r_is, r_text⟩
theorem zbl {vd : List UInt8 -> List Int} (hv : ∀ v, Vec.right v = true -> vd (Ent.vecBytes v) = v) {m : M} (h : right m = true) : (zal (text m)).1 = ⟨[], 0⟩ /\ read vd (text m) = m := by
 obtain ⟨hh, hi⟩ := zff h
 obtain ⟨h1, h2, h3, h4, h5⟩ := za5 hh
 obtain ⟨q1, q2, q3, q4, _⟩ := zav (by have := kind_in h; omega) hh
 cases hi with
 | one k1 b o i r e c =>
  obtain ⟨z0, z1, z2, z3, z4, z5, z6⟩ := zpu hh k1 r
  refine ⟨by rw [z6], ext q1 q2 q3 q4 ?_ ?_ ?_ ?_ ?_ ?_ ?_ ?_⟩
  . show ((zai (text m)).2 : Int) = m.shard; rw [z1]; simp only []; omega
  . show ((zae (text m)).2 : Int) = m.number; rw [z2]; simp only []; omega
  . show (stIs (text m)).2 = m.is; rw [z5]; exact i.symm
  . show recOf (text m) = m.reco; unfold recOf; rw [if_pos z0, z6]; simp only []; rw [Rec.dec_enc r]; rfl
  . show entOf vd (text m) = m.ent; unfold entOf; rw [if_neg (by omega)]; exact e.symm
  . show ((zaf (text m)).2 : Int) = m.ballot; rw [z3]; simp only []; omega
  . show ((stOld (text m)).2 : Int) = m.old; rw [z4]; simp only []; omega
  . show zau (text m) = m.conf; unfold zau; rw [if_neg (by omega)]; exact c.symm
 | two k1 b o i r e c =>
  obtain ⟨z0, z1, z2, z3, z4, z5, z6⟩ := zqh hh k1
  refine ⟨by rw [z6], ext q1 q2 q3 q4 ?_ ?_ ?_ ?_ ?_ ?_ ?_ ?_⟩
  . show ((zai (text m)).2 : Int) = m.shard; rw [z1]; simp only []; omega
  . show ((zae (text m)).2 : Int) = m.number; rw [z2]; simp only []; omega
  . show (stIs (text m)).2 = m.is; rw [z5]; exact i.symm
  . show recOf (text m) = m.reco; unfold recOf; rw [if_neg (by omega)]; exact r.symm
  . show entOf vd (text m) = m.ent; unfold entOf; rw [if_neg (by omega)]; exact e.symm
  . show ((zaf (text m)).2 : Int) = m.ballot; rw [z3]; simp only []; omega
  . show ((stOld (text m)).2 : Int) = m.old; rw [z4]; simp only []; omega
  . show zau (text m) = m.conf; unfold zau; rw [if_neg (by omega)]; exact c.symm
 | three k1 b o i s n r e c =>
  obtain ⟨z0, z1, z2, z3, z4, z5, z6⟩ := zpc hh k1 e
  refine ⟨by rw [z6], ext q1 q2 q3 q4 ?_ ?_ ?_ ?_ ?_ ?_ ?_ ?_⟩
  . show ((zai (text m)).2 : Int) = m.shard; rw [z1]; simp only []; omega
  . show ((zae (text m)).2 : Int) = m.number; rw [z2]; simp only []; omega
  . show (stIs (text m)).2 = m.is; rw [z5]; exact i.symm
  . show recOf (text m) = m.reco; unfold recOf; rw [if_neg (by omega)]; exact r.symm
  . show entOf vd (text m) = m.ent; unfold entOf; rw [if_pos z0, z6]; simp only []; rw [Ent.dec_enc hv e]; rfl
  . show ((zaf (text m)).2 : Int) = m.ballot; rw [z3]; simp only []; omega
  . show ((stOld (text m)).2 : Int) = m.old; rw [z4]; simp only []; omega
  . show zau (text m) = m.conf; unfold zau; rw [if_neg (by omega)]; exact c.symm
 | four k1 b o s r e c =>
  rcases k1 with k1 | k1
  . obtain ⟨z0, z1, z2, z3, z4, z5, z6⟩ := zoo hh k1
    refine ⟨by rw [z6], ext q1 q2 q3 q4 ?_ ?_ ?_ ?_ ?_ ?_ ?_ ?_⟩
    . show ((zai (text m)).2 : Int) = m.shard; rw [z1]; simp only []; omega
    . show ((zae (text m)).2 : Int) = m.number; rw [z2]; simp only []; omega
    . show (stIs (text m)).2 = m.is; rw [z5]
    . show recOf (text m) = m.reco; unfold recOf; rw [if_neg (by omega)]; exact r.symm
    . show entOf vd (text m) = m.ent; unfold entOf; rw [if_neg (by omega)]; exact e.symm
    . show ((zaf (text m)).2 : Int) = m.ballot; rw [z3]; simp only []; omega
    . show ((stOld (text m)).2 : Int) = m.old; rw [z4]; simp only []; omega
    . show zau (text m) = m.conf; unfold zau; rw [if_neg (by omega)]; exact c.symm
  . obtain ⟨z0, z1, z2, z3, z4, z5, z6⟩ := zn9 hh k1
    refine ⟨by rw [z6], ext q1 q2 q3 q4 ?_ ?_ ?_ ?_ ?_ ?_ ?_ ?_⟩
    . show ((zai (text m)).2 : Int) = m.shard; rw [z1]; simp only []; omega
    . show ((zae (text m)).2 : Int) = m.number; rw [z2]; simp only []; omega
    . show (stIs (text m)).2 = m.is; rw [z5]
    . show recOf (text m) = m.reco; unfold recOf; rw [if_neg (by omega)]; exact r.symm
    . show entOf vd (text m) = m.ent; unfold entOf; rw [if_neg (by omega)]; exact e.symm
    . show ((zaf (text m)).2 : Int) = m.ballot; rw [z3]; simp only []; omega
    . show ((stOld (text m)).2 : Int) = m.old; rw [z4]; simp only []; omega
    . show zau (text m) = m.conf; unfold zau; rw [if_neg (by omega)]; exact c.symm
 | five k1 b o i s n r e c =>
  obtain ⟨z0, z1, z2, z3, z4, z5, z6⟩ := zn8 hh k1
  refine ⟨by rw [z6], ext q1 q2 q3 q4 ?_ ?_ ?_ ?_ ?_ ?_ ?_ ?_⟩
  . show ((zai (text m)).2 : Int) = m.shard; rw [z1]; simp only []; omega
  . show ((zae (text m)).2 : Int) = m.number; rw [z2]; simp only []; omega
  . show (stIs (text m)).2 = m.is; rw [z5]; exact i.symm
  . show recOf (text m) = m.reco; unfold recOf; rw [if_neg (by omega)]; exact r.symm
  . show entOf vd (text m) = m.ent; unfold entOf; rw [if_neg (by omega)]; exact e.symm
  . show ((zaf (text m)).2 : Int) = m.ballot; rw [z3]; simp only []; omega
  . show ((stOld (text m)).2 : Int) = m.old; rw [z4]; simp only []; omega
  . show zau (text m) = m.conf; unfold zau; rw [if_neg (by omega)]; exact c.symm
 | seven k1 b o i s n r e c =>
  obtain ⟨z0, z1, z2, z3, z4, z5, z6⟩ := zpl hh k1 b
  refine ⟨by rw [z6], ext q1 q2 q3 q4 ?_ ?_ ?_ ?_ ?_ ?_ ?_ ?_⟩
  . show ((zai (text m)).2 : Int) = m.shard; rw [z1]; simp only []; omega
  . show ((zae (text m)).2 : Int) = m.number; rw [z2]; simp only []; omega
  . show (stIs (text m)).2 = m.is; rw [z5]; exact i.symm
  . show recOf (text m) = m.reco; unfold recOf; rw [if_neg (by omega)]; exact r.symm
  . show entOf vd (text m) = m.ent; unfold entOf; rw [if_neg (by omega)]; exact e.symm
  . show ((zaf (text m)).2 : Int) = m.ballot; rw [z3]; simp only []; omega
  . show ((stOld (text m)).2 : Int) = m.old; rw [z4]; simp only []; omega
  . show zau (text m) = m.conf; unfold zau; rw [if_neg (by omega)]; exact c.symm
 | eight0 k1 b o i s n r e c =>
  obtain ⟨z0, z1, z2, z3, z4, z5, z6⟩ := zkc hh k1 o b
  refine ⟨by rw [z6], ext q1 q2 q3 q4 ?_ ?_ ?_ ?_ ?_ ?_ ?_ ?_⟩
  . show ((zai (text m)).2 : Int) = m.shard; rw [z1]; simp only []; omega
  . show ((zae (text m)).2 : Int) = m.number; rw [z2]; simp only []; omega
  . show (stIs (text m)).2 = m.is; rw [z5]; exact i.symm
  . show recOf (text m) = m.reco; unfold recOf; rw [if_neg (by omega)]; exact r.symm
  . show entOf vd (text m) = m.ent; unfold entOf; rw [if_neg (by omega)]; exact e.symm
  . show ((zaf (text m)).2 : Int) = m.ballot; rw [z3]; simp only []; omega
  . show ((stOld (text m)).2 : Int) = m.old; rw [z4]; simp only []; omega
  . show zau (text m) = m.conf; unfold zau; rw [if_neg (by rw [z4]; show ¬ (k (text m) = 9 \/ (k (text m) = 8 /\ m.old.toNat ≠ 0)); omega)]; exact c.symm
 | eight k1 b o i s n r e c t =>
  obtain ⟨z0, z1, z2, z3, z4, z5, z6⟩ := zn7 hh k1 c o b
  refine ⟨by rw [z6], ext q1 q2 q3 q4 ?_ ?_ ?_ ?_ ?_ ?_ ?_ ?_⟩
  . show ((zai (text m)).2 : Int) = m.shard; rw [z1]; simp only []; omega
  . show ((zae (text m)).2 : Int) = m.number; rw [z2]; simp only []; omega
  . show (stIs (text m)).2 = m.is; rw [z5]; exact i.symm
  . show recOf (text m) = m.reco; unfold recOf; rw [if_neg (by omega)]; exact r.symm
  . show entOf vd (text m) = m.ent; unfold entOf; rw [if_neg (by omega)]; exact e.symm
  . show ((zaf (text m)).2 : Int) = m.ballot; rw [z3]; simp only []; omega
  . show ((stOld (text m)).2 : Int) = m.old; rw [z4]; simp only []; omega
  . show zau (text m) = m.conf; unfold zau; rw [if_pos (.inr ⟨z0, by rw [z4]; show m.old.toNat ≠ 0; omega⟩), z6]; simp only []; rw [Term.dec_enc c]; rfl
 | nine k1 b o i s n r e c t =>
  obtain ⟨z0, z1, z2, z3, z4, z5, z6⟩ := zph hh k1 c b
  refine ⟨by rw [z6], ext q1 q2 q3 q4 ?_ ?_ ?_ ?_ ?_ ?_ ?_ ?_⟩
  . show ((zai (text m)).2 : Int) = m.shard; rw [z1]; simp only []; omega
  . show ((zae (text m)).2 : Int) = m.number; rw [z2]; simp only []; omega
  . show (stIs (text m)).2 = m.is; rw [z5]; exact i.symm
  . show recOf (text m) = m.reco; unfold recOf; rw [if_neg (by omega)]; exact r.symm
  . show entOf vd (text m) = m.ent; unfold entOf; rw [if_neg (by omega)]; exact e.symm
  . show ((zaf (text m)).2 : Int) = m.ballot; rw [z3]; simp only []; omega
  . show ((stOld (text m)).2 : Int) = m.old; rw [z4]; simp only []; omega
  . show zau (text m) = m.conf; unfold zau; rw [if_pos (.inl z0), z6]; simp only []; rw [Term.dec_enc c]; rfl
 | ten k1 b o s n r e c =>
  obtain ⟨z0, z1, z2, z3, z4, z5, z6⟩ := zkz hh k1 b
  refine ⟨by rw [z6], ext q1 q2 q3 q4 ?_ ?_ ?_ ?_ ?_ ?_ ?_ ?_⟩
  . show ((zai (text m)).2 : Int) = m.shard; rw [z1]; simp only []; omega
  . show ((zae (text m)).2 : Int) = m.number; rw [z2]; simp only []; omega
  . show (stIs (text m)).2 = m.is; rw [z5]
  . show recOf (text m) = m.reco; unfold recOf; rw [if_neg (by omega)]; exact r.symm
  . show entOf vd (text m) = m.ent; unfold entOf; rw [if_neg (by omega)]; exact e.symm
  . show ((zaf (text m)).2 : Int) = m.ballot; rw [z3]; simp only []; omega
  . show ((stOld (text m)).2 : Int) = m.old; rw [z4]; simp only []; omega
  . show zau (text m) = m.conf; unfold zau; rw [if_neg (by omega)]; exact c.symm
def dec (vd : List UInt8 -> List Int) (b : List UInt8) : Option M := match Crc.cutOf b with
 | none => none
 | some l => if ((zal l).1.done == 0) && (right (read vd l) && (enc (read vd l) == b)) then some (read vd l) else none
theorem dec_enc {vd : List UInt8 -> List Int} (hv : ∀ v, Vec.right v = true -> vd (Ent.vecBytes v) = v) {m : M} (h : right m = true) : dec vd (enc m) = some m := by
 unfold dec
 rw [show Crc.cutOf (enc m) = some (text m) from Crc.cut_put _]
 obtain ⟨h1, h2⟩ := zbl hv h
 simp only [h1, h2, h, beq_self_eq_true, Bool.and_self, Bool.and_true]
 rfl
theorem enc_dec {vd : List UInt8 -> List Int} {b : List UInt8} {m : M} (h : dec vd b = some m) : right m = true /\ enc m = b := by
 unfold dec at h
 split at h
 . cases h
 . split at h
   . rename_i hok
     injection h with h
     rw [Bool.and_eq_true, Bool.and_eq_true, beq_iff_eq, beq_iff_eq] at hok
     subst h
     exact hok.2
   . cases h
theorem dec_iff {vd : List UInt8 -> List Int} (hv : ∀ v, Vec.right v = true -> vd (Ent.vecBytes v) = v) {b : List UInt8} {m : M} : dec vd b = some m ↔ right m = true /\ enc m = b :=
 ⟨enc_dec, fun h => by rw [<- h.2]; exact dec_enc hv h.1⟩
theorem zde {n : Int} (h : n <= 1099511627776) : (num n).length <= 9 := Pack.num_nine (by omega)
theorem zef {l : List UInt8} (h : l.length <= 65536) : (textOf l).length <= 9 + l.length := by
 have := Pack.num_nine (n := l.length) (by omega)
 unfold textOf
 rw [List.length_append]
 omega
theorem zpy (b : Bool) : (zas b).length = 1 := by cases b <;> rfl
theorem enc_le {m : M} (h : right m = true) : (enc m).length <= 1203 := by
  obtain ⟨hh, hi⟩ := zff h
  obtain ⟨h1, h2, h3, h4, h5⟩ := za5 hh
  have hk := kind_in h
  have n1 := zde (n := m.kind) (by omega)
  have n2 := zde (n := m.src) (by omega)
  have n3 := zde (n := m.dst) (by omega)
  have n4 := zde (n := m.term) (by omega)
  have n5 := zde (n := m.shard) (by omega)
  have n6 := zde (n := m.number) (by omega)
  have n7 := zpy m.is
  have hp : (parts m).length <= 1163 := by
    unfold parts
    cases hi with
    | one k1 b o i r e c =>
      have l1 := Rec.enc_le r
      have l2 := zef (l := Rec.enc m.reco) (by omega)
      rw [if_pos k1]; simp only [List.length_append]; omega
    | two k1 => rw [if_neg (by omega), if_pos k1, List.length_append]; omega
    | three k1 b o i s n r e c =>
      have l1 := Ent.enc_le e
      have l2 := zef (l := Ent.enc m.ent) (by omega)
      rw [if_neg (by omega), if_neg (by omega), if_pos k1]; omega
    | four k1 => rw [if_neg (by omega), if_neg (by omega), if_neg (by omega), if_pos k1, List.length_append]; omega
    | five k1 => iterate 8 rw [if_neg (by omega)]
                 simp
    | seven k1 b =>
      have l1 := zde (n := m.ballot) (by omega)
      iterate 4 rw [if_neg (by omega)]
      rw [if_pos k1]; omega
    | eight0 k1 b o =>
      have l1 := zde (n := m.ballot) (by omega)
      iterate 5 rw [if_neg (by omega)]
      rw [if_pos k1, if_pos o, List.length_append]; simp only [List.length_cons, List.length_nil]; omega
    | eight k1 b o i s n r e c t =>
      have l0 := zde (n := m.ballot) (by omega)
      have l3 := zde (n := m.old) (by omega)
      have l1 := Term.enc_le c
      have l2 := zef (l := Term.enc m.conf) (by omega)
      iterate 5 rw [if_neg (by omega)]
      rw [if_pos k1, if_neg (by omega)]; simp only [List.length_append]; omega
    | nine k1 b o i s n r e c t =>
      have l0 := zde (n := m.ballot) (by omega)
      have l1 := Term.enc_le c
      have l2 := zef (l := Term.enc m.conf) (by omega)
      iterate 6 rw [if_neg (by omega)]
      rw [if_pos k1]; simp only [List.length_append]; omega
    | ten k1 b =>
      have l1 := zde (n := m.ballot) (by omega)
      iterate 7 rw [if_neg (by omega)]
      rw [if_pos k1]; simp only [List.length_append]; omega
  unfold enc text
  simp only [List.length_append, Crc.low_length]
  omega
end Go.Proofs.YtnoeconcpgdjlaaGreat.Msg
namespace Go.Proofs.YtnoeconcpgdjlaaGreat.Quo
open Ent (E)
structure Pr where
 c : Term.C
 l : List E
 f : Int -> Int
 is : Bool
def ztf (n : Int) : List Int := if 1 <= n /\ n <= 8 then List.replicate n.toNat 0 else []
def Pr.last (p : Pr) (z : List Int) : List Int := Ent.lastOf p.l z
def Pr.at_ (p : Pr) (e : E) : E := ⟨(p.l.length : Int) + 1, e.kind, e.cut, e.tag, e.term, e.pos⟩
def Pr.err (p : Pr) (e : E) (may : Bool) : Int := if p.is = true then 120 else if Ent.right (p.at_ e) = false \/ may = false then 1 else if p.l.length = 512 then 121 else 0
def Pr.next (p : Pr) (e : E) (may : Bool) : Pr := if p.err e may = 0 then ⟨p.c, p.l ++ [p.at_ e], p.f, p.is⟩ else p
def Pr.made (p : Pr) (e : E) (may : Bool) : E := if p.err e may = 0 then p.at_ e else Msg.ent0
def cutE (v : List Int) : E := ⟨0, 1, v, 0, 0, 0⟩
def Pr.mayCut (p : Pr) (z v : List Int) : Bool := Vec.covers v (p.last z) && !Vec.same v (p.last z)
def Pr.hears (p : Pr) (m : Msg.M) : Bool := decide (m.src ∈ p.c.seqs /\ (m.kind = 4 \/ m.kind = 6) /\ m.term = p.c.term /\ m.number <= (p.l.length : Int)) && Msg.right m
def upd (f : Int -> Int) (n k : Int) : Int -> Int := fun x => if x = n then max (f x) k else f x
def Pr.hear (p : Pr) (m : Msg.M) : Pr := if p.hears m = true then ⟨p.c, p.l, upd p.f m.src m.number, p.is || m.is⟩ else p
def Pr.committed (p : Pr) : Int := Vec.quorumNum (p.c.seqs.map p.f) (Term.majority p.c)
def Pr.missing (p : Pr) (n : Int) : List E := if n ∈ p.c.seqs then p.l.drop (p.f n).toNat else []
structure Pr.Ok (p : Pr) : Prop where
 right : Term.right p.c = true
 chain : Ent.isChain p.l
 f0 : ∀ x, 0 <= p.f x
 fle : ∀ x, p.f x <= (p.l.length : Int)
 max : p.l.length <= 512
def new (c : Term.C) : Pr := ⟨c, [], fun _ => 0, false⟩
theorem new_ok {c : Term.C} (h : Term.right c = true) : (new c).Ok := ⟨h, rfl, fun _ => Int.le_refl _, fun _ => Int.le_refl _, Nat.zero_le _⟩
theorem zld {p : Pr} {e : E} {may : Bool} (h : p.err e may = 0) : p.is = false /\ Ent.right (p.at_ e) = true /\ may = true /\ p.l.length ≠ 512 := by
 unfold Pr.err at h
 split at h
 . cases h
 . next h1 =>
   split at h
   . cases h
   . next h2 =>
     split at h
     . cases h
     . next h3 =>
       refine ⟨by simpa using h1, ?_, ?_, h3⟩
       . cases hr : Ent.right (p.at_ e) with
         | true => rfl
         | false => exact absurd (.inl hr) h2
       . cases may with
         | true => rfl
         | false => exact absurd (.inr rfl) h2
theorem zjb {p : Pr} {e : E} {may : Bool} (h : p.err e may ≠ 0) : p.next e may = p := by unfold Pr.next; rw [if_neg h]
def Fits (p : Pr) (e : E) (may : Bool) : Prop := may = true -> e.kind = 1 -> Ent.coversLast (Ent.lastCut p.l) e.cut = true
theorem zit {p : Pr} {e : E} {may : Bool} (h : p.err e may = 0) (hf : Fits p e may) : Ent.follows p.l (p.at_ e) = true := by
 obtain ⟨_, h2, h3, _⟩ := zld h
 exact (Ent.follows_iff _ _).2 ⟨h2, rfl, fun hk => hf h3 hk⟩
theorem Pr.Ok.next {p : Pr} (h : p.Ok) {e : E} {may : Bool} (hf : Fits p e may) : (p.next e may).Ok := by
 unfold Pr.next
 split
 . next he =>
   obtain ⟨_, _, _, h4⟩ := zld he
   have hm := h.max
   refine ⟨h.right, ?_, h.f0, fun x => ?_, ?_⟩
   . show Ent.isChain (p.l ++ [p.at_ e])
     have hc := h.chain
     unfold Ent.isChain at hc ⊢
     rw [Ent.chain_snoc, if_pos hc, if_pos (zit he hf)]
     simp
   . have := h.fle x
     show p.f x <= ((p.l ++ [p.at_ e]).length : Int)
     simp only [List.length_append, List.length_cons, List.length_nil]
     omega
   . show (p.l ++ [p.at_ e]).length <= 512
     simp only [List.length_append, List.length_cons, List.length_nil]
     omega
 . exact h
theorem zk4 {p : Pr} (h : p.Ok) {z v : List Int} (hm : p.mayCut z v = true) : Ent.coversLast (Ent.lastCut p.l) v = true := by
 unfold Pr.mayCut Pr.last at hm
 rw [Ent.lastOf_chain h.chain] at hm
 cases hc : Ent.lastCut p.l with
 | none => rfl
 | some c =>
  rw [hc] at hm
  simp only [Bool.and_eq_true] at hm
  exact hm.1
theorem fits_cut {p : Pr} (h : p.Ok) (z v : List Int) : Fits p (cutE v) (p.mayCut z v) := fun hm _ => zk4 h hm
theorem Pr.Ok.hear {p : Pr} (h : p.Ok) (m : Msg.M) : (p.hear m).Ok := by
 unfold Pr.hear
 split
 . next hh =>
   unfold Pr.hears at hh
   simp only [Bool.and_eq_true, decide_eq_true_eq] at hh
   refine ⟨h.right, h.chain, fun x => ?_, fun x => ?_, h.max⟩
   . show 0 <= upd p.f m.src m.number x
     have := h.f0 x
     unfold upd
     split <;> omega
   . show upd p.f m.src m.number x <= (p.l.length : Int)
     have := h.fle x
     unfold upd
     split <;> omega
 . exact h
theorem maj_in {c : Term.C} (h : Term.right c = true) : 1 <= Term.majority c /\ Term.majority c <= c.seqs.length := by
 have h4 := (Term.right_ok h).2.2.2.1
 unfold Term.majority
 omega
theorem zdj {p : Pr} (h : p.Ok) : Vec.IsQuorum (p.c.seqs.map p.f) (Term.majority p.c) p.committed := by
 have hm := maj_in h.right
 refine Vec.quorum_is (fun x hx => ?_) (by omega) (by rw [List.length_map]; omega)
 obtain ⟨y, _, rfl⟩ := List.mem_map.1 hx
 exact h.f0 y
theorem committed_le {p : Pr} (h : p.Ok) : 0 <= p.committed /\ p.committed <= (p.l.length : Int) := by
 have hq := zdj h
 refine ⟨hq.1, ?_⟩
 have hm := maj_in h.right
 obtain ⟨x, hx, hle, _⟩ := Vec.many_member (by omega) hq.2.1
 obtain ⟨y, _, rfl⟩ := List.mem_map.1 hx
 have := h.fle y
 omega
theorem zl5 (p : Pr) (e : E) (may : Bool) : (p.next e may).c = p.c /\ (p.next e may).f = p.f /\ (p.next e may).is = p.is /\ p.l.length <= (p.next e may).l.length := by
 unfold Pr.next
 split
 . exact ⟨rfl, rfl, rfl, by simp⟩
 . exact ⟨rfl, rfl, rfl, Nat.le_refl _⟩
theorem hear_keeps (p : Pr) (m : Msg.M) : (p.hear m).c = p.c /\ (p.hear m).l = p.l /\ ∀ x, p.f x <= (p.hear m).f x := by
 unfold Pr.hear
 split
 . refine ⟨rfl, rfl, fun x => ?_⟩
   show p.f x <= upd p.f m.src m.number x
   unfold upd
   split <;> omega
 . exact ⟨rfl, rfl, fun x => Int.le_refl _⟩
structure Op where
 kind : Int
 tag : Int
 v : List Int
 term : Int
 pos : Int
 m : Msg.M
def Pr.z (p : Pr) : List Int := ztf (p.c.shards.length : Int)
theorem chain_number {l : List E} (h : Ent.isChain l) {k : Nat} (hk : k < l.length) : (l[k]).number = (k : Int) + 1 := by
 have h1 : Ent.isChain (l.take (k + 1)) := by
  unfold Ent.isChain at *
  rw [Ent.chain_take, h, List.length_take]
 rw [List.take_succ_eq_append_getElem hk] at h1
 have h2 := ((Ent.follows_iff _ _).1 (Ent.isChain_snoc h1).2).2.1
 rw [List.length_take, Nat.min_eq_left (Nat.le_of_lt hk)] at h2
 exact h2
end Go.Proofs.YtnoeconcpgdjlaaGreat.Quo
