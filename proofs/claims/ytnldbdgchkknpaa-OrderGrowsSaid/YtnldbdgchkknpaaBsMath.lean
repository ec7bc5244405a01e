/-
  Merged: Layer 2, mathematics: numbers as bytes of seven bits; Layer 3, mathematics: vectors; Layer 15, mathematics: where each record stands; Plain mathematics of CRC-32 on natural numbers: the step, the table, that it is linear, that a turned byte is told; Layer 4, mathematics: records as bytes; Layer 5, mathematics: entries as bytes, chains; Layer 5, mathematics: bytes as an entry; Layer 5, mathematics: the last cut by a walk from behind.
-/
import Derived.Below
import Derived.Test.YtnldbdgchkknpaaBsLib

set_option linter.unusedSimpArgs false
set_option linter.unusedVariables false

/- Layer 2, mathematics: numbers as bytes of seven bits; no program. -/
namespace Go.Proofs.Ytnldbdgchkknpaa.Pack

/-- A number's bytes, the lowest seven bits first. -/
def num (n : Nat) : List UInt8 := if n < 128 then [UInt8.ofNat n] else UInt8.ofNat (128 + n % 128) :: num (n / 128)
termination_by n
decreasing_by omega
/-- The number that bytes are. -/
def val : List UInt8 → Nat
  | [] => 0
  | b :: l => b.toNat % 128 + 128 * val l
/-- How many bytes ahead of the first one that is below 128. -/
def lead : List UInt8 → Nat
  | [] => 0
  | b :: l => if b.toNat < 128 then 0 else lead l + 1
/-- What is left, and the first error. -/
structure St where
  left : List UInt8
  err : Int
def St.fail (s : St) (e : Int) : St := ⟨[], if s.err = 0 then e else s.err⟩
/-- Is what is read not as short as can be, or too great? -/
def wrong (s : List UInt8) (most : Int) : Prop := (2 ≤ s.length ∧ s.getLast? = some 0) ∨ 4611686018427387904 < val s ∨ most < (val s : Int)
instance (s : List UInt8) (most : Int) : Decidable (wrong s most) := by unfold wrong; infer_instance
/-- A number is read. -/
def St.num (s : St) (most : Int) : St × Nat :=
  if 9 ≤ lead s.left then (s.fail 21, 0)
  else if s.left.length ≤ lead s.left then (s.fail 20, 0)
  else if wrong (s.left.take (lead s.left + 1)) most then (s.fail 21, 0)
  else (⟨s.left.drop (lead s.left + 1), s.err⟩, val (s.left.take (lead s.left + 1)))
/-- A text is read. -/
def St.text (s : St) (most : Int) : St × List UInt8 :=
  let r := s.num most
  if r.1.left.length < r.2 then (r.1.fail 20, []) else (⟨r.1.left.drop r.2, r.1.err⟩, r.1.left.take r.2)
/-- Whether something is, is read. -/
def St.bool (s : St) : St × Bool :=
  match s.left with
  | [] => (s.fail 20, false)
  | b :: l => if 1 < b.toNat then (s.fail 21, false) else (⟨l, s.err⟩, b == 1)
def St.done (s : St) : Int := if s.left = [] then s.err else 22

/-! Parts, as they are written. -/
structure Part where
  kind : Int
  n : Int
  most : Int
  s : List UInt8
  is : Bool
def Part.bytes (p : Part) : List UInt8 :=
  if p.kind = 0 then (if 0 ≤ p.n ∧ p.n ≤ 4611686018427387904 then num p.n.toNat else [])
  else if p.kind = 1 then (if p.s.length ≤ 65536 then num p.s.length ++ p.s else [])
  else if p.kind = 2 then [if p.is then 1 else 0] else []
/-- What a part is read as. -/
def St.part (s : St) (p : Part) : St × Part :=
  if p.kind = 0 then ((s.num p.most).1, { kind := p.kind, n := (s.num p.most).2, most := p.most, s := [], is := false })
  else if p.kind = 1 then ((s.text p.most).1, { kind := p.kind, n := 0, most := p.most, s := (s.text p.most).2, is := false })
  else if p.kind = 2 then (s.bool.1, { kind := p.kind, n := 0, most := p.most, s := [], is := s.bool.2 })
  else (s, { kind := p.kind, n := 0, most := p.most, s := [], is := false })
def Part.full (p : Part) : Part := { p with most := 4611686018427387904 }
/-- Many parts. -/
def St.parts (s : St) : List Part → St
  | [] => s
  | p :: ps => St.parts (s.part p.full).1 ps
end Go.Proofs.Ytnldbdgchkknpaa.Pack

/- Layer 3, mathematics: vectors; no program. -/
namespace Go.Proofs.Ytnldbdgchkknpaa.Vec

def okOne (x : Int) : Bool := decide (0 ≤ x ∧ x ≤ 1099511627776)
/-- Is a row of numbers a vector? -/
def right (v : List Int) : Bool := v.all okOne && decide (1 ≤ v.length ∧ v.length ≤ 8)
def kind (a b : List Int) : Bool := right a && right b && decide (a.length = b.length)
def big (x y : Int) : Int := if x < y then y else x
def small (x y : Int) : Int := if x < y then x else y
def min (a b : List Int) : List Int := List.zipWith small a b
/-- Is no number of a below that of b? -/
def ge : List Int → List Int → Bool
  | x :: a, y :: b => decide (y ≤ x) && ge a b
  | _, _ => true
def covers (a b : List Int) : Bool := kind a b && ge a b
def same (a b : List Int) : Bool := covers a b && covers b a
def total (v : List Int) : Int := if right v then v.sum else 0
def set (v : List Int) (k : Nat) (n : Int) : List Int := v.set k (big (v.getD k 0) n)

theorem right_ok {v : List Int} (h : right v = true) : (∀ x ∈ v, 0 ≤ x ∧ x ≤ 1099511627776) ∧ 1 ≤ v.length ∧ v.length ≤ 8 := by
  unfold right okOne at h
  simp only [Bool.and_eq_true, List.all_eq_true, decide_eq_true_eq] at h
  exact h
theorem right_of {v : List Int} (h : ∀ x ∈ v, 0 ≤ x ∧ x ≤ 1099511627776) (h1 : 1 ≤ v.length) (h8 : v.length ≤ 8) : right v = true := by
  unfold right okOne
  simp only [Bool.and_eq_true, List.all_eq_true, decide_eq_true_eq]
  exact ⟨h, h1, h8⟩
theorem kind_ok {a b : List Int} (h : kind a b = true) : right a = true ∧ right b = true ∧ a.length = b.length := by
  unfold kind at h
  simp only [Bool.and_eq_true, decide_eq_true_eq] at h
  exact ⟨h.1.1, h.1.2, h.2⟩
theorem ge_iff : ∀ (a b : List Int), a.length = b.length → (ge a b = true ↔ ∀ i (h : i < a.length) (h' : i < b.length), b[i] ≤ a[i]) := by
  intro a
  induction a with
  | nil => intro b h; simp [ge]
  | cons x a ih =>
    intro b h
    cases b with
    | nil => simp at h
    | cons y b =>
      simp only [List.length_cons, Nat.add_right_cancel_iff] at h
      simp only [ge, Bool.and_eq_true, decide_eq_true_eq, ih b h]
      constructor
      · rintro ⟨h1, h2⟩ i hi hi'
        cases i with
        | zero => exact h1
        | succ i => exact h2 i (by simpa using hi) (by simpa using hi')
      · intro h1
        refine ⟨h1 0 (by simp) (by simp), fun i hi hi' => ?_⟩
        have := h1 (i + 1) (by simpa using hi) (by simpa using hi')
        simpa using this
theorem sum_bound : ∀ (v : List Int), (∀ x ∈ v, 0 ≤ x ∧ x ≤ 1099511627776) → 0 ≤ v.sum ∧ v.sum ≤ 1099511627776 * v.length := by
  intro v
  induction v with
  | nil => intro _; simp
  | cons x v ih =>
    intro h
    have h1 := h x (by simp)
    have h2 := ih (fun y hy => h y (by simp [hy]))
    simp only [List.sum_cons, List.length_cons]
    omega
/-! What so many have. -/
end Go.Proofs.Ytnldbdgchkknpaa.Vec

/- Layer 15, mathematics: where each record stands; no program. -/
namespace Go.Proofs.Ytnldbdgchkknpaa.Ord

/-- Is no number of a above that of b, where both have as many? -/
def Le (a b : List Int) : Prop := a.length = b.length ∧ ∀ s (h : s < a.length) (h' : s < b.length), a[s] ≤ b[s]
def Up : List Int → List (List Int) → Prop
  | _, [] => True
  | a, b :: bs => Le a b ∧ Up b bs
def blkS (s : Nat) (a b : Int) : List (Int × Int) := (List.range (b - a).toNat).map fun (j : Nat) => ((s : Int), a + (j : Int))
def blk : Nat → List Int → List Int → List (Int × Int)
  | s, x :: a, y :: b => blkS s x y ++ blk (s + 1) a b
  | _, _, _ => []
def row : List Int → List (List Int) → List (Int × Int)
  | _, [] => []
  | a, b :: bs => blk 0 a b ++ row b bs
/-- How many of b are ahead of its number t, beyond those of a. -/
def ahead (a b : List Int) (t : Nat) : Int := (b.take t).sum - (a.take t).sum

theorem Le.tail {x y : Int} {a b : List Int} (h : Le (x :: a) (y :: b)) : x ≤ y ∧ Le a b := by
  refine ⟨h.2 0 (by simp) (by simp), ⟨by simpa using h.1, fun s h1 h2 => ?_⟩⟩
  have := h.2 (s + 1) (by simpa using h1) (by simpa using h2)
  simpa using this
theorem Le.refl (a : List Int) : Le a a := ⟨rfl, fun _ _ _ => Int.le_refl _⟩
theorem Le.trans {a b c : List Int} (h : Le a b) (k : Le b c) : Le a c := ⟨h.1.trans k.1, fun s h1 h2 => Int.le_trans (h.2 s h1 (by have := h.1; omega)) (k.2 s (by have := h.1; omega) h2)⟩
theorem Le.sum : ∀ {a b : List Int}, Le a b → a.sum ≤ b.sum := by
  intro a
  induction a with
  | nil => intro b h; cases b with | nil => exact Int.le_refl _ | cons y b => exact absurd h.1 (by simp)
  | cons x a ih =>
    intro b h
    cases b with
    | nil => exact absurd h.1 (by simp)
    | cons y b =>
      have h1 := h.tail
      have h2 := ih h1.2
      simp only [List.sum_cons]
      omega
theorem Le.take {a b : List Int} (h : Le a b) (t : Nat) : Le (a.take t) (b.take t) := by
  refine ⟨by simp [h.1], fun s h1 h2 => ?_⟩
  simp only [List.getElem_take]
  exact h.2 s _ _
theorem ahead_zero (a b : List Int) : ahead a b 0 = 0 := by simp [ahead]
theorem ahead_succ {a b : List Int} (t : Nat) (h : t < a.length) (h' : t < b.length) : ahead a b (t + 1) = ahead a b t + (b[t] - a[t]) := by
  unfold ahead
  rw [List.take_succ_eq_append_getElem h, List.take_succ_eq_append_getElem h', List.sum_append, List.sum_append]
  simp
  omega
theorem ahead_all {a b : List Int} (h : a.length = b.length) : ahead a b a.length = b.sum - a.sum := by
  unfold ahead
  rw [List.take_length, h, List.take_length]
theorem ahead_pos {a b : List Int} (h : Le a b) (t : Nat) : 0 ≤ ahead a b t := by
  have := (h.take t).sum
  unfold ahead
  omega
theorem ahead_cons (x y : Int) (a b : List Int) (t : Nat) : ahead (x :: a) (y :: b) (t + 1) = (y - x) + ahead a b t := by
  unfold ahead
  simp only [List.take_succ_cons, List.sum_cons]
  omega
theorem blkS_length (s : Nat) (a b : Int) : (blkS s a b).length = (b - a).toNat := by simp [blkS]
theorem blkS_get (s : Nat) (a b : Int) (j : Nat) (h : (j : Int) < b - a) : (blkS s a b)[j]? = some ((s : Int), a + (j : Int)) := by
  unfold blkS
  rw [List.getElem?_map, List.getElem?_range (by omega)]
  rfl
theorem blk_length : ∀ (s : Nat) {a b : List Int}, Le a b → ((blk s a b).length : Int) = b.sum - a.sum := by
  intro s a
  induction a generalizing s with
  | nil => intro b h; cases b with | nil => simp [blk] | cons y b => exact absurd h.1 (by simp)
  | cons x a ih =>
    intro b h
    cases b with
    | nil => exact absurd h.1 (by simp)
    | cons y b =>
      have h1 := h.tail
      have h2 := ih (s + 1) h1.2
      simp only [blk, List.length_append, blkS_length, List.sum_cons]
      omega
theorem blk_get : ∀ (s : Nat) {a b : List Int}, Le a b → ∀ t (h : t < a.length) (h' : t < b.length) (j k : Nat), (j : Int) < b[t] - a[t] → (k : Int) = ahead a b t + j → (blk s a b)[k]? = some (((s + t : Nat) : Int), a[t] + (j : Int)) := by
  intro s a
  induction a generalizing s with
  | nil => intro b _ t h; exact absurd h (by simp)
  | cons x a ih =>
    intro b hle
    cases b with
    | nil => exact absurd hle.1 (by simp)
    | cons y b =>
      have h1 := hle.tail
      intro t h h' j k hj hk
      cases t with
      | zero =>
        rw [ahead_zero] at hk
        obtain rfl : k = j := by omega
        simp only [List.getElem_cons_zero] at hj ⊢
        simp only [blk]
        rw [List.getElem?_append_left (by rw [blkS_length]; omega), blkS_get s x y k hj]
        rfl
      | succ t =>
        rw [ahead_cons] at hk
        have h2 := ahead_pos h1.2 t
        simp only [List.getElem_cons_succ] at hj ⊢
        simp only [blk]
        rw [List.getElem?_append_right (by rw [blkS_length]; omega), blkS_length]
        rw [ih (s + 1) h1.2 t (by simpa using h) (by simpa using h') j (k - (y - x).toNat) hj (by omega)]
        congr 3
        omega
theorem row_length : ∀ (bs : List (List Int)) (a : List Int), Up a bs → ((row a bs).length : Int) = ((a :: bs).getLast (by simp)).sum - a.sum := by
  intro bs
  induction bs with
  | nil => intro a _; simp [row]
  | cons b bs ih =>
    intro a h
    have h1 := ih b h.2
    have h2 := blk_length 0 h.1
    simp only [row, List.length_append, List.getLast_cons_cons]
    omega
theorem row_get : ∀ (bs : List (List Int)) (a : List Int), Up a bs → ∀ n (h : n < bs.length) (i k : Nat), (i : Int) = ((a :: bs)[n]'(by simp; omega)).sum - a.sum + k → (k : Int) < bs[n].sum - ((a :: bs)[n]'(by simp; omega)).sum → (row a bs)[i]? = (blk 0 ((a :: bs)[n]'(by simp; omega)) bs[n])[k]? := by
  intro bs
  induction bs with
  | nil => intro a _ n h; exact absurd h (by simp)
  | cons b bs ih =>
    intro a hU n h i k hi hk
    have h2 := blk_length 0 hU.1
    cases n with
    | zero =>
      simp only [List.getElem_cons_zero] at hi hk ⊢
      obtain rfl : i = k := by omega
      simp only [row]
      rw [List.getElem?_append_left (by omega)]
    | succ n =>
      simp only [List.getElem_cons_succ] at hi hk ⊢
      have hb : b.sum ≤ ((b :: bs)[n]'(by simp at h ⊢; omega)).sum := by
        have : ∀ (bs : List (List Int)) (b : List Int), Up b bs → ∀ n (h : n < (b :: bs).length), b.sum ≤ ((b :: bs)[n]).sum := by
          intro bs
          induction bs with
          | nil => intro b _ n h; obtain rfl : n = 0 := by simpa using h
                   exact Int.le_refl _
          | cons c bs ih =>
            intro b hU n h
            cases n with
            | zero => exact Int.le_refl _
            | succ n => exact Int.le_trans hU.1.sum (ih c hU.2 n (by simpa using h))
        exact this bs b hU.2 n _
      simp only [row]
      rw [List.getElem?_append_right (by omega)]
      exact ih b hU.2 n (by simpa using h) (i - (blk 0 a b).length) k (by omega) hk
theorem row_append : ∀ (bs ds : List (List Int)) (a : List Int), row a (bs ++ ds) = row a bs ++ row ((a :: bs).getLast (by simp)) ds := by
  intro bs
  induction bs with
  | nil => intro ds a; simp [row]
  | cons b bs ih => intro ds a; simp only [List.cons_append, row, ih, List.append_assoc, List.getLast_cons_cons]
theorem blkS_self (s : Nat) (x : Int) : blkS s x x = [] := by simp [blkS]
theorem blk_self : ∀ (a : List Int) (s : Nat), blk s a a = [] := by
  intro a
  induction a with
  | nil => intro s; rfl
  | cons x a ih => intro s; simp [blk, blkS_self, ih]
theorem Up.le : ∀ (bs : List (List Int)) (a : List Int), Up a bs → ∀ i j (hi : i < (a :: bs).length) (hj : j < (a :: bs).length), i ≤ j → Le (a :: bs)[i] (a :: bs)[j] := by
  intro bs
  induction bs with
  | nil =>
    intro a _ i j hi hj _
    obtain rfl : i = 0 := by simpa using hi
    obtain rfl : j = 0 := by simpa using hj
    exact Le.refl _
  | cons b bs ih =>
    intro a hU i j hi hj hij
    cases j with
    | zero =>
      obtain rfl : i = 0 := by omega
      exact Le.refl _
    | succ j =>
      cases i with
      | zero => exact hU.1.trans (ih b hU.2 0 j (by simp) (by simpa using hj) (by omega))
      | succ i => exact ih b hU.2 i j (by simpa using hi) (by simpa using hj) (by omega)
theorem Up.snoc : ∀ (bs : List (List Int)) (a c : List Int), Up a bs → Le ((a :: bs).getLast (by simp)) c → Up a (bs ++ [c]) := by
  intro bs
  induction bs with
  | nil => intro a c _ h; exact ⟨h, trivial⟩
  | cons b bs ih => intro a c hU h; exact ⟨hU.1, ih b c hU.2 (by simpa using h)⟩
/-- Between what is too low and what is too high there is where it goes over. -/
theorem over (f : Nat → Int) (i : Int) : ∀ m, f 0 ≤ i → i < f m → ∃ n, n < m ∧ f n ≤ i ∧ i < f (n + 1) := by
  intro m
  induction m with
  | zero => intro h1 h2; omega
  | succ m ih =>
    intro h1 h2
    rcases Int.lt_or_le i (f m) with h | h
    · obtain ⟨n, q1, q2, q3⟩ := ih h1 h
      exact ⟨n, by omega, q2, q3⟩
    · exact ⟨m, by omega, h, h2⟩

/-- What an order is: for each number of entries its cut. -/
structure Ok (sh : Nat) (cs : List (List Int)) : Prop where
  ex : ∃ bs, cs = List.replicate sh 0 :: bs ∧ Up (List.replicate sh 0) bs
  right : ∀ c ∈ cs, Vec.right c = true
  most : ∀ c ∈ cs, c.sum ≤ 1000000
def rows (cs : List (List Int)) : List (Int × Int) := row (cs.headD []) cs.tail
def last (cs : List (List Int)) : List Int := cs.getLastD []

namespace Ok
variable {sh : Nat} {cs : List (List Int)}
theorem pos (h : Ok sh cs) : 0 < cs.length := by
  obtain ⟨bs, rfl, _⟩ := h.ex
  simp
theorem first (h : Ok sh cs) : cs[0]'h.pos = List.replicate sh 0 := by
  obtain ⟨bs, e, _⟩ := h.ex
  simp only [e, List.getElem_cons_zero]
theorem le (h : Ok sh cs) (i j : Nat) (hi : i < cs.length) (hj : j < cs.length) (hij : i ≤ j) : Le cs[i] cs[j] := by
  obtain ⟨bs, rfl, hU⟩ := h.ex
  exact Up.le bs _ hU i j hi hj hij
theorem len (h : Ok sh cs) (i : Nat) (hi : i < cs.length) : cs[i].length = sh := by
  have := (h.le 0 i h.pos hi (Nat.zero_le _)).1
  rw [h.first, List.length_replicate] at this
  exact this.symm
theorem total (h : Ok sh cs) (i : Nat) (hi : i < cs.length) : Vec.total cs[i] = cs[i].sum := by
  unfold Vec.total
  rw [if_pos (h.right _ (List.getElem_mem hi))]
theorem zero (h : Ok sh cs) : (cs[0]'h.pos).sum = 0 := by rw [h.first]; simp
theorem last_is (h : Ok sh cs) : last cs = cs[cs.length - 1]'(by have := h.pos; omega) := by
  obtain ⟨bs, rfl, _⟩ := h.ex
  unfold last
  rw [List.getLastD_eq_getLast?, List.getLast?_eq_getElem?, List.getElem?_eq_getElem (by simp)]
  rfl
theorem rows_length (h : Ok sh cs) : ((rows cs).length : Int) = (last cs).sum := by
  rw [h.last_is]
  obtain ⟨bs, rfl, hU⟩ := h.ex
  have h1 := row_length bs _ hU
  have : ((List.replicate sh (0 : Int)).sum) = 0 := by simp
  simp only [rows, List.headD_cons, List.tail_cons]
  rw [h1, this, List.getLast_eq_getElem]
  simp
/-- The record j of those that the entry n + 1 brings of the shard s. -/
theorem get (h : Ok sh cs) (n s : Nat) (hn : n + 1 < cs.length) (hs : s < sh) (i j : Nat) (hi : (i : Int) = cs[n].sum + ahead cs[n] cs[n + 1] s + j)
    (hj : (j : Int) < (cs[n + 1][s]'(by rw [h.len]; exact hs)) - (cs[n][s]'(by rw [h.len]; exact hs))) : (rows cs)[i]? = some ((s : Int), (cs[n][s]'(by rw [h.len]; exact hs)) + (j : Int)) := by
  have hle := h.le n (n + 1) (by omega) hn (by omega)
  have hl1 := h.len n (by omega)
  have hl2 := h.len (n + 1) hn
  have ha := ahead_pos hle s
  have hb := ahead_succ (a := cs[n]) (b := cs[n + 1]) s (by omega) (by omega)
  have hc : ahead cs[n] cs[n + 1] (s + 1) ≤ cs[n + 1].sum - cs[n].sum := by
    have key : ∀ (a b : List Int), Le a b → ∀ t, ahead a b t ≤ b.sum - a.sum := by
      intro a
      induction a with
      | nil => intro b h t; cases b with | nil => simp [ahead] | cons y b => exact absurd h.1 (by simp)
      | cons x a ih =>
        intro b h t
        cases b with
        | nil => exact absurd h.1 (by simp)
        | cons y b =>
          have h1 := h.tail
          cases t with
          | zero => rw [ahead_zero]; have := h.sum; omega
          | succ t => rw [ahead_cons]; have := ih b h1.2 t; simp only [List.sum_cons]; omega
    exact key _ _ hle _
  have hg := blk_get 0 hle s (by omega) (by omega) j (ahead cs[n] cs[n + 1] s + j).toNat hj (by omega)
  have h0 := h.zero
  obtain ⟨bs, rfl, hU⟩ := h.ex
  have e := row_get bs _ hU n (by simpa using hn) i (ahead (List.replicate sh 0 :: bs)[n] (List.replicate sh 0 :: bs)[n + 1] s + j).toNat (by
    have hz : (List.replicate sh (0 : Int)).sum = 0 := by simp
    rw [hz]
    omega) (by simp only [List.getElem_cons_succ] at hc hj hb ha ⊢; omega)
  simp only [rows, List.headD_cons, List.tail_cons]
  rw [e]
  simp only [List.getElem_cons_succ] at hg ⊢
  rw [hg]
  simp
/-- Each record is one of those. -/
theorem parts (h : Ok sh cs) (i : Nat) (hi : i < (rows cs).length) : ∃ (n s j : Nat) (hn : n + 1 < cs.length) (hs : s < sh), (i : Int) = cs[n].sum + ahead cs[n] cs[n + 1] s + j ∧
    (j : Int) < (cs[n + 1][s]'(by rw [h.len]; exact hs)) - (cs[n][s]'(by rw [h.len]; exact hs)) := by
  have h1 := h.rows_length
  rw [h.last_is] at h1
  have h0 := h.zero
  have hp := h.pos
  obtain ⟨n, q1, q2, q3⟩ := over (fun n => (cs.getD n []).sum) i (cs.length - 1) (by simp only [List.getD_eq_getElem?_getD, List.getElem?_eq_getElem hp, Option.getD_some]; omega) (by simp only [List.getD_eq_getElem?_getD, List.getElem?_eq_getElem (show cs.length - 1 < cs.length by omega), Option.getD_some]; omega)
  have hn : n + 1 < cs.length := by omega
  simp only [List.getD_eq_getElem?_getD, List.getElem?_eq_getElem hn, List.getElem?_eq_getElem (show n < cs.length by omega), Option.getD_some] at q2 q3
  have hl1 := h.len n (by omega)
  have hl2 := h.len (n + 1) hn
  have hall := ahead_all (hl1.trans hl2.symm)
  obtain ⟨s, p1, p2, p3⟩ := over (fun s => cs[n].sum + ahead cs[n] cs[n + 1] s) i sh (by simp only [ahead_zero]; omega) (by rw [hl1] at hall; omega)
  have hs := ahead_succ (a := cs[n]) (b := cs[n + 1]) s (by omega) (by omega)
  refine ⟨n, s, ((i : Int) - (cs[n].sum + ahead cs[n] cs[n + 1] s)).toNat, hn, p1, by omega, by omega⟩
theorem one (h : Ok sh cs) (i k : Nat) (p : Int × Int) (hi : (rows cs)[i]? = some p) (hk : (rows cs)[k]? = some p) : i = k := by
  obtain ⟨hi', _⟩ := List.getElem?_eq_some_iff.1 hi
  obtain ⟨hk', _⟩ := List.getElem?_eq_some_iff.1 hk
  obtain ⟨n, s, j, hn, hs, e, hj⟩ := h.parts i hi'
  obtain ⟨n', s', j', hn', hs', e', hj'⟩ := h.parts k hk'
  rw [h.get n s hn hs i j e hj] at hi
  rw [h.get n' s' hn' hs' k j' e' hj'] at hk
  rw [← hk] at hi
  simp only [Option.some.injEq, Prod.mk.injEq] at hi
  obtain rfl : s = s' := by omega
  have e2 := hi.2
  have hnn : n = n' := by
    rcases Nat.lt_trichotomy n n' with q | q | q
    · have := (h.le (n + 1) n' hn (by omega) q).2 s (by rw [h.len]; exact hs) (by rw [h.len]; exact hs)
      omega
    · exact q
    · have := (h.le (n' + 1) n hn' (by omega) q).2 s (by rw [h.len]; exact hs) (by rw [h.len]; exact hs)
      omega
  subst hnn
  omega
end Ok
end Go.Proofs.Ytnldbdgchkknpaa.Ord

/- Plain mathematics of CRC-32 on natural numbers: the step, the table, that it is linear, that a turned byte is told. No program. -/
namespace Go.Proofs.Ytnldbdgchkknpaa.Crc

/-- One bit out. -/
def step (n : Nat) : Nat := if n % 2 = 1 then (n / 2) ^^^ 3988292384 else n / 2
/-- k bits out. -/
def steps : Nat → Nat → Nat
  | 0, n => n
  | k + 1, n => steps k (step n)
/-- One byte more. -/
def byte (n : Nat) (x : UInt8) : Nat := steps 8 (n ^^^ x.toNat)
def run (n : Nat) (l : List UInt8) : Nat := l.foldl byte n
def more (s : Nat) (l : List UInt8) : Nat := 4294967295 - run (4294967295 - s) l
def sum (l : List UInt8) : Nat := more 0 l
def low (n : Nat) : List UInt8 := [UInt8.ofNat n, UInt8.ofNat (n / 256), UInt8.ofNat (n / 65536), UInt8.ofNat (n / 16777216)]

theorem run_append (n : Nat) (a b : List UInt8) : run n (a ++ b) = run (run n a) b := List.foldl_append

/-! The table, filled by halves. -/
/-! Bytes of which one, and perhaps its neighbour, is another one. -/

end Go.Proofs.Ytnldbdgchkknpaa.Crc

/- Layer 4, mathematics: records as bytes; no program. -/
namespace Go.Proofs.Ytnldbdgchkknpaa.Rec

structure R where
  client : Int
  number : Int
  tags : List Int
  data : List UInt8

/-- Do these rise, from above last on, up to 2^30? -/
def rising : Int → List Int → Bool
  | _, [] => true
  | last, t :: l => decide (last < t ∧ t ≤ 1073741824) && rising t l
def okId (n : Int) : Bool := decide (0 ≤ n ∧ n ≤ 1099511627776)
def right (r : R) : Bool := okId r.client && (okId r.number && (rising 0 r.tags && decide (r.tags.length ≤ 8 ∧ r.data.length ≤ 1024)))
/-- Numbers, one behind the other. -/
def numsOf (ns : List Int) : List UInt8 := (ns.map fun n => Pack.num n.toNat).flatten
/-- A record without its sum. -/
def text (r : R) : List UInt8 := Pack.num r.client.toNat ++ (Pack.num r.number.toNat ++ (Pack.num r.tags.length ++ (numsOf r.tags ++ (Pack.num r.data.length ++ r.data))))
def enc (r : R) : List UInt8 := text r ++ Crc.low (Crc.sum (text r))

theorem rising_ok : ∀ (l : List Int) (last : Int), 0 ≤ last → rising last l = true → ∀ x ∈ l, 1 ≤ x ∧ x ≤ 1073741824 := by
  intro l
  induction l with
  | nil => intro _ _ _ x hx; cases hx
  | cons t l ih =>
    intro last h0 h x hx
    simp only [rising, Bool.and_eq_true, decide_eq_true_eq] at h
    rcases List.mem_cons.1 hx with rfl | hx
    · omega
    · exact ih t (by omega) h.2 x hx
theorem right_ok {r : R} (h : right r = true) : (0 ≤ r.client ∧ r.client ≤ 1099511627776) ∧ (0 ≤ r.number ∧ r.number ≤ 1099511627776) ∧ rising 0 r.tags = true ∧ (∀ x ∈ r.tags, 1 ≤ x ∧ x ≤ 1073741824) ∧ r.tags.length ≤ 8 ∧ r.data.length ≤ 1024 := by
  unfold right okId at h
  simp only [Bool.and_eq_true, decide_eq_true_eq] at h
  obtain ⟨h1, h2, h3, h4, h5⟩ := h
  exact ⟨h1, h2, h3, rising_ok _ 0 (by omega) h3, h4, h5⟩

/-! What is read without an error is what is written. -/
/-! Tags. -/
def has (r : R) (tag : Int) : Bool := (tag == 0) || r.tags.any (fun t => t == tag)
def same (a b : R) : Bool := (a.client == b.client) && ((a.number == b.number) && ((a.tags == b.tags) && (a.data == b.data)))
/-! Places. -/
end Go.Proofs.Ytnldbdgchkknpaa.Rec

/- Layer 5, mathematics: entries as bytes, chains; no program. -/
namespace Go.Proofs.Ytnldbdgchkknpaa.Ent

structure E where
  number : Int
  kind : Int
  cut : List Int
  tag : Int
  term : Int
  pos : Int

def rightCut (e : E) : Bool := Vec.right e.cut && decide (e.tag = 0 ∧ e.term = 0 ∧ e.pos = 0)
def rightTrim (e : E) : Bool := e.cut.isEmpty && decide ((0 ≤ e.tag ∧ e.tag ≤ 1073741824) ∧ (1 ≤ e.term ∧ e.term ≤ 64) ∧ 0 ≤ e.pos ∧ e.pos ≤ 1099511627776)
def right (e : E) : Bool := decide (1 ≤ e.number ∧ e.number ≤ 1099511627776) && ((decide (e.kind = 1) && rightCut e) || (decide (e.kind = 2) && rightTrim e))
/-- A vector's bytes. -/
def vecBytes (v : List Int) : List UInt8 := Pack.num v.length ++ Rec.numsOf v
def body (e : E) : List UInt8 := if e.kind = 1 then Pack.num (vecBytes e.cut).length ++ vecBytes e.cut else Pack.num e.tag.toNat ++ (Pack.num e.term.toNat ++ Pack.num e.pos.toNat)
def text (e : E) : List UInt8 := Pack.num e.number.toNat ++ (Pack.num e.kind.toNat ++ body e)
def enc (e : E) : List UInt8 := text e ++ Crc.low (Crc.sum (text e))

theorem right_ok {e : E} (h : right e = true) : (1 ≤ e.number ∧ e.number ≤ 1099511627776) ∧ ((e.kind = 1 ∧ Vec.right e.cut = true ∧ e.tag = 0 ∧ e.term = 0 ∧ e.pos = 0) ∨ (e.kind = 2 ∧ e.cut = [] ∧ (0 ≤ e.tag ∧ e.tag ≤ 1073741824) ∧ (1 ≤ e.term ∧ e.term ≤ 64) ∧ 0 ≤ e.pos ∧ e.pos ≤ 1099511627776)) := by
  unfold right rightCut rightTrim at h
  simp only [Bool.and_eq_true, Bool.or_eq_true, decide_eq_true_eq, List.isEmpty_iff] at h
  obtain ⟨h1, h2⟩ := h
  refine ⟨h1, ?_⟩
  rcases h2 with ⟨k, v, t⟩ | ⟨k, v, t⟩
  · exact .inl ⟨k, v, t.1, t.2.1, t.2.2⟩
  · exact .inr ⟨k, v, t.1, t.2.1, t.2.2⟩
theorem same {a b : E} (h1 : a.number = b.number) (h2 : a.kind = b.kind) (h3 : a.cut = b.cut) (h4 : a.tag = b.tag) (h5 : a.term = b.term) (h6 : a.pos = b.pos) : a = b := by
  cases a
  cases b
  simp only at h1 h2 h3 h4 h5 h6
  subst h1 h2 h3 h4 h5 h6
  rfl
/-! Chains. -/
/-- The last cut. -/
def lastCut (l : List E) : Option (List Int) := l.foldl (fun c e => if e.kind = 1 then some e.cut else c) none
theorem lastCut_snoc (l : List E) (e : E) : lastCut (l ++ [e]) = if e.kind = 1 then some e.cut else lastCut l := by
  unfold lastCut
  rw [List.foldl_append]
  rfl
def coversLast (c : Option (List Int)) (v : List Int) : Bool := match c with
  | none => true
  | some u => Vec.covers v u
/-- May an entry stand behind these? -/
def follows (l : List E) (e : E) : Bool := right e && (decide (e.number = (l.length : Int) + 1) && (!decide (e.kind = 1) || coversLast (lastCut l) e.cut))
def chainFrom : List E → List E → Nat
  | _, [] => 0
  | d, e :: r => if follows d e then chainFrom (d ++ [e]) r + 1 else 0
/-- How many of the first ones are a chain. -/
def chain (l : List E) : Nat := chainFrom [] l
theorem chainFrom_le : ∀ (r d : List E), chainFrom d r ≤ r.length := by
  intro r
  induction r with
  | nil => intro d; exact Nat.le_refl _
  | cons e r ih =>
    intro d
    simp only [chainFrom]
    split
    · have := ih (d ++ [e]); simp only [List.length_cons]; omega
    · omega
theorem chain_le (l : List E) : chain l ≤ l.length := chainFrom_le l []
theorem chainFrom_take : ∀ (r d : List E) (n : Nat), chainFrom d (r.take n) = min n (chainFrom d r) := by
  intro r
  induction r with
  | nil => intro d n; simp [chainFrom]
  | cons e r ih =>
    intro d n
    cases n with
    | zero => simp [chainFrom]
    | succ n =>
      simp only [List.take_succ_cons, chainFrom]
      split
      · rw [ih (d ++ [e]) n]; omega
      · omega
/-- Each beginning of a chain is one. -/
theorem chain_take (l : List E) (n : Nat) : chain (l.take n) = min n (chain l) := chainFrom_take l [] n
theorem chainFrom_snoc : ∀ (r d : List E) (e : E), chainFrom d (r ++ [e]) = if chainFrom d r = r.length then (if follows (d ++ r) e then r.length + 1 else r.length) else chainFrom d r := by
  intro r
  induction r with
  | nil => intro d e; simp [chainFrom]
  | cons x r ih =>
    intro d e
    simp only [List.cons_append, chainFrom, List.length_cons]
    by_cases hf : follows d x = true
    · rw [if_pos hf, if_pos hf, ih (d ++ [x]) e, List.append_assoc]
      simp only [List.cons_append, List.nil_append]
      by_cases hc : chainFrom (d ++ [x]) r = r.length
      · rw [if_pos hc, if_pos (show chainFrom (d ++ [x]) r + 1 = r.length + 1 by omega)]
        by_cases hg : follows (d ++ x :: r) e = true
        · rw [if_pos hg, if_pos hg]
        · rw [if_neg hg, if_neg hg]
      · rw [if_neg hc, if_neg (show ¬ chainFrom (d ++ [x]) r + 1 = r.length + 1 by omega)]
    · rw [if_neg hf, if_neg hf, if_neg (by omega)]
theorem chain_snoc (l : List E) (e : E) : chain (l ++ [e]) = if chain l = l.length then (if follows l e then l.length + 1 else l.length) else chain l := chainFrom_snoc l [] e
/-- Is all of it a chain? -/
def isChain (l : List E) : Prop := chain l = l.length
theorem isChain_snoc {l : List E} {e : E} (h : isChain (l ++ [e])) : isChain l ∧ follows l e = true := by
  unfold isChain at h ⊢
  rw [chain_snoc, List.length_append] at h
  have := chain_le l
  by_cases hc : chain l = l.length
  · rw [if_pos hc] at h
    refine ⟨hc, ?_⟩
    by_cases hf : follows l e = true
    · exact hf
    · rw [if_neg hf] at h; simp at h
  · rw [if_neg hc] at h; simp at h; omega
theorem isChain_take (l : List E) : isChain (l.take (chain l)) := by
  unfold isChain
  rw [chain_take, List.length_take]
  have := chain_le l
  omega
/-! Are two entries the same? -/
end Go.Proofs.Ytnldbdgchkknpaa.Ent

/- Layer 5, mathematics: bytes as an entry; no program. How a vector is read is left open (vd): that it is read back is all that is wanted. -/
namespace Go.Proofs.Ytnldbdgchkknpaa.Ent

def big : Int := 4611686018427387904
end Go.Proofs.Ytnldbdgchkknpaa.Ent

/- Layer 5, mathematics: the last cut by a walk from behind; entries of which none is a cut; no program. -/
namespace Go.Proofs.Ytnldbdgchkknpaa.Ent

theorem follows_iff (d : List E) (e : E) : follows d e = true ↔ right e = true ∧ e.number = (d.length : Int) + 1 ∧ (e.kind = 1 → coversLast (lastCut d) e.cut = true) := by
  unfold follows
  simp only [Bool.and_eq_true, Bool.or_eq_true, Bool.not_eq_true', decide_eq_false_iff_not, decide_eq_true_eq]
  constructor
  · rintro ⟨h1, h2, h3⟩
    exact ⟨h1, h2, fun hk => h3.resolve_left (fun h => h hk)⟩
  · rintro ⟨h1, h2, h3⟩
    refine ⟨h1, h2, ?_⟩
    by_cases hk : e.kind = 1
    · exact .inr (h3 hk)
    · exact .inl hk
/-- Of a chain all are right; the last cut is one of them. -/
theorem isChain_right : ∀ (n : Nat) (l : List E), l.length = n → isChain l → ∀ e ∈ l, right e = true := by
  intro n
  induction n with
  | zero => intro l hl _ e he; rw [List.eq_nil_of_length_eq_zero hl] at he; cases he
  | succ n ih =>
    intro l hl hc e he
    have hne : l ≠ [] := by rintro rfl; simp at hl
    obtain ⟨d, x, rfl⟩ : ∃ d x, l = d ++ [x] := ⟨l.dropLast, l.getLast hne, (List.dropLast_concat_getLast hne).symm⟩
    obtain ⟨hd, hf⟩ := isChain_snoc hc
    rcases List.mem_append.1 he with hm | hm
    · exact ih d (by simpa using hl) hd e hm
    · obtain rfl : e = x := by simpa using hm
      exact ((follows_iff d e).1 hf).1
theorem lastCut_some : ∀ (n : Nat) (l : List E), l.length = n → ∀ c, lastCut l = some c → ∃ e ∈ l, e.kind = 1 ∧ e.cut = c := by
  intro n
  induction n with
  | zero => intro l hl c h; rw [List.eq_nil_of_length_eq_zero hl] at h; cases h
  | succ n ih =>
    intro l hl c h
    have hne : l ≠ [] := by rintro rfl; simp at hl
    obtain ⟨d, x, rfl⟩ : ∃ d x, l = d ++ [x] := ⟨l.dropLast, l.getLast hne, (List.dropLast_concat_getLast hne).symm⟩
    rw [lastCut_snoc] at h
    by_cases hx : x.kind = 1
    · rw [if_pos hx] at h
      injection h with h
      exact ⟨x, by simp, hx, h⟩
    · rw [if_neg hx] at h
      obtain ⟨e, he, h1⟩ := ih d (by simpa using hl) c h
      exact ⟨e, by simp [he], h1⟩
theorem last_right {l : List E} {c : List Int} (h : lastCut (l.take (chain l)) = some c) : Vec.right c = true := by
  obtain ⟨e, he, hk, rfl⟩ := lastCut_some _ _ rfl c h
  rcases (right_ok (isChain_right _ _ rfl (isChain_take l) e he)).2 with ⟨_, hv, _⟩ | ⟨h, _⟩
  · exact hv
  · omega
end Go.Proofs.Ytnldbdgchkknpaa.Ent
