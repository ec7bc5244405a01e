/-
  Merged: Layer 2, mathematics: numbers as bytes of seven bits; Plain mathematics of CRC-32 on natural numbers: the step, the table, that it is linear, that a turned byte is told; Layer 4, mathematics: records as bytes; Layer 3, mathematics: vectors; Layer 5, mathematics: entries as bytes, chains; Layer 5, mathematics: the last cut by a walk from behind; Layer 5, mathematics: bytes as an entry; Layer 6, mathematics: configurations as bytes, what they tell, the next one; Layer 7, mathematics: messages as bytes and back; Layer 12, mathematics: a primary (its entries, how many of them each sequencer is known to have), what is committed.
-/
import Derived.Below
import Derived.Test.YtnoeconcpgdjlaaBsLib

set_option linter.unusedSimpArgs false
set_option linter.unusedVariables false

/- Layer 2, mathematics: numbers as bytes of seven bits; no program. -/
namespace Go.Proofs.Ytnoeconcpgdjlaa.Pack

/-- A number's bytes, the lowest seven bits first. -/
def num (n : Nat) : List UInt8 := if n < 128 then [UInt8.ofNat n] else UInt8.ofNat (128 + n % 128) :: num (n / 128)
termination_by n
decreasing_by omega
/-- The number that bytes are. -/
def val : List UInt8 → Nat
  | [] => 0
  | b :: l => b.toNat % 128 + 128 * val l
/-- How many bytes ahead of the first one that is below 128. -/
def lead : List UInt8 → Nat
  | [] => 0
  | b :: l => if b.toNat < 128 then 0 else lead l + 1
/-- What is left, and the first error. -/
structure St where
  left : List UInt8
  err : Int
def St.fail (s : St) (e : Int) : St := ⟨[], if s.err = 0 then e else s.err⟩
/-- Is what is read not as short as can be, or too great? -/
def wrong (s : List UInt8) (most : Int) : Prop := (2 ≤ s.length ∧ s.getLast? = some 0) ∨ 4611686018427387904 < val s ∨ most < (val s : Int)
instance (s : List UInt8) (most : Int) : Decidable (wrong s most) := by unfold wrong; infer_instance
/-- A number is read. -/
def St.num (s : St) (most : Int) : St × Nat :=
  if 9 ≤ lead s.left then (s.fail 21, 0)
  else if s.left.length ≤ lead s.left then (s.fail 20, 0)
  else if wrong (s.left.take (lead s.left + 1)) most then (s.fail 21, 0)
  else (⟨s.left.drop (lead s.left + 1), s.err⟩, val (s.left.take (lead s.left + 1)))
/-- A text is read. -/
def St.text (s : St) (most : Int) : St × List UInt8 :=
  let r := s.num most
  if r.1.left.length < r.2 then (r.1.fail 20, []) else (⟨r.1.left.drop r.2, r.1.err⟩, r.1.left.take r.2)
/-- Whether something is, is read. -/
def St.bool (s : St) : St × Bool :=
  match s.left with
  | [] => (s.fail 20, false)
  | b :: l => if 1 < b.toNat then (s.fail 21, false) else (⟨l, s.err⟩, b == 1)
def St.done (s : St) : Int := if s.left = [] then s.err else 22

/-! Parts, as they are written. -/
structure Part where
  kind : Int
  n : Int
  most : Int
  s : List UInt8
  is : Bool
def Part.bytes (p : Part) : List UInt8 :=
  if p.kind = 0 then (if 0 ≤ p.n ∧ p.n ≤ 4611686018427387904 then num p.n.toNat else [])
  else if p.kind = 1 then (if p.s.length ≤ 65536 then num p.s.length ++ p.s else [])
  else if p.kind = 2 then [if p.is then 1 else 0] else []
/-- What a part is read as. -/
def St.part (s : St) (p : Part) : St × Part :=
  if p.kind = 0 then ((s.num p.most).1, { kind := p.kind, n := (s.num p.most).2, most := p.most, s := [], is := false })
  else if p.kind = 1 then ((s.text p.most).1, { kind := p.kind, n := 0, most := p.most, s := (s.text p.most).2, is := false })
  else if p.kind = 2 then (s.bool.1, { kind := p.kind, n := 0, most := p.most, s := [], is := s.bool.2 })
  else (s, { kind := p.kind, n := 0, most := p.most, s := [], is := false })
def Part.full (p : Part) : Part := { p with most := 4611686018427387904 }
/-- Many parts. -/
def St.parts (s : St) : List Part → St
  | [] => s
  | p :: ps => St.parts (s.part p.full).1 ps
end Go.Proofs.Ytnoeconcpgdjlaa.Pack

/- Plain mathematics of CRC-32 on natural numbers: the step, the table, that it is linear, that a turned byte is told. No program. -/
namespace Go.Proofs.Ytnoeconcpgdjlaa.Crc

/-- One bit out. -/
def step (n : Nat) : Nat := if n % 2 = 1 then (n / 2) ^^^ 3988292384 else n / 2
/-- k bits out. -/
def steps : Nat → Nat → Nat
  | 0, n => n
  | k + 1, n => steps k (step n)
/-- One byte more. -/
def byte (n : Nat) (x : UInt8) : Nat := steps 8 (n ^^^ x.toNat)
def run (n : Nat) (l : List UInt8) : Nat := l.foldl byte n
def more (s : Nat) (l : List UInt8) : Nat := 4294967295 - run (4294967295 - s) l
def sum (l : List UInt8) : Nat := more 0 l
def low (n : Nat) : List UInt8 := [UInt8.ofNat n, UInt8.ofNat (n / 256), UInt8.ofNat (n / 65536), UInt8.ofNat (n / 16777216)]

/-- What Cut tells: the bytes ahead of the sum, if it is right. -/
def cutOf (l : List UInt8) : Option (List UInt8) :=
  if l.length < 4 then none else if l.take (l.length - 4) ++ low (sum (l.take (l.length - 4))) = l then some (l.take (l.length - 4)) else none
/-! The table, filled by halves. -/
/-! Bytes of which one, and perhaps its neighbour, is another one. -/

end Go.Proofs.Ytnoeconcpgdjlaa.Crc

/- Layer 4, mathematics: records as bytes; no program. -/
namespace Go.Proofs.Ytnoeconcpgdjlaa.Rec

structure R where
  client : Int
  number : Int
  tags : List Int
  data : List UInt8

/-- Do these rise, from above last on, up to 2^30? -/
def rising : Int → List Int → Bool
  | _, [] => true
  | last, t :: l => decide (last < t ∧ t ≤ 1073741824) && rising t l
def okId (n : Int) : Bool := decide (0 ≤ n ∧ n ≤ 1099511627776)
def right (r : R) : Bool := okId r.client && (okId r.number && (rising 0 r.tags && decide (r.tags.length ≤ 8 ∧ r.data.length ≤ 1024)))
/-- Numbers, one behind the other. -/
def numsOf (ns : List Int) : List UInt8 := (ns.map fun n => Pack.num n.toNat).flatten
/-- A record without its sum. -/
def text (r : R) : List UInt8 := Pack.num r.client.toNat ++ (Pack.num r.number.toNat ++ (Pack.num r.tags.length ++ (numsOf r.tags ++ (Pack.num r.data.length ++ r.data))))
def enc (r : R) : List UInt8 := text r ++ Crc.low (Crc.sum (text r))

theorem rising_ok : ∀ (l : List Int) (last : Int), 0 ≤ last → rising last l = true → ∀ x ∈ l, 1 ≤ x ∧ x ≤ 1073741824 := by
  intro l
  induction l with
  | nil => intro _ _ _ x hx; cases hx
  | cons t l ih =>
    intro last h0 h x hx
    simp only [rising, Bool.and_eq_true, decide_eq_true_eq] at h
    rcases List.mem_cons.1 hx with rfl | hx
    · omega
    · exact ih t (by omega) h.2 x hx
theorem right_ok {r : R} (h : right r = true) : (0 ≤ r.client ∧ r.client ≤ 1099511627776) ∧ (0 ≤ r.number ∧ r.number ≤ 1099511627776) ∧ rising 0 r.tags = true ∧ (∀ x ∈ r.tags, 1 ≤ x ∧ x ≤ 1073741824) ∧ r.tags.length ≤ 8 ∧ r.data.length ≤ 1024 := by
  unfold right okId at h
  simp only [Bool.and_eq_true, decide_eq_true_eq] at h
  obtain ⟨h1, h2, h3, h4, h5⟩ := h
  exact ⟨h1, h2, h3, rising_ok _ 0 (by omega) h3, h4, h5⟩

/-- So many numbers, none above most. -/
def readsM (most : Int) (s : Pack.St) : Nat → Pack.St × List Int
  | 0 => (s, [])
  | k + 1 => (((readsM most s k).1.num most).1, (readsM most s k).2 ++ [(((readsM most s k).1.num most).2 : Int)])
/-- What is read, part by part. -/
def stA (l : List UInt8) : Pack.St × Nat := Pack.St.num ⟨l, 0⟩ 1099511627776
def stB (l : List UInt8) : Pack.St × Nat := (stA l).1.num 1099511627776
def stC (l : List UInt8) : Pack.St × Nat := (stB l).1.num 8
def stD (l : List UInt8) : Pack.St × List Int := readsM 1073741824 (stC l).1 (stC l).2
def stE (l : List UInt8) : Pack.St × List UInt8 := (stD l).1.text 1024
def read (l : List UInt8) : R := ⟨(stA l).2, (stB l).2, (stD l).2, (stE l).2⟩
def readOk (l : List UInt8) : Bool := ((stE l).1.done == 0) && right (read l)

/-! What is read without an error is what is written. -/
/-! Tags. -/
def same (a b : R) : Bool := (a.client == b.client) && ((a.number == b.number) && ((a.tags == b.tags) && (a.data == b.data)))
theorem same_iff (a b : R) : same a b = true ↔ a = b := by
  obtain ⟨a1, a2, a3, a4⟩ := a
  obtain ⟨b1, b2, b3, b4⟩ := b
  unfold same
  simp
theorem same_self (a : R) : same a a = true := (same_iff a a).2 rfl
/-! Places. -/
/-- Is what is cut a record, and which? -/
def dec (b : List UInt8) : Option R := match Crc.cutOf b with
  | none => none
  | some l => if readOk l then some (read l) else none
end Go.Proofs.Ytnoeconcpgdjlaa.Rec

/- Layer 3, mathematics: vectors; no program. -/
namespace Go.Proofs.Ytnoeconcpgdjlaa.Vec

def okOne (x : Int) : Bool := decide (0 ≤ x ∧ x ≤ 1099511627776)
/-- Is a row of numbers a vector? -/
def right (v : List Int) : Bool := v.all okOne && decide (1 ≤ v.length ∧ v.length ≤ 8)
def kind (a b : List Int) : Bool := right a && right b && decide (a.length = b.length)
def big (x y : Int) : Int := if x < y then y else x
def small (x y : Int) : Int := if x < y then x else y
def max (a b : List Int) : List Int := List.zipWith big a b
def min (a b : List Int) : List Int := List.zipWith small a b
/-- Is no number of a below that of b? -/
def ge : List Int → List Int → Bool
  | x :: a, y :: b => decide (y ≤ x) && ge a b
  | _, _ => true
def covers (a b : List Int) : Bool := kind a b && ge a b
def same (a b : List Int) : Bool := covers a b && covers b a
def set (v : List Int) (k : Nat) (n : Int) : List Int := v.set k (big (v.getD k 0) n)

theorem right_ok {v : List Int} (h : right v = true) : (∀ x ∈ v, 0 ≤ x ∧ x ≤ 1099511627776) ∧ 1 ≤ v.length ∧ v.length ≤ 8 := by
  unfold right okOne at h
  simp only [Bool.and_eq_true, List.all_eq_true, decide_eq_true_eq] at h
  exact h
theorem right_of {v : List Int} (h : ∀ x ∈ v, 0 ≤ x ∧ x ≤ 1099511627776) (h1 : 1 ≤ v.length) (h8 : v.length ≤ 8) : right v = true := by
  unfold right okOne
  simp only [Bool.and_eq_true, List.all_eq_true, decide_eq_true_eq]
  exact ⟨h, h1, h8⟩
theorem kind_ok {a b : List Int} (h : kind a b = true) : right a = true ∧ right b = true ∧ a.length = b.length := by
  unfold kind at h
  simp only [Bool.and_eq_true, decide_eq_true_eq] at h
  exact ⟨h.1.1, h.1.2, h.2⟩
theorem kind_of {a b : List Int} (h1 : right a = true) (h2 : right b = true) (h3 : a.length = b.length) : kind a b = true := by
  unfold kind; rw [h1, h2, decide_eq_true h3]; rfl
theorem ge_iff : ∀ (a b : List Int), a.length = b.length → (ge a b = true ↔ ∀ i (h : i < a.length) (h' : i < b.length), b[i] ≤ a[i]) := by
  intro a
  induction a with
  | nil => intro b h; simp [ge]
  | cons x a ih =>
    intro b h
    cases b with
    | nil => simp at h
    | cons y b =>
      simp only [List.length_cons, Nat.add_right_cancel_iff] at h
      simp only [ge, Bool.and_eq_true, decide_eq_true_eq, ih b h]
      constructor
      · rintro ⟨h1, h2⟩ i hi hi'
        cases i with
        | zero => exact h1
        | succ i => exact h2 i (by simpa using hi) (by simpa using hi')
      · intro h1
        refine ⟨h1 0 (by simp) (by simp), fun i hi hi' => ?_⟩
        have := h1 (i + 1) (by simpa using hi) (by simpa using hi')
        simpa using this
theorem covers_iff {a b : List Int} (h : kind a b = true) : covers a b = true ↔ ∀ i (h : i < a.length) (h' : i < b.length), b[i] ≤ a[i] := by
  unfold covers
  rw [h, Bool.true_and, ge_iff a b (kind_ok h).2.2]
theorem covers_kind {a b : List Int} (h : covers a b = true) : kind a b = true := by
  unfold covers at h
  simp only [Bool.and_eq_true] at h
  exact h.1
theorem covers_self {a : List Int} (h : right a = true) : covers a a = true := by
  rw [covers_iff (kind_of h h rfl)]
  intro i _ _
  exact Int.le_refl _
theorem same_self {a : List Int} (h : right a = true) : same a a = true := by unfold same; rw [covers_self h]; rfl
/-- Two vectors that cover one another are one. -/
theorem same_eq {a b : List Int} (h : same a b = true) : a = b := by
  unfold same at h
  simp only [Bool.and_eq_true] at h
  have hk := covers_kind h.1
  have h1 := (covers_iff hk).1 h.1
  have h2 := (covers_iff (covers_kind h.2)).1 h.2
  refine List.ext_getElem (kind_ok hk).2.2 fun i hi hi' => ?_
  have := h1 i hi hi'
  have := h2 i hi' hi
  omega

/-! What so many have. -/
def many (xs : List Int) (n : Int) : Nat := xs.countP (fun x => decide (n ≤ x))
/-- The greatest number that so many have not below. -/
def quorumStep (xs : List Int) (need : Int) (best x : Int) : Int := if best < x ∧ need ≤ (many xs x : Int) then x else best
def quorumNum (xs : List Int) (need : Int) : Int := xs.foldl (quorumStep xs need) 0
/-- It is told by what it is. -/
def IsQuorum (xs : List Int) (need : Int) (q : Int) : Prop := 0 ≤ q ∧ need ≤ (many xs q : Int) ∧ ∀ n, q < n → (many xs n : Int) < need
theorem many_mono (xs : List Int) {n m : Int} (h : n ≤ m) : many xs m ≤ many xs n := by
  unfold many
  refine List.countP_mono_left fun x _ hx => ?_
  simp only [decide_eq_true_eq] at hx ⊢
  omega
theorem many_zero {xs : List Int} (h : ∀ x ∈ xs, 0 ≤ x) : many xs 0 = xs.length := by
  unfold many
  rw [List.countP_eq_length]
  intro x hx
  simpa using h x hx
theorem quorum_unique {xs : List Int} {need p q : Int} (hp : IsQuorum xs need p) (hq : IsQuorum xs need q) : p = q := by
  rcases Int.lt_trichotomy p q with h | h | h
  · have := hp.2.2 q h; have := hq.2.1; omega
  · exact h
  · have := hq.2.2 p h; have := hp.2.1; omega
/-- Where a number greater than q is had by so many, one of the row's own is. -/
theorem many_member {xs : List Int} {need n : Int} (h1 : 1 ≤ need) (h : need ≤ (many xs n : Int)) : ∃ x ∈ xs, n ≤ x ∧ need ≤ (many xs x : Int) := by
  have hne : (xs.filter (fun x => decide (n ≤ x))) ≠ [] := by
    intro he
    have : many xs n = 0 := by unfold many; rw [List.countP_eq_length_filter, he]; rfl
    omega
  have key : ∀ l : List Int, l ≠ [] → ∃ y ∈ l, ∀ z ∈ l, y ≤ z := by
    intro l
    induction l with
    | nil => intro h; exact absurd rfl h
    | cons a l ih =>
      intro _
      by_cases hl : l = []
      · subst hl; exact ⟨a, by simp, by simp⟩
      · obtain ⟨y, hy, hmin⟩ := ih hl
        by_cases hay : a ≤ y
        · exact ⟨a, by simp, fun z hz => by
            rcases List.mem_cons.1 hz with rfl | hz
            · exact Int.le_refl _
            · exact Int.le_trans hay (hmin z hz)⟩
        · exact ⟨y, by simp [hy], fun z hz => by
            rcases List.mem_cons.1 hz with rfl | hz
            · omega
            · exact hmin z hz⟩
  obtain ⟨y, hy, hmin⟩ := key _ hne
  rw [List.mem_filter] at hy
  refine ⟨y, hy.1, by simpa using hy.2, ?_⟩
  have : many xs n ≤ many xs y := by
    unfold many
    refine List.countP_mono_left fun x hx hnx => ?_
    simp only [decide_eq_true_eq] at hnx ⊢
    exact hmin x (by rw [List.mem_filter]; exact ⟨hx, by simpa using hnx⟩)
  omega
theorem quorum_is {xs : List Int} {need : Int} (h0 : ∀ x ∈ xs, 0 ≤ x) (h1 : 1 ≤ need) (hn : need ≤ (xs.length : Int)) : IsQuorum xs need (quorumNum xs need) := by
  have key : ∀ (l : List Int) (b : Int), 0 ≤ b → need ≤ (many xs b : Int) → (0 ≤ l.foldl (quorumStep xs need) b ∧ need ≤ (many xs (l.foldl (quorumStep xs need) b) : Int) ∧ b ≤ l.foldl (quorumStep xs need) b ∧ ∀ x ∈ l, need ≤ (many xs x : Int) → x ≤ l.foldl (quorumStep xs need) b) := by
    intro l
    induction l with
    | nil => intro b hb hm; exact ⟨hb, hm, Int.le_refl _, fun x hx => by cases hx⟩
    | cons x l ih =>
      intro b hb hm
      simp only [List.foldl_cons]
      have hs : b ≤ quorumStep xs need b x ∧ need ≤ (many xs (quorumStep xs need b x) : Int) ∧ (need ≤ (many xs x : Int) → x ≤ quorumStep xs need b x) := by
        unfold quorumStep
        split
        · rename_i h; exact ⟨by omega, h.2, fun _ => Int.le_refl _⟩
        · rename_i h
          refine ⟨Int.le_refl _, hm, fun hx => ?_⟩
          rcases Int.lt_or_le b x with h' | h'
          · exact absurd ⟨h', hx⟩ h
          · exact h'
      obtain ⟨r1, r2, r3, r4⟩ := ih (quorumStep xs need b x) (by omega) hs.2.1
      refine ⟨r1, r2, by omega, fun y hy hm' => ?_⟩
      rcases List.mem_cons.1 hy with rfl | hy
      · have := hs.2.2 hm'; omega
      · exact r4 y hy hm'
  have hz := many_zero h0
  obtain ⟨r1, r2, _, r4⟩ := key xs 0 (Int.le_refl _) (by omega)
  refine ⟨r1, r2, fun n hq => ?_⟩
  rcases Int.lt_or_le (many xs n : Int) need with h | h
  · exact h
  · obtain ⟨x, hx, hnx, hmx⟩ := many_member h1 h
    have := r4 x hx hmx
    unfold quorumNum at hq
    omega
end Go.Proofs.Ytnoeconcpgdjlaa.Vec

/- Layer 5, mathematics: entries as bytes, chains; no program. -/
namespace Go.Proofs.Ytnoeconcpgdjlaa.Ent

structure E where
  number : Int
  kind : Int
  cut : List Int
  tag : Int
  term : Int
  pos : Int

def rightCut (e : E) : Bool := Vec.right e.cut && decide (e.tag = 0 ∧ e.term = 0 ∧ e.pos = 0)
def rightTrim (e : E) : Bool := e.cut.isEmpty && decide ((0 ≤ e.tag ∧ e.tag ≤ 1073741824) ∧ (1 ≤ e.term ∧ e.term ≤ 64) ∧ 0 ≤ e.pos ∧ e.pos ≤ 1099511627776)
def right (e : E) : Bool := decide (1 ≤ e.number ∧ e.number ≤ 1099511627776) && ((decide (e.kind = 1) && rightCut e) || (decide (e.kind = 2) && rightTrim e))
/-- A vector's bytes. -/
def vecBytes (v : List Int) : List UInt8 := Pack.num v.length ++ Rec.numsOf v
def body (e : E) : List UInt8 := if e.kind = 1 then Pack.num (vecBytes e.cut).length ++ vecBytes e.cut else Pack.num e.tag.toNat ++ (Pack.num e.term.toNat ++ Pack.num e.pos.toNat)
def text (e : E) : List UInt8 := Pack.num e.number.toNat ++ (Pack.num e.kind.toNat ++ body e)
def enc (e : E) : List UInt8 := text e ++ Crc.low (Crc.sum (text e))

theorem right_ok {e : E} (h : right e = true) : (1 ≤ e.number ∧ e.number ≤ 1099511627776) ∧ ((e.kind = 1 ∧ Vec.right e.cut = true ∧ e.tag = 0 ∧ e.term = 0 ∧ e.pos = 0) ∨ (e.kind = 2 ∧ e.cut = [] ∧ (0 ≤ e.tag ∧ e.tag ≤ 1073741824) ∧ (1 ≤ e.term ∧ e.term ≤ 64) ∧ 0 ≤ e.pos ∧ e.pos ≤ 1099511627776)) := by
  unfold right rightCut rightTrim at h
  simp only [Bool.and_eq_true, Bool.or_eq_true, decide_eq_true_eq, List.isEmpty_iff] at h
  obtain ⟨h1, h2⟩ := h
  refine ⟨h1, ?_⟩
  rcases h2 with ⟨k, v, t⟩ | ⟨k, v, t⟩
  · exact .inl ⟨k, v, t.1, t.2.1, t.2.2⟩
  · exact .inr ⟨k, v, t.1, t.2.1, t.2.2⟩
theorem same {a b : E} (h1 : a.number = b.number) (h2 : a.kind = b.kind) (h3 : a.cut = b.cut) (h4 : a.tag = b.tag) (h5 : a.term = b.term) (h6 : a.pos = b.pos) : a = b := by
  cases a
  cases b
  simp only at h1 h2 h3 h4 h5 h6
  subst h1 h2 h3 h4 h5 h6
  rfl
/-! Chains. -/
/-- The last cut. -/
def lastCut (l : List E) : Option (List Int) := l.foldl (fun c e => if e.kind = 1 then some e.cut else c) none
theorem lastCut_snoc (l : List E) (e : E) : lastCut (l ++ [e]) = if e.kind = 1 then some e.cut else lastCut l := by
  unfold lastCut
  rw [List.foldl_append]
  rfl
def coversLast (c : Option (List Int)) (v : List Int) : Bool := match c with
  | none => true
  | some u => Vec.covers v u
/-- May an entry stand behind these? -/
def follows (l : List E) (e : E) : Bool := right e && (decide (e.number = (l.length : Int) + 1) && (!decide (e.kind = 1) || coversLast (lastCut l) e.cut))
def chainFrom : List E → List E → Nat
  | _, [] => 0
  | d, e :: r => if follows d e then chainFrom (d ++ [e]) r + 1 else 0
/-- How many of the first ones are a chain. -/
def chain (l : List E) : Nat := chainFrom [] l
theorem chainFrom_le : ∀ (r d : List E), chainFrom d r ≤ r.length := by
  intro r
  induction r with
  | nil => intro d; exact Nat.le_refl _
  | cons e r ih =>
    intro d
    simp only [chainFrom]
    split
    · have := ih (d ++ [e]); simp only [List.length_cons]; omega
    · omega
theorem chain_le (l : List E) : chain l ≤ l.length := chainFrom_le l []
theorem chainFrom_take : ∀ (r d : List E) (n : Nat), chainFrom d (r.take n) = min n (chainFrom d r) := by
  intro r
  induction r with
  | nil => intro d n; simp [chainFrom]
  | cons e r ih =>
    intro d n
    cases n with
    | zero => simp [chainFrom]
    | succ n =>
      simp only [List.take_succ_cons, chainFrom]
      split
      · rw [ih (d ++ [e]) n]; omega
      · omega
/-- Each beginning of a chain is one. -/
theorem chain_take (l : List E) (n : Nat) : chain (l.take n) = min n (chain l) := chainFrom_take l [] n
theorem chainFrom_snoc : ∀ (r d : List E) (e : E), chainFrom d (r ++ [e]) = if chainFrom d r = r.length then (if follows (d ++ r) e then r.length + 1 else r.length) else chainFrom d r := by
  intro r
  induction r with
  | nil => intro d e; simp [chainFrom]
  | cons x r ih =>
    intro d e
    simp only [List.cons_append, chainFrom, List.length_cons]
    by_cases hf : follows d x = true
    · rw [if_pos hf, if_pos hf, ih (d ++ [x]) e, List.append_assoc]
      simp only [List.cons_append, List.nil_append]
      by_cases hc : chainFrom (d ++ [x]) r = r.length
      · rw [if_pos hc, if_pos (show chainFrom (d ++ [x]) r + 1 = r.length + 1 by omega)]
        by_cases hg : follows (d ++ x :: r) e = true
        · rw [if_pos hg, if_pos hg]
        · rw [if_neg hg, if_neg hg]
      · rw [if_neg hc, if_neg (show ¬ chainFrom (d ++ [x]) r + 1 = r.length + 1 by omega)]
    · rw [if_neg hf, if_neg hf, if_neg (by omega)]
theorem chain_snoc (l : List E) (e : E) : chain (l ++ [e]) = if chain l = l.length then (if follows l e then l.length + 1 else l.length) else chain l := chainFrom_snoc l [] e
/-- Is all of it a chain? -/
def isChain (l : List E) : Prop := chain l = l.length
theorem isChain_snoc {l : List E} {e : E} (h : isChain (l ++ [e])) : isChain l ∧ follows l e = true := by
  unfold isChain at h ⊢
  rw [chain_snoc, List.length_append] at h
  have := chain_le l
  by_cases hc : chain l = l.length
  · rw [if_pos hc] at h
    refine ⟨hc, ?_⟩
    by_cases hf : follows l e = true
    · exact hf
    · rw [if_neg hf] at h; simp at h
  · rw [if_neg hc] at h; simp at h; omega
theorem isChain_take (l : List E) : isChain (l.take (chain l)) := by
  unfold isChain
  rw [chain_take, List.length_take]
  have := chain_le l
  omega
/-- The last cut of a chain, or so many zeros. -/
def lastOf (l : List E) (zero : List Int) : List Int := match lastCut (l.take (chain l)) with
  | none => zero
  | some c => c
/-! Are two entries the same? -/
def alike (a b : E) : Bool := (a.number == b.number) && ((a.kind == b.kind) && ((a.cut == b.cut) && ((a.tag == b.tag) && ((a.term == b.term) && (a.pos == b.pos)))))
theorem alike_iff (a b : E) : alike a b = true ↔ a = b := by
  obtain ⟨a1, a2, a3, a4, a5, a6⟩ := a
  obtain ⟨b1, b2, b3, b4, b5, b6⟩ := b
  unfold alike
  simp
theorem alike_self (a : E) : alike a a = true := (alike_iff a a).2 rfl
end Go.Proofs.Ytnoeconcpgdjlaa.Ent

/- Layer 5, mathematics: the last cut by a walk from behind; entries of which none is a cut; no program. -/
namespace Go.Proofs.Ytnoeconcpgdjlaa.Ent

/-- Behind the last cut there is none. -/
theorem lastCut_none : ∀ (l : List E), (∀ e ∈ l, e.kind ≠ 1) → lastCut l = none := by
  intro l h
  have key : ∀ (n : Nat) (l : List E), l.length = n → (∀ e ∈ l, e.kind ≠ 1) → lastCut l = none := by
    intro n
    induction n with
    | zero => intro l hl _; rw [List.eq_nil_of_length_eq_zero hl]; rfl
    | succ n ih =>
      intro l hl h
      have hne : l ≠ [] := by rintro rfl; simp at hl
      obtain ⟨d, x, rfl⟩ : ∃ d x, l = d ++ [x] := ⟨l.dropLast, l.getLast hne, (List.dropLast_concat_getLast hne).symm⟩
      rw [lastCut_snoc, if_neg (h x (by simp))]
      exact ih d (by simpa using hl) (fun e he => h e (by simp [he]))
  exact key l.length l rfl h
/-- Entries of which none is a cut leave the last one as it was. -/
theorem lastCut_trims : ∀ (ts l : List E), (∀ e ∈ ts, e.kind ≠ 1) → lastCut (l ++ ts) = lastCut l := by
  intro ts
  induction ts with
  | nil => intro l _; rw [List.append_nil]
  | cons t ts ih =>
    intro l h
    have e : l ++ t :: ts = (l ++ [t]) ++ ts := by simp
    rw [e, ih (l ++ [t]) (fun x hx => h x (by simp [hx])), lastCut_snoc, if_neg (h t (by simp))]
/-- The last one of the kind 1, with none behind it. -/
theorem lastCut_at (l : List E) (i : Nat) (hi : i < l.length) (hk : l[i].kind = 1) (h : ∀ e ∈ l.drop (i + 1), e.kind ≠ 1) : lastCut l = some l[i].cut := by
  have e : l = (l.take i ++ [l[i]]) ++ l.drop (i + 1) := by
    rw [List.append_assoc, List.singleton_append, ← List.drop_eq_getElem_cons hi, List.take_append_drop]
  have h1 := lastCut_trims (l.drop (i + 1)) (l.take i ++ [l[i]]) h
  rw [← e, lastCut_snoc, if_pos hk] at h1
  exact h1
/-- One step of the walk from behind. -/
theorem drop_kinds {l : List E} {i : Nat} (hi : i < l.length) (hk : l[i].kind ≠ 1) (h : ∀ e ∈ l.drop (i + 1), e.kind ≠ 1) : ∀ e ∈ l.drop i, e.kind ≠ 1 := by
  intro e he
  rw [List.drop_eq_getElem_cons hi] at he
  rcases List.mem_cons.1 he with rfl | he
  · exact hk
  · exact h e he
theorem lastCut_drop {l : List E} (h : ∀ e ∈ l.drop 0, e.kind ≠ 1) : lastCut l = none := lastCut_none l (by simpa using h)
/-- Of a chain all is taken. -/
theorem take_chain {l : List E} (h : isChain l) : l.take (chain l) = l := by
  rw [show chain l = l.length from h, List.take_length]
theorem lastOf_chain {l : List E} (h : isChain l) (z : List Int) : lastOf l z = match lastCut l with
    | none => z
    | some c => c := by
  unfold lastOf
  rw [take_chain h]
  all_goals rfl
/-- What Chain reckons, entry by entry: k of them are a chain; is the next one? -/
theorem chain_next {l : List E} {k : Nat} (hk : k < l.length) (h : chain (l.take k) = k) : chain (l.take (k + 1)) = if follows (l.take k) l[k] then k + 1 else k := by
  have hl : (l.take k).length = k := by rw [List.length_take]; omega
  rw [List.take_succ_eq_append_getElem hk, chain_snoc, hl, if_pos h]
/-- Where the next one is none, that is the chain. -/
theorem chain_stop {l : List E} {k : Nat} (hk : k < l.length) (h : chain (l.take k) = k) (hf : follows (l.take k) l[k] = false) : chain l = k := by
  have h1 := chain_next hk h
  rw [hf] at h1
  have h2 := chain_take l (k + 1)
  rw [h1] at h2
  simp only [Bool.false_eq_true, if_false] at h2
  omega
theorem chain_end {l : List E} (h : chain (l.take l.length) = l.length) : chain l = l.length := by rwa [List.take_length] at h
theorem follows_iff (d : List E) (e : E) : follows d e = true ↔ right e = true ∧ e.number = (d.length : Int) + 1 ∧ (e.kind = 1 → coversLast (lastCut d) e.cut = true) := by
  unfold follows
  simp only [Bool.and_eq_true, Bool.or_eq_true, Bool.not_eq_true', decide_eq_false_iff_not, decide_eq_true_eq]
  constructor
  · rintro ⟨h1, h2, h3⟩
    exact ⟨h1, h2, fun hk => h3.resolve_left (fun h => h hk)⟩
  · rintro ⟨h1, h2, h3⟩
    refine ⟨h1, h2, ?_⟩
    by_cases hk : e.kind = 1
    · exact .inr (h3 hk)
    · exact .inl hk
/-- Of a chain all are right; the last cut is one of them. -/
theorem isChain_right : ∀ (n : Nat) (l : List E), l.length = n → isChain l → ∀ e ∈ l, right e = true := by
  intro n
  induction n with
  | zero => intro l hl _ e he; rw [List.eq_nil_of_length_eq_zero hl] at he; cases he
  | succ n ih =>
    intro l hl hc e he
    have hne : l ≠ [] := by rintro rfl; simp at hl
    obtain ⟨d, x, rfl⟩ : ∃ d x, l = d ++ [x] := ⟨l.dropLast, l.getLast hne, (List.dropLast_concat_getLast hne).symm⟩
    obtain ⟨hd, hf⟩ := isChain_snoc hc
    rcases List.mem_append.1 he with hm | hm
    · exact ih d (by simpa using hl) hd e hm
    · obtain rfl : e = x := by simpa using hm
      exact ((follows_iff d e).1 hf).1
theorem lastCut_some : ∀ (n : Nat) (l : List E), l.length = n → ∀ c, lastCut l = some c → ∃ e ∈ l, e.kind = 1 ∧ e.cut = c := by
  intro n
  induction n with
  | zero => intro l hl c h; rw [List.eq_nil_of_length_eq_zero hl] at h; cases h
  | succ n ih =>
    intro l hl c h
    have hne : l ≠ [] := by rintro rfl; simp at hl
    obtain ⟨d, x, rfl⟩ : ∃ d x, l = d ++ [x] := ⟨l.dropLast, l.getLast hne, (List.dropLast_concat_getLast hne).symm⟩
    rw [lastCut_snoc] at h
    by_cases hx : x.kind = 1
    · rw [if_pos hx] at h
      injection h with h
      exact ⟨x, by simp, hx, h⟩
    · rw [if_neg hx] at h
      obtain ⟨e, he, h1⟩ := ih d (by simpa using hl) c h
      exact ⟨e, by simp [he], h1⟩
theorem last_right {l : List E} {c : List Int} (h : lastCut (l.take (chain l)) = some c) : Vec.right c = true := by
  obtain ⟨e, he, hk, rfl⟩ := lastCut_some _ _ rfl c h
  rcases (right_ok (isChain_right _ _ rfl (isChain_take l) e he)).2 with ⟨_, hv, _⟩ | ⟨h, _⟩
  · exact hv
  · omega
end Go.Proofs.Ytnoeconcpgdjlaa.Ent

/- Layer 5, mathematics: bytes as an entry; no program. How a vector is read is left open (vd): that it is read back is all that is wanted. -/
namespace Go.Proofs.Ytnoeconcpgdjlaa.Ent

def big : Int := 4611686018427387904
def stA (l : List UInt8) : Pack.St × Nat := Pack.St.num ⟨l, 0⟩ big
def stB (l : List UInt8) : Pack.St × Nat := (stA l).1.num big
def stV (l : List UInt8) : Pack.St × List UInt8 := (stB l).1.text 65536
def stT (l : List UInt8) : Pack.St × Nat := (stB l).1.num big
def stM (l : List UInt8) : Pack.St × Nat := (stT l).1.num big
def stP (l : List UInt8) : Pack.St × Nat := (stM l).1.num big
def read (vd : List UInt8 → List Int) (l : List UInt8) : E := if (stB l).2 = 1 then ⟨(stA l).2, 1, vd (stV l).2, 0, 0, 0⟩ else ⟨(stA l).2, (stB l).2, [], (stT l).2, (stM l).2, (stP l).2⟩
/-- What is read must be what is written. -/
def dec (vd : List UInt8 → List Int) (b : List UInt8) : Option E := match Crc.cutOf b with
  | none => none
  | some l => if right (read vd l) && (enc (read vd l) == b) then some (read vd l) else none
end Go.Proofs.Ytnoeconcpgdjlaa.Ent

/- Layer 6, mathematics: configurations as bytes, what they tell, the next one; no program. -/
namespace Go.Proofs.Ytnoeconcpgdjlaa.Term

structure C where
  term : Int
  seqs : List Int
  shards : List (List Int)

def okNode (x : Int) : Bool := decide (0 ≤ x ∧ x ≤ 15)
/-- May nodes be, and are all unlike? -/
def unlike (l : List Int) : Bool := l.all okNode && decide l.Nodup
def okShard (l : List Int) : Bool := decide (1 ≤ l.length ∧ l.length ≤ 3) && unlike l
def right (c : C) : Bool := decide ((1 ≤ c.term ∧ c.term ≤ 64) ∧ 1 ≤ c.shards.length ∧ c.shards.length ≤ 8) && (c.shards.all okShard && (decide (c.seqs.length = 1 ∨ c.seqs.length = 3 ∨ c.seqs.length = 5 ∨ c.seqs.length = 7) && unlike c.seqs))

theorem unlike_ok {l : List Int} (h : unlike l = true) : (∀ x ∈ l, 0 ≤ x ∧ x ≤ 15) ∧ l.Nodup := by
  unfold unlike at h
  rw [Bool.and_eq_true, List.all_eq_true, decide_eq_true_eq] at h
  exact ⟨fun x hx => of_decide_eq_true (h.1 x hx), h.2⟩
theorem unlike_of {l : List Int} (h1 : ∀ x ∈ l, 0 ≤ x ∧ x ≤ 15) (h2 : l.Nodup) : unlike l = true := by
  unfold unlike
  rw [Bool.and_eq_true, List.all_eq_true, decide_eq_true_eq]
  exact ⟨fun x hx => decide_eq_true (h1 x hx), h2⟩
/-- One behind the others. -/
theorem unlike_snoc (l : List Int) (x : Int) : unlike (l ++ [x]) = (unlike l && (okNode x && !l.contains x)) := by
  rw [Bool.eq_iff_iff]
  unfold unlike
  simp only [List.all_append, Bool.and_eq_true, decide_eq_true_eq, List.all_cons, List.all_nil, and_true, List.nodup_append, List.nodup_cons, List.not_mem_nil, not_false_eq_true, List.nodup_nil, true_and, List.mem_singleton, Bool.not_eq_true', List.contains_eq_mem, decide_eq_false_iff_not]
  constructor
  · rintro ⟨⟨h1, h2⟩, h3, h4⟩
    exact ⟨⟨h1, h3⟩, h2, fun hm => h4 x hm x rfl rfl⟩
  · rintro ⟨⟨h1, h3⟩, h2, h4⟩
    exact ⟨⟨h1, h2⟩, h3, fun a ha b hb hab => h4 (by rw [← hb, ← hab]; exact ha)⟩
theorem unlike_take {l : List Int} (n : Nat) (h : unlike l = true) : unlike (l.take n) = true := by
  obtain ⟨h1, h2⟩ := unlike_ok h
  exact unlike_of (fun x hx => h1 x (List.mem_of_mem_take hx)) (h2.sublist (List.take_sublist n l))
theorem shard_ok {l : List Int} (h : okShard l = true) : 1 ≤ l.length ∧ l.length ≤ 3 ∧ unlike l = true := by
  unfold okShard at h
  rw [Bool.and_eq_true, decide_eq_true_eq] at h
  exact ⟨h.1.1, h.1.2, h.2⟩
theorem right_ok {c : C} (h : right c = true) : (1 ≤ c.term ∧ c.term ≤ 64) ∧ (1 ≤ c.shards.length ∧ c.shards.length ≤ 8) ∧ (∀ l ∈ c.shards, okShard l = true) ∧ (c.seqs.length = 1 ∨ c.seqs.length = 3 ∨ c.seqs.length = 5 ∨ c.seqs.length = 7) ∧ unlike c.seqs = true := by
  unfold right at h
  simp only [Bool.and_eq_true, decide_eq_true_eq, List.all_eq_true] at h
  exact ⟨h.1.1, h.1.2, h.2.1, h.2.2.1, h.2.2.2⟩
theorem right_of {c : C} (h1 : 1 ≤ c.term ∧ c.term ≤ 64) (h2 : 1 ≤ c.shards.length ∧ c.shards.length ≤ 8) (h3 : ∀ l ∈ c.shards, okShard l = true) (h4 : c.seqs.length = 1 ∨ c.seqs.length = 3 ∨ c.seqs.length = 5 ∨ c.seqs.length = 7) (h5 : unlike c.seqs = true) : right c = true := by
  unfold right
  simp only [Bool.and_eq_true, decide_eq_true_eq, List.all_eq_true]
  exact ⟨⟨h1, h2⟩, h3, h4, h5⟩

/-! As bytes. -/
def row (l : List Int) : List UInt8 := Pack.num l.length ++ Rec.numsOf l
def rowsOf (ls : List (List Int)) : List UInt8 := (ls.map row).flatten
def text (c : C) : List UInt8 := Pack.num c.term.toNat ++ (row c.seqs ++ (Pack.num c.shards.length ++ rowsOf c.shards))
def enc (c : C) : List UInt8 := text c ++ Crc.low (Crc.sum (text c))
/-- A row is read. -/
def readRow (s : Pack.St) : Pack.St × List Int := Rec.readsM 16 (s.num 16).1 (s.num 16).2
def readRows (s : Pack.St) : Nat → Pack.St × List (List Int)
  | 0 => (s, [])
  | k + 1 => ((readRow (readRows s k).1).1, (readRows s k).2 ++ [(readRow (readRows s k).1).2])
def stA (l : List UInt8) : Pack.St × Nat := Pack.St.num ⟨l, 0⟩ 64
def stB (l : List UInt8) : Pack.St × List Int := readRow (stA l).1
def stC (l : List UInt8) : Pack.St × Nat := (stB l).1.num 8
def stD (l : List UInt8) : Pack.St × List (List Int) := readRows (stC l).1 (stC l).2
def read (l : List UInt8) : C := ⟨(stA l).2, (stB l).2, (stD l).2⟩
def readOk (l : List UInt8) : Bool := ((stD l).1.done == 0) && right (read l)

def dec (b : List UInt8) : Option C := match Crc.cutOf b with
  | none => none
  | some l => if readOk l then some (read l) else none
/-! Two majorities meet. -/
def majority (c : C) : Nat := c.seqs.length / 2 + 1
/-! Who all are: rising, each once. -/
def put : List Int → Int → List Int
  | [], n => [n]
  | x :: l, n => if n < x then n :: x :: l else if n = x then x :: l else x :: put l n
def rises (l : List Int) : Prop := l.Pairwise (· < ·)
def all (c : C) : List Int := c.seqs ++ c.shards.flatten
/-! The next one. -/
def left (l gone : List Int) : List Int := l.filter (fun x => !gone.contains x)
def odd (l : List Int) : List Int := if l.length % 2 = 0 then l.take (l.length - 1) else l
def next (c : C) (gone : List Int) : C := ⟨c.term + 1, odd (left c.seqs gone), c.shards.map (fun l => left l gone)⟩
/-! Are two configurations the same? -/
def alike (a b : C) : Bool := (a.term == b.term) && ((a.seqs == b.seqs) && (a.shards == b.shards))
theorem alike_iff (a b : C) : alike a b = true ↔ a = b := by
  obtain ⟨a1, a2, a3⟩ := a
  obtain ⟨b1, b2, b3⟩ := b
  unfold alike
  simp
theorem alike_self (a : C) : alike a a = true := (alike_iff a a).2 rfl
end Go.Proofs.Ytnoeconcpgdjlaa.Term

/- Layer 7, mathematics: messages as bytes and back; no program. -/
namespace Go.Proofs.Ytnoeconcpgdjlaa.Msg

structure M where
  kind : Int
  src : Int
  dst : Int
  term : Int
  shard : Int
  number : Int
  is : Bool
  reco : Rec.R
  ent : Ent.E
  ballot : Int
  old : Int
  conf : Term.C

def rec0 : Rec.R := ⟨0, 0, [], []⟩
def ent0 : Ent.E := ⟨0, 0, [], 0, 0, 0⟩
def conf0 : Term.C := ⟨0, [], []⟩
def none0 : M := ⟨0, 0, 0, 0, 0, 0, false, rec0, ent0, 0, 0, conf0⟩

def headOk (m : M) : Bool := decide ((0 ≤ m.src ∧ m.src ≤ 15) ∧ (0 ≤ m.dst ∧ m.dst ≤ 15) ∧ (1 ≤ m.term ∧ m.term ≤ 64) ∧ (0 ≤ m.number ∧ m.number ≤ 1099511627776) ∧ 0 ≤ m.shard ∧ m.shard ≤ 7)
def quiet (m : M) : Bool := decide (m.ballot = 0 ∧ m.old = 0)
def plain (m : M) (r e c : Bool) : Bool := (r || Rec.same m.reco rec0) && ((e || Ent.alike m.ent ent0) && (c || Term.alike m.conf conf0))
def votes (m : M) : Bool := decide ((1 ≤ m.ballot ∧ m.ballot ≤ 1099511627776) ∧ m.shard = 0 ∧ m.number = 0)
def withConf (m : M) : Bool := Term.right m.conf && decide (m.conf.term = m.term)
def kindOk (m : M) : Bool :=
  if m.kind = 1 then quiet m && (!m.is && (plain m true false false && Rec.right m.reco))
  else if m.kind = 2 then quiet m && (!m.is && plain m false false false)
  else if m.kind = 3 then quiet m && (!m.is && (decide (m.shard = 0 ∧ m.number = 0) && (plain m false true false && Ent.right m.ent)))
  else if m.kind = 4 ∨ m.kind = 6 then quiet m && (decide (m.shard = 0) && plain m false false false)
  else if m.kind = 5 then quiet m && (!m.is && (decide (m.shard = 0 ∧ m.number = 0) && plain m false false false))
  else if m.kind = 7 then votes m && (decide (m.old = 0) && (!m.is && plain m false false false))
  else if m.kind = 8 then votes m && (!m.is && (decide (0 ≤ m.old ∧ m.old ≤ 1099511627776) && (if m.old = 0 then plain m false false false else plain m false false true && withConf m)))
  else if m.kind = 9 then votes m && (decide (m.old = 0) && (!m.is && (plain m false false true && withConf m)))
  else if m.kind = 10 then votes m && (decide (m.old = 0) && plain m false false false)
  else false
def right (m : M) : Bool := headOk m && kindOk m

/-! As bytes. -/
def num (n : Int) : List UInt8 := Pack.num n.toNat
def textOf (l : List UInt8) : List UInt8 := Pack.num l.length ++ l
def boolOf : Bool → List UInt8
  | true => [1]
  | false => [0]
def parts (m : M) : List UInt8 :=
  if m.kind = 1 then num m.shard ++ (num m.number ++ textOf (Rec.enc m.reco))
  else if m.kind = 2 then num m.shard ++ num m.number
  else if m.kind = 3 then textOf (Ent.enc m.ent)
  else if m.kind = 4 ∨ m.kind = 6 then num m.number ++ boolOf m.is
  else if m.kind = 7 then num m.ballot
  else if m.kind = 8 then (if m.old = 0 then num m.ballot ++ [0] else num m.ballot ++ (num m.old ++ textOf (Term.enc m.conf)))
  else if m.kind = 9 then num m.ballot ++ textOf (Term.enc m.conf)
  else if m.kind = 10 then num m.ballot ++ boolOf m.is
  else []
def text (m : M) : List UInt8 := num m.kind ++ (num m.src ++ (num m.dst ++ (num m.term ++ parts m)))
def enc (m : M) : List UInt8 := text m ++ Crc.low (Crc.sum (text m))

/-! What is read, part by part. -/
def most : Int := 1099511627776
def optNum (c : Bool) (s : Pack.St) : Pack.St × Nat := if c then s.num most else (s, 0)
def optBool (c : Bool) (s : Pack.St) : Pack.St × Bool := if c then s.bool else (s, false)
def optText (c : Bool) (s : Pack.St) : Pack.St × List UInt8 := if c then s.text 65536 else (s, [])
def stK (l : List UInt8) : Pack.St × Nat := Pack.St.num ⟨l, 0⟩ most
def stS (l : List UInt8) : Pack.St × Nat := (stK l).1.num most
def stD (l : List UInt8) : Pack.St × Nat := (stS l).1.num most
def stT (l : List UInt8) : Pack.St × Nat := (stD l).1.num most
def k (l : List UInt8) : Nat := (stK l).2
def stShard (l : List UInt8) : Pack.St × Nat := optNum (decide (k l = 1 ∨ k l = 2)) (stT l).1
def stNumber (l : List UInt8) : Pack.St × Nat := optNum (decide (k l = 1 ∨ k l = 2 ∨ k l = 4 ∨ k l = 6)) (stShard l).1
def stBallot (l : List UInt8) : Pack.St × Nat := optNum (decide (7 ≤ k l ∧ k l ≤ 10)) (stNumber l).1
def stOld (l : List UInt8) : Pack.St × Nat := optNum (decide (k l = 8)) (stBallot l).1
def stIs (l : List UInt8) : Pack.St × Bool := optBool (decide (k l = 4 ∨ k l = 6 ∨ k l = 10)) (stOld l).1
def stText (l : List UInt8) : Pack.St × List UInt8 := optText (decide (k l = 1 ∨ k l = 3 ∨ k l = 9 ∨ (k l = 8 ∧ (stOld l).2 ≠ 0))) (stIs l).1
def recOf (l : List UInt8) : Rec.R := if k l = 1 then (Rec.dec (stText l).2).getD rec0 else rec0
def entOf (vd : List UInt8 → List Int) (l : List UInt8) : Ent.E := if k l = 3 then (Ent.dec vd (stText l).2).getD ent0 else ent0
def confOf (l : List UInt8) : Term.C := if k l = 9 ∨ (k l = 8 ∧ (stOld l).2 ≠ 0) then (Term.dec (stText l).2).getD conf0 else conf0
def read (vd : List UInt8 → List Int) (l : List UInt8) : M := ⟨k l, (stS l).2, (stD l).2, (stT l).2, (stShard l).2, (stNumber l).2, (stIs l).2, recOf l, entOf vd l, (stBallot l).2, (stOld l).2, confOf l⟩

theorem kind_in {m : M} (h : right m = true) : 1 ≤ m.kind ∧ m.kind ≤ 10 := by
  unfold right at h
  rw [Bool.and_eq_true] at h
  have h2 := h.2
  unfold kindOk at h2
  by_cases a : 1 ≤ m.kind ∧ m.kind ≤ 10
  · exact a
  · iterate 9 rw [if_neg (by omega)] at h2
    cases h2
theorem ext {a b : M} (h1 : a.kind = b.kind) (h2 : a.src = b.src) (h3 : a.dst = b.dst) (h4 : a.term = b.term) (h5 : a.shard = b.shard) (h6 : a.number = b.number) (h7 : a.is = b.is) (h8 : a.reco = b.reco) (h9 : a.ent = b.ent) (h10 : a.ballot = b.ballot) (h11 : a.old = b.old) (h12 : a.conf = b.conf) : a = b := by
  cases a
  cases b
  simp only at h1 h2 h3 h4 h5 h6 h7 h8 h9 h10 h11 h12
  subst h1 h2 h3 h4 h5 h6 h7 h8 h9 h10 h11 h12
  rfl
/-- What is read must be what is written. -/
def dec (vd : List UInt8 → List Int) (b : List UInt8) : Option M := match Crc.cutOf b with
  | none => none
  | some l => if ((stText l).1.done == 0) && (right (read vd l) && (enc (read vd l) == b)) then some (read vd l) else none
end Go.Proofs.Ytnoeconcpgdjlaa.Msg

/- Layer 12, mathematics: a primary (its entries, how many of them each sequencer is known to have), what is committed; no program. -/
namespace Go.Proofs.Ytnoeconcpgdjlaa.Quo
set_option linter.unusedSimpArgs false
set_option linter.unusedVariables false
open Ent (E)

structure Pr where
  c : Term.C
  l : List E
  f : Int → Int
  is : Bool
def zerosI (n : Int) : List Int := if 1 ≤ n ∧ n ≤ 8 then List.replicate n.toNat 0 else []
def Pr.last (p : Pr) (z : List Int) : List Int := Ent.lastOf p.l z
/-- What a number for the next entry makes of it. -/
def Pr.at_ (p : Pr) (e : E) : E := ⟨(p.l.length : Int) + 1, e.kind, e.cut, e.tag, e.term, e.pos⟩
def Pr.err (p : Pr) (e : E) (may : Bool) : Int := if p.is = true then 120 else if Ent.right (p.at_ e) = false ∨ may = false then 1 else if p.l.length = 512 then 121 else 0
def Pr.next (p : Pr) (e : E) (may : Bool) : Pr := if p.err e may = 0 then ⟨p.c, p.l ++ [p.at_ e], p.f, p.is⟩ else p
def Pr.made (p : Pr) (e : E) (may : Bool) : E := if p.err e may = 0 then p.at_ e else Msg.ent0
def cutE (v : List Int) : E := ⟨0, 1, v, 0, 0, 0⟩
def trimE (tag t pos : Int) : E := ⟨0, 2, [], tag, t, pos⟩
def Pr.mayCut (p : Pr) (z v : List Int) : Bool := Vec.covers v (p.last z) && !Vec.same v (p.last z)
def Pr.mayTrim (p : Pr) (t : Int) : Bool := decide (t ≤ p.c.term)
def Pr.hears (p : Pr) (m : Msg.M) : Bool := decide (m.src ∈ p.c.seqs ∧ (m.kind = 4 ∨ m.kind = 6) ∧ m.term = p.c.term ∧ m.number ≤ (p.l.length : Int)) && Msg.right m
def upd (f : Int → Int) (n k : Int) : Int → Int := fun x => if x = n then max (f x) k else f x
def Pr.hear (p : Pr) (m : Msg.M) : Pr := if p.hears m = true then ⟨p.c, p.l, upd p.f m.src m.number, p.is || m.is⟩ else p
def Pr.committed (p : Pr) : Int := Vec.quorumNum (p.c.seqs.map p.f) (Term.majority p.c)
def Pr.missing (p : Pr) (n : Int) : List E := if n ∈ p.c.seqs then p.l.drop (p.f n).toNat else []
structure Pr.Ok (p : Pr) : Prop where
  right : Term.right p.c = true
  chain : Ent.isChain p.l
  f0 : ∀ x, 0 ≤ p.f x
  fle : ∀ x, p.f x ≤ (p.l.length : Int)
  max : p.l.length ≤ 512
def new (c : Term.C) : Pr := ⟨c, [], fun _ => 0, false⟩
theorem new_ok {c : Term.C} (h : Term.right c = true) : (new c).Ok := ⟨h, rfl, fun _ => Int.le_refl _, fun _ => Int.le_refl _, Nat.zero_le _⟩

theorem err_zero {p : Pr} {e : E} {may : Bool} (h : p.err e may = 0) : p.is = false ∧ Ent.right (p.at_ e) = true ∧ may = true ∧ p.l.length ≠ 512 := by
  unfold Pr.err at h
  split at h
  · cases h
  · next h1 =>
    split at h
    · cases h
    · next h2 =>
      split at h
      · cases h
      · next h3 =>
        refine ⟨by simpa using h1, ?_, ?_, h3⟩
        · cases hr : Ent.right (p.at_ e) with
          | true => rfl
          | false => exact absurd (.inl hr) h2
        · cases may with
          | true => rfl
          | false => exact absurd (.inr rfl) h2
theorem next_same {p : Pr} {e : E} {may : Bool} (h : p.err e may ≠ 0) : p.next e may = p := by unfold Pr.next; rw [if_neg h]
/-- What makes an entry one that follows. -/
def Fits (p : Pr) (e : E) (may : Bool) : Prop := may = true → e.kind = 1 → Ent.coversLast (Ent.lastCut p.l) e.cut = true
theorem next_follows {p : Pr} {e : E} {may : Bool} (h : p.err e may = 0) (hf : Fits p e may) : Ent.follows p.l (p.at_ e) = true := by
  obtain ⟨_, h2, h3, _⟩ := err_zero h
  exact (Ent.follows_iff _ _).2 ⟨h2, rfl, fun hk => hf h3 hk⟩
theorem Pr.Ok.next {p : Pr} (h : p.Ok) {e : E} {may : Bool} (hf : Fits p e may) : (p.next e may).Ok := by
  unfold Pr.next
  split
  · next he =>
    obtain ⟨_, _, _, h4⟩ := err_zero he
    have hm := h.max
    refine ⟨h.right, ?_, h.f0, fun x => ?_, ?_⟩
    · show Ent.isChain (p.l ++ [p.at_ e])
      have hc := h.chain
      unfold Ent.isChain at hc ⊢
      rw [Ent.chain_snoc, if_pos hc, if_pos (next_follows he hf)]
      simp
    · have := h.fle x
      show p.f x ≤ ((p.l ++ [p.at_ e]).length : Int)
      simp only [List.length_append, List.length_cons, List.length_nil]
      omega
    · show (p.l ++ [p.at_ e]).length ≤ 512
      simp only [List.length_append, List.length_cons, List.length_nil]
      omega
  · exact h
theorem covers_last {p : Pr} (h : p.Ok) {z v : List Int} (hm : p.mayCut z v = true) : Ent.coversLast (Ent.lastCut p.l) v = true := by
  unfold Pr.mayCut Pr.last at hm
  rw [Ent.lastOf_chain h.chain] at hm
  cases hc : Ent.lastCut p.l with
  | none => rfl
  | some c =>
    rw [hc] at hm
    simp only [Bool.and_eq_true] at hm
    exact hm.1
theorem fits_cut {p : Pr} (h : p.Ok) (z v : List Int) : Fits p (cutE v) (p.mayCut z v) := fun hm _ => covers_last h hm
theorem fits_trim (p : Pr) (tag t pos : Int) (b : Bool) : Fits p (trimE tag t pos) b := fun _ hk => by cases hk
theorem Pr.Ok.hear {p : Pr} (h : p.Ok) (m : Msg.M) : (p.hear m).Ok := by
  unfold Pr.hear
  split
  · next hh =>
    unfold Pr.hears at hh
    simp only [Bool.and_eq_true, decide_eq_true_eq] at hh
    refine ⟨h.right, h.chain, fun x => ?_, fun x => ?_, h.max⟩
    · show 0 ≤ upd p.f m.src m.number x
      have := h.f0 x
      unfold upd
      split <;> omega
    · show upd p.f m.src m.number x ≤ (p.l.length : Int)
      have := h.fle x
      unfold upd
      split <;> omega
  · exact h
theorem maj_in {c : Term.C} (h : Term.right c = true) : 1 ≤ Term.majority c ∧ Term.majority c ≤ c.seqs.length := by
  have h4 := (Term.right_ok h).2.2.2.1
  unfold Term.majority
  omega
theorem committed_is {p : Pr} (h : p.Ok) : Vec.IsQuorum (p.c.seqs.map p.f) (Term.majority p.c) p.committed := by
  have hm := maj_in h.right
  refine Vec.quorum_is (fun x hx => ?_) (by omega) (by rw [List.length_map]; omega)
  obtain ⟨y, _, rfl⟩ := List.mem_map.1 hx
  exact h.f0 y
theorem committed_le {p : Pr} (h : p.Ok) : 0 ≤ p.committed ∧ p.committed ≤ (p.l.length : Int) := by
  have hq := committed_is h
  refine ⟨hq.1, ?_⟩
  have hm := maj_in h.right
  obtain ⟨x, hx, hle, _⟩ := Vec.many_member (by omega) hq.2.1
  obtain ⟨y, _, rfl⟩ := List.mem_map.1 hx
  have := h.fle y
  omega
theorem many_up {f g : Int → Int} (h : ∀ x, f x ≤ g x) (l : List Int) (n : Int) : Vec.many (l.map f) n ≤ Vec.many (l.map g) n := by
  unfold Vec.many
  rw [List.countP_map, List.countP_map]
  refine List.countP_mono_left fun x _ hx => ?_
  simp only [Function.comp, decide_eq_true_eq] at hx ⊢
  have := h x
  omega
/-- What is committed never falls. -/
theorem committed_up {p q : Pr} (hp : p.Ok) (hq : q.Ok) (hc : p.c = q.c) (h : ∀ x, p.f x ≤ q.f x) : p.committed ≤ q.committed := by
  have h1 := committed_is hp
  have h2 := committed_is hq
  rcases Int.lt_or_le q.committed p.committed with hl | hl
  · have h3 := h2.2.2 _ hl
    have h4 := h1.2.1
    have h5 := many_up h p.c.seqs p.committed
    rw [hc] at h4 h5
    omega
  · exact hl
theorem next_keeps (p : Pr) (e : E) (may : Bool) : (p.next e may).c = p.c ∧ (p.next e may).f = p.f ∧ (p.next e may).is = p.is ∧ p.l.length ≤ (p.next e may).l.length := by
  unfold Pr.next
  split
  · exact ⟨rfl, rfl, rfl, by simp⟩
  · exact ⟨rfl, rfl, rfl, Nat.le_refl _⟩
theorem hear_keeps (p : Pr) (m : Msg.M) : (p.hear m).c = p.c ∧ (p.hear m).l = p.l ∧ ∀ x, p.f x ≤ (p.hear m).f x := by
  unfold Pr.hear
  split
  · refine ⟨rfl, rfl, fun x => ?_⟩
    show p.f x ≤ upd p.f m.src m.number x
    unfold upd
    split <;> omega
  · exact ⟨rfl, rfl, fun x => Int.le_refl _⟩

/-- A call. -/
structure Op where
  kind : Int
  tag : Int
  v : List Int
  term : Int
  pos : Int
  m : Msg.M
def Pr.z (p : Pr) : List Int := zerosI (p.c.shards.length : Int)
def Pr.doN (p : Pr) (o : Op) : Pr := if o.kind = 0 then p.next (cutE o.v) (p.mayCut p.z o.v) else if o.kind = 1 then p.next (trimE o.tag o.term o.pos) (p.mayTrim o.term) else if o.kind = 2 then p.hear o.m else p
def Pr.doE (p : Pr) (o : Op) : E := if o.kind = 0 then p.made (cutE o.v) (p.mayCut p.z o.v) else if o.kind = 1 then p.made (trimE o.tag o.term o.pos) (p.mayTrim o.term) else Msg.ent0
def Pr.doErr (p : Pr) (o : Op) : Int := if o.kind = 0 then p.err (cutE o.v) (p.mayCut p.z o.v) else if o.kind = 1 then p.err (trimE o.tag o.term o.pos) (p.mayTrim o.term) else if o.kind = 2 then (if p.hears o.m = true then 0 else 1) else 0
theorem Pr.Ok.doN {p : Pr} (h : p.Ok) (o : Op) : (p.doN o).Ok := by
  unfold Pr.doN
  split
  · exact h.next (fits_cut h _ _)
  · split
    · exact h.next (fits_trim _ _ _ _ _)
    · split
      · exact h.hear _
      · exact h
theorem doN_keeps (p : Pr) (o : Op) : (p.doN o).c = p.c ∧ (∀ x, p.f x ≤ (p.doN o).f x) ∧ p.l.length ≤ (p.doN o).l.length := by
  unfold Pr.doN
  split
  · obtain ⟨a, b, _, d⟩ := next_keeps p (cutE o.v) (p.mayCut p.z o.v)
    exact ⟨a, fun x => by rw [b]; exact Int.le_refl _, d⟩
  · split
    · obtain ⟨a, b, _, d⟩ := next_keeps p (trimE o.tag o.term o.pos) (p.mayTrim o.term)
      exact ⟨a, fun x => by rw [b]; exact Int.le_refl _, d⟩
    · split
      · obtain ⟨a, b, c⟩ := hear_keeps p o.m
        exact ⟨a, c, by rw [b]; exact Nat.le_refl _⟩
      · exact ⟨rfl, fun x => Int.le_refl _, Nat.le_refl _⟩
theorem rises {p : Pr} (h : p.Ok) (o : Op) : p.committed ≤ (p.doN o).committed ∧ (p.doN o).committed ≤ ((p.doN o).l.length : Int) ∧ p.l.length ≤ (p.doN o).l.length := by
  have hk := doN_keeps p o
  exact ⟨committed_up h (h.doN o) hk.1.symm hk.2.1, (committed_le (h.doN o)).2, hk.2.2⟩
/-- Numbers of a chain. -/
theorem chain_number {l : List E} (h : Ent.isChain l) {k : Nat} (hk : k < l.length) : (l[k]).number = (k : Int) + 1 := by
  have h1 : Ent.isChain (l.take (k + 1)) := by
    unfold Ent.isChain at *
    rw [Ent.chain_take, h, List.length_take]
  rw [List.take_succ_eq_append_getElem hk] at h1
  have h2 := ((Ent.follows_iff _ _).1 (Ent.isChain_snoc h1).2).2.1
  rw [List.length_take, Nat.min_eq_left (Nat.le_of_lt hk)] at h2
  exact h2
/-- The answer of a node that has all. -/
def allOf (p : Pr) (n : Int) : Msg.M := ⟨4, n, 0, p.c.term, 0, (p.l.length : Int), false, Msg.rec0, Msg.ent0, 0, 0, Msg.conf0⟩
theorem hears_all {p : Pr} (h : p.Ok) {n : Int} (hn : n ∈ p.c.seqs) : p.hears (allOf p n) = true := by
  have h1 := Term.right_ok h.right
  have hm := h.max
  have hu : 0 ≤ n ∧ n ≤ 15 := (Term.unlike_ok h1.2.2.2.2).1 n hn
  unfold Pr.hears
  simp only [Bool.and_eq_true, decide_eq_true_eq]
  refine ⟨⟨hn, .inl rfl, rfl, Int.le_refl _⟩, ?_⟩
  unfold Msg.right
  simp only [Bool.and_eq_true]
  refine ⟨?_, ?_⟩
  · unfold Msg.headOk allOf
    simp only [decide_eq_true_eq]
    omega
  · show Msg.kindOk (allOf p n) = true
    unfold Msg.kindOk allOf
    simp [Msg.quiet, Msg.plain, Msg.rec0, Msg.ent0, Msg.conf0, Rec.same, Ent.alike, Term.alike]
theorem missing_all {p : Pr} (h : p.Ok) {n : Int} (hn : n ∈ p.c.seqs) : (p.hear (allOf p n)).missing n = [] := by
  unfold Pr.hear
  rw [if_pos (hears_all h hn)]
  unfold Pr.missing
  simp only
  rw [if_pos hn]
  have : upd p.f (allOf p n).src (allOf p n).number n = (p.l.length : Int) := by
    unfold upd allOf
    simp only [if_true]
    have := h.fle n
    omega
  rw [this]
  simp
end Go.Proofs.Ytnoeconcpgdjlaa.Quo
