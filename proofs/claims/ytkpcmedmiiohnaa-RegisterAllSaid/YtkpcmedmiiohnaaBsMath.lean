/-
  Merged: Layer 2, mathematics: numbers as bytes of seven bits; Plain mathematics of CRC-32 on natural numbers: the step, the table, that it is linear, that a turned byte is told; Layer 4, mathematics: records as bytes; Layer 6, mathematics: configurations as bytes, what they tell, the next one; Layer 3, mathematics: vectors; Layer 5, mathematics: entries as bytes, chains; Layer 5, mathematics: the last cut by a walk from behind; Layer 5, mathematics: bytes as an entry.
-/
import Derived.Below
import Derived.Test.YtkpcmedmiiohnaaBsLib

set_option linter.unusedSimpArgs false
set_option linter.unusedVariables false

/- Layer 2, mathematics: numbers as bytes of seven bits; no program. -/
namespace Go.Proofs.Ytkpcmedmiiohnaa.Pack

/-- A number's bytes, the lowest seven bits first. -/
def num (n : Nat) : List UInt8 := if n < 128 then [UInt8.ofNat n] else UInt8.ofNat (128 + n % 128) :: num (n / 128)
termination_by n
decreasing_by omega
/-- The number that bytes are. -/
def val : List UInt8 → Nat
  | [] => 0
  | b :: l => b.toNat % 128 + 128 * val l
/-- How many bytes ahead of the first one that is below 128. -/
def lead : List UInt8 → Nat
  | [] => 0
  | b :: l => if b.toNat < 128 then 0 else lead l + 1
/-- What is left, and the first error. -/
structure St where
  left : List UInt8
  err : Int
def St.fail (s : St) (e : Int) : St := ⟨[], if s.err = 0 then e else s.err⟩
/-- Is what is read not as short as can be, or too great? -/
def wrong (s : List UInt8) (most : Int) : Prop := (2 ≤ s.length ∧ s.getLast? = some 0) ∨ 4611686018427387904 < val s ∨ most < (val s : Int)
instance (s : List UInt8) (most : Int) : Decidable (wrong s most) := by unfold wrong; infer_instance
/-- A number is read. -/
def St.num (s : St) (most : Int) : St × Nat :=
  if 9 ≤ lead s.left then (s.fail 21, 0)
  else if s.left.length ≤ lead s.left then (s.fail 20, 0)
  else if wrong (s.left.take (lead s.left + 1)) most then (s.fail 21, 0)
  else (⟨s.left.drop (lead s.left + 1), s.err⟩, val (s.left.take (lead s.left + 1)))
/-- A text is read. -/
def St.text (s : St) (most : Int) : St × List UInt8 :=
  let r := s.num most
  if r.1.left.length < r.2 then (r.1.fail 20, []) else (⟨r.1.left.drop r.2, r.1.err⟩, r.1.left.take r.2)
/-- Whether something is, is read. -/
def St.bool (s : St) : St × Bool :=
  match s.left with
  | [] => (s.fail 20, false)
  | b :: l => if 1 < b.toNat then (s.fail 21, false) else (⟨l, s.err⟩, b == 1)
def St.done (s : St) : Int := if s.left = [] then s.err else 22

/-! Parts, as they are written. -/
structure Part where
  kind : Int
  n : Int
  most : Int
  s : List UInt8
  is : Bool
def Part.good (p : Part) : Bool := if p.kind = 0 then decide (0 ≤ p.n ∧ p.n ≤ 4611686018427387904) else if p.kind = 1 then decide (p.s.length ≤ 65536) else true
def Part.bytes (p : Part) : List UInt8 :=
  if p.kind = 0 then (if 0 ≤ p.n ∧ p.n ≤ 4611686018427387904 then num p.n.toNat else [])
  else if p.kind = 1 then (if p.s.length ≤ 65536 then num p.s.length ++ p.s else [])
  else if p.kind = 2 then [if p.is then 1 else 0] else []
end Go.Proofs.Ytkpcmedmiiohnaa.Pack

/- Plain mathematics of CRC-32 on natural numbers: the step, the table, that it is linear, that a turned byte is told. No program. -/
namespace Go.Proofs.Ytkpcmedmiiohnaa.Crc

/-- One bit out. -/
def step (n : Nat) : Nat := if n % 2 = 1 then (n / 2) ^^^ 3988292384 else n / 2
/-- k bits out. -/
def steps : Nat → Nat → Nat
  | 0, n => n
  | k + 1, n => steps k (step n)
/-- One byte more. -/
def byte (n : Nat) (x : UInt8) : Nat := steps 8 (n ^^^ x.toNat)
def run (n : Nat) (l : List UInt8) : Nat := l.foldl byte n
def more (s : Nat) (l : List UInt8) : Nat := 4294967295 - run (4294967295 - s) l
def sum (l : List UInt8) : Nat := more 0 l
def low (n : Nat) : List UInt8 := [UInt8.ofNat n, UInt8.ofNat (n / 256), UInt8.ofNat (n / 65536), UInt8.ofNat (n / 16777216)]

/-! The table, filled by halves. -/
/-! Bytes of which one, and perhaps its neighbour, is another one. -/

end Go.Proofs.Ytkpcmedmiiohnaa.Crc

/- Layer 4, mathematics: records as bytes; no program. -/
namespace Go.Proofs.Ytkpcmedmiiohnaa.Rec

structure R where
  client : Int
  number : Int
  tags : List Int
  data : List UInt8

/-- Do these rise, from above last on, up to 2^30? -/
def rising : Int → List Int → Bool
  | _, [] => true
  | last, t :: l => decide (last < t ∧ t ≤ 1073741824) && rising t l
def okId (n : Int) : Bool := decide (0 ≤ n ∧ n ≤ 1099511627776)
def right (r : R) : Bool := okId r.client && (okId r.number && (rising 0 r.tags && decide (r.tags.length ≤ 8 ∧ r.data.length ≤ 1024)))
/-- Numbers, one behind the other. -/
def numsOf (ns : List Int) : List UInt8 := (ns.map fun n => Pack.num n.toNat).flatten
/-- A record without its sum. -/
def text (r : R) : List UInt8 := Pack.num r.client.toNat ++ (Pack.num r.number.toNat ++ (Pack.num r.tags.length ++ (numsOf r.tags ++ (Pack.num r.data.length ++ r.data))))
def enc (r : R) : List UInt8 := text r ++ Crc.low (Crc.sum (text r))

theorem rising_ok : ∀ (l : List Int) (last : Int), 0 ≤ last → rising last l = true → ∀ x ∈ l, 1 ≤ x ∧ x ≤ 1073741824 := by
  intro l
  induction l with
  | nil => intro _ _ _ x hx; cases hx
  | cons t l ih =>
    intro last h0 h x hx
    simp only [rising, Bool.and_eq_true, decide_eq_true_eq] at h
    rcases List.mem_cons.1 hx with rfl | hx
    · omega
    · exact ih t (by omega) h.2 x hx
theorem right_ok {r : R} (h : right r = true) : (0 ≤ r.client ∧ r.client ≤ 1099511627776) ∧ (0 ≤ r.number ∧ r.number ≤ 1099511627776) ∧ rising 0 r.tags = true ∧ (∀ x ∈ r.tags, 1 ≤ x ∧ x ≤ 1073741824) ∧ r.tags.length ≤ 8 ∧ r.data.length ≤ 1024 := by
  unfold right okId at h
  simp only [Bool.and_eq_true, decide_eq_true_eq] at h
  obtain ⟨h1, h2, h3, h4, h5⟩ := h
  exact ⟨h1, h2, h3, rising_ok _ 0 (by omega) h3, h4, h5⟩

/-! What is read without an error is what is written. -/
/-! Tags. -/
def same (a b : R) : Bool := (a.client == b.client) && ((a.number == b.number) && ((a.tags == b.tags) && (a.data == b.data)))
/-! Places. -/
end Go.Proofs.Ytkpcmedmiiohnaa.Rec

/- Layer 6, mathematics: configurations as bytes, what they tell, the next one; no program. -/
namespace Go.Proofs.Ytkpcmedmiiohnaa.Term

structure C where
  term : Int
  seqs : List Int
  shards : List (List Int)

def okNode (x : Int) : Bool := decide (0 ≤ x ∧ x ≤ 15)
/-- May nodes be, and are all unlike? -/
def unlike (l : List Int) : Bool := l.all okNode && decide l.Nodup
def okShard (l : List Int) : Bool := decide (1 ≤ l.length ∧ l.length ≤ 3) && unlike l
def right (c : C) : Bool := decide ((1 ≤ c.term ∧ c.term ≤ 64) ∧ 1 ≤ c.shards.length ∧ c.shards.length ≤ 8) && (c.shards.all okShard && (decide (c.seqs.length = 1 ∨ c.seqs.length = 3 ∨ c.seqs.length = 5 ∨ c.seqs.length = 7) && unlike c.seqs))

theorem unlike_ok {l : List Int} (h : unlike l = true) : (∀ x ∈ l, 0 ≤ x ∧ x ≤ 15) ∧ l.Nodup := by
  unfold unlike at h
  rw [Bool.and_eq_true, List.all_eq_true, decide_eq_true_eq] at h
  exact ⟨fun x hx => of_decide_eq_true (h.1 x hx), h.2⟩
theorem unlike_of {l : List Int} (h1 : ∀ x ∈ l, 0 ≤ x ∧ x ≤ 15) (h2 : l.Nodup) : unlike l = true := by
  unfold unlike
  rw [Bool.and_eq_true, List.all_eq_true, decide_eq_true_eq]
  exact ⟨fun x hx => decide_eq_true (h1 x hx), h2⟩
/-- One behind the others. -/
theorem unlike_snoc (l : List Int) (x : Int) : unlike (l ++ [x]) = (unlike l && (okNode x && !l.contains x)) := by
  rw [Bool.eq_iff_iff]
  unfold unlike
  simp only [List.all_append, Bool.and_eq_true, decide_eq_true_eq, List.all_cons, List.all_nil, and_true, List.nodup_append, List.nodup_cons, List.not_mem_nil, not_false_eq_true, List.nodup_nil, true_and, List.mem_singleton, Bool.not_eq_true', List.contains_eq_mem, decide_eq_false_iff_not]
  constructor
  · rintro ⟨⟨h1, h2⟩, h3, h4⟩
    exact ⟨⟨h1, h3⟩, h2, fun hm => h4 x hm x rfl rfl⟩
  · rintro ⟨⟨h1, h3⟩, h2, h4⟩
    exact ⟨⟨h1, h2⟩, h3, fun a ha b hb hab => h4 (by rw [← hb, ← hab]; exact ha)⟩
theorem unlike_take {l : List Int} (n : Nat) (h : unlike l = true) : unlike (l.take n) = true := by
  obtain ⟨h1, h2⟩ := unlike_ok h
  exact unlike_of (fun x hx => h1 x (List.mem_of_mem_take hx)) (h2.sublist (List.take_sublist n l))
theorem shard_ok {l : List Int} (h : okShard l = true) : 1 ≤ l.length ∧ l.length ≤ 3 ∧ unlike l = true := by
  unfold okShard at h
  rw [Bool.and_eq_true, decide_eq_true_eq] at h
  exact ⟨h.1.1, h.1.2, h.2⟩
theorem right_ok {c : C} (h : right c = true) : (1 ≤ c.term ∧ c.term ≤ 64) ∧ (1 ≤ c.shards.length ∧ c.shards.length ≤ 8) ∧ (∀ l ∈ c.shards, okShard l = true) ∧ (c.seqs.length = 1 ∨ c.seqs.length = 3 ∨ c.seqs.length = 5 ∨ c.seqs.length = 7) ∧ unlike c.seqs = true := by
  unfold right at h
  simp only [Bool.and_eq_true, decide_eq_true_eq, List.all_eq_true] at h
  exact ⟨h.1.1, h.1.2, h.2.1, h.2.2.1, h.2.2.2⟩
theorem right_of {c : C} (h1 : 1 ≤ c.term ∧ c.term ≤ 64) (h2 : 1 ≤ c.shards.length ∧ c.shards.length ≤ 8) (h3 : ∀ l ∈ c.shards, okShard l = true) (h4 : c.seqs.length = 1 ∨ c.seqs.length = 3 ∨ c.seqs.length = 5 ∨ c.seqs.length = 7) (h5 : unlike c.seqs = true) : right c = true := by
  unfold right
  simp only [Bool.and_eq_true, decide_eq_true_eq, List.all_eq_true]
  exact ⟨⟨h1, h2⟩, h3, h4, h5⟩

/-! As bytes. -/
def row (l : List Int) : List UInt8 := Pack.num l.length ++ Rec.numsOf l
def rowsOf (ls : List (List Int)) : List UInt8 := (ls.map row).flatten
def text (c : C) : List UInt8 := Pack.num c.term.toNat ++ (row c.seqs ++ (Pack.num c.shards.length ++ rowsOf c.shards))
def enc (c : C) : List UInt8 := text c ++ Crc.low (Crc.sum (text c))
/-! Two majorities meet. -/
/-! Who all are: rising, each once. -/
def put : List Int → Int → List Int
  | [], n => [n]
  | x :: l, n => if n < x then n :: x :: l else if n = x then x :: l else x :: put l n
def all (c : C) : List Int := c.seqs ++ c.shards.flatten
/-! The next one. -/
def left (l gone : List Int) : List Int := l.filter (fun x => !gone.contains x)
def odd (l : List Int) : List Int := if l.length % 2 = 0 then l.take (l.length - 1) else l
def next (c : C) (gone : List Int) : C := ⟨c.term + 1, odd (left c.seqs gone), c.shards.map (fun l => left l gone)⟩
/-! Are two configurations the same? -/
def alike (a b : C) : Bool := (a.term == b.term) && ((a.seqs == b.seqs) && (a.shards == b.shards))
theorem alike_iff (a b : C) : alike a b = true ↔ a = b := by
  obtain ⟨a1, a2, a3⟩ := a
  obtain ⟨b1, b2, b3⟩ := b
  unfold alike
  simp
theorem alike_self (a : C) : alike a a = true := (alike_iff a a).2 rfl
end Go.Proofs.Ytkpcmedmiiohnaa.Term

/- Layer 3, mathematics: vectors; no program. -/
namespace Go.Proofs.Ytkpcmedmiiohnaa.Vec

def okOne (x : Int) : Bool := decide (0 ≤ x ∧ x ≤ 1099511627776)
/-- Is a row of numbers a vector? -/
def right (v : List Int) : Bool := v.all okOne && decide (1 ≤ v.length ∧ v.length ≤ 8)
def kind (a b : List Int) : Bool := right a && right b && decide (a.length = b.length)
def big (x y : Int) : Int := if x < y then y else x
def small (x y : Int) : Int := if x < y then x else y
def max (a b : List Int) : List Int := List.zipWith big a b
def min (a b : List Int) : List Int := List.zipWith small a b
/-- Is no number of a below that of b? -/
def ge : List Int → List Int → Bool
  | x :: a, y :: b => decide (y ≤ x) && ge a b
  | _, _ => true
def covers (a b : List Int) : Bool := kind a b && ge a b
def same (a b : List Int) : Bool := covers a b && covers b a
def total (v : List Int) : Int := if right v then v.sum else 0
def set (v : List Int) (k : Nat) (n : Int) : List Int := v.set k (big (v.getD k 0) n)

theorem right_ok {v : List Int} (h : right v = true) : (∀ x ∈ v, 0 ≤ x ∧ x ≤ 1099511627776) ∧ 1 ≤ v.length ∧ v.length ≤ 8 := by
  unfold right okOne at h
  simp only [Bool.and_eq_true, List.all_eq_true, decide_eq_true_eq] at h
  exact h
theorem right_of {v : List Int} (h : ∀ x ∈ v, 0 ≤ x ∧ x ≤ 1099511627776) (h1 : 1 ≤ v.length) (h8 : v.length ≤ 8) : right v = true := by
  unfold right okOne
  simp only [Bool.and_eq_true, List.all_eq_true, decide_eq_true_eq]
  exact ⟨h, h1, h8⟩
theorem kind_ok {a b : List Int} (h : kind a b = true) : right a = true ∧ right b = true ∧ a.length = b.length := by
  unfold kind at h
  simp only [Bool.and_eq_true, decide_eq_true_eq] at h
  exact ⟨h.1.1, h.1.2, h.2⟩
theorem ge_iff : ∀ (a b : List Int), a.length = b.length → (ge a b = true ↔ ∀ i (h : i < a.length) (h' : i < b.length), b[i] ≤ a[i]) := by
  intro a
  induction a with
  | nil => intro b h; simp [ge]
  | cons x a ih =>
    intro b h
    cases b with
    | nil => simp at h
    | cons y b =>
      simp only [List.length_cons, Nat.add_right_cancel_iff] at h
      simp only [ge, Bool.and_eq_true, decide_eq_true_eq, ih b h]
      constructor
      · rintro ⟨h1, h2⟩ i hi hi'
        cases i with
        | zero => exact h1
        | succ i => exact h2 i (by simpa using hi) (by simpa using hi')
      · intro h1
        refine ⟨h1 0 (by simp) (by simp), fun i hi hi' => ?_⟩
        have := h1 (i + 1) (by simpa using hi) (by simpa using hi')
        simpa using this
theorem sum_bound : ∀ (v : List Int), (∀ x ∈ v, 0 ≤ x ∧ x ≤ 1099511627776) → 0 ≤ v.sum ∧ v.sum ≤ 1099511627776 * v.length := by
  intro v
  induction v with
  | nil => intro _; simp
  | cons x v ih =>
    intro h
    have h1 := h x (by simp)
    have h2 := ih (fun y hy => h y (by simp [hy]))
    simp only [List.sum_cons, List.length_cons]
    omega
/-! What so many have. -/
def many (xs : List Int) (n : Int) : Nat := xs.countP (fun x => decide (n ≤ x))
end Go.Proofs.Ytkpcmedmiiohnaa.Vec

/- Layer 5, mathematics: entries as bytes, chains; no program. -/
namespace Go.Proofs.Ytkpcmedmiiohnaa.Ent

structure E where
  number : Int
  kind : Int
  cut : List Int
  tag : Int
  term : Int
  pos : Int

def rightCut (e : E) : Bool := Vec.right e.cut && decide (e.tag = 0 ∧ e.term = 0 ∧ e.pos = 0)
def rightTrim (e : E) : Bool := e.cut.isEmpty && decide ((0 ≤ e.tag ∧ e.tag ≤ 1073741824) ∧ (1 ≤ e.term ∧ e.term ≤ 64) ∧ 0 ≤ e.pos ∧ e.pos ≤ 1099511627776)
def right (e : E) : Bool := decide (1 ≤ e.number ∧ e.number ≤ 1099511627776) && ((decide (e.kind = 1) && rightCut e) || (decide (e.kind = 2) && rightTrim e))
/-- A vector's bytes. -/
def vecBytes (v : List Int) : List UInt8 := Pack.num v.length ++ Rec.numsOf v
def body (e : E) : List UInt8 := if e.kind = 1 then Pack.num (vecBytes e.cut).length ++ vecBytes e.cut else Pack.num e.tag.toNat ++ (Pack.num e.term.toNat ++ Pack.num e.pos.toNat)
def text (e : E) : List UInt8 := Pack.num e.number.toNat ++ (Pack.num e.kind.toNat ++ body e)
def enc (e : E) : List UInt8 := text e ++ Crc.low (Crc.sum (text e))

theorem right_ok {e : E} (h : right e = true) : (1 ≤ e.number ∧ e.number ≤ 1099511627776) ∧ ((e.kind = 1 ∧ Vec.right e.cut = true ∧ e.tag = 0 ∧ e.term = 0 ∧ e.pos = 0) ∨ (e.kind = 2 ∧ e.cut = [] ∧ (0 ≤ e.tag ∧ e.tag ≤ 1073741824) ∧ (1 ≤ e.term ∧ e.term ≤ 64) ∧ 0 ≤ e.pos ∧ e.pos ≤ 1099511627776)) := by
  unfold right rightCut rightTrim at h
  simp only [Bool.and_eq_true, Bool.or_eq_true, decide_eq_true_eq, List.isEmpty_iff] at h
  obtain ⟨h1, h2⟩ := h
  refine ⟨h1, ?_⟩
  rcases h2 with ⟨k, v, t⟩ | ⟨k, v, t⟩
  · exact .inl ⟨k, v, t.1, t.2.1, t.2.2⟩
  · exact .inr ⟨k, v, t.1, t.2.1, t.2.2⟩
theorem same {a b : E} (h1 : a.number = b.number) (h2 : a.kind = b.kind) (h3 : a.cut = b.cut) (h4 : a.tag = b.tag) (h5 : a.term = b.term) (h6 : a.pos = b.pos) : a = b := by
  cases a
  cases b
  simp only at h1 h2 h3 h4 h5 h6
  subst h1 h2 h3 h4 h5 h6
  rfl
/-! Chains. -/
/-- The last cut. -/
def lastCut (l : List E) : Option (List Int) := l.foldl (fun c e => if e.kind = 1 then some e.cut else c) none
theorem lastCut_snoc (l : List E) (e : E) : lastCut (l ++ [e]) = if e.kind = 1 then some e.cut else lastCut l := by
  unfold lastCut
  rw [List.foldl_append]
  rfl
def coversLast (c : Option (List Int)) (v : List Int) : Bool := match c with
  | none => true
  | some u => Vec.covers v u
/-- May an entry stand behind these? -/
def follows (l : List E) (e : E) : Bool := right e && (decide (e.number = (l.length : Int) + 1) && (!decide (e.kind = 1) || coversLast (lastCut l) e.cut))
def chainFrom : List E → List E → Nat
  | _, [] => 0
  | d, e :: r => if follows d e then chainFrom (d ++ [e]) r + 1 else 0
/-- How many of the first ones are a chain. -/
def chain (l : List E) : Nat := chainFrom [] l
theorem chainFrom_le : ∀ (r d : List E), chainFrom d r ≤ r.length := by
  intro r
  induction r with
  | nil => intro d; exact Nat.le_refl _
  | cons e r ih =>
    intro d
    simp only [chainFrom]
    split
    · have := ih (d ++ [e]); simp only [List.length_cons]; omega
    · omega
theorem chain_le (l : List E) : chain l ≤ l.length := chainFrom_le l []
theorem chainFrom_take : ∀ (r d : List E) (n : Nat), chainFrom d (r.take n) = min n (chainFrom d r) := by
  intro r
  induction r with
  | nil => intro d n; simp [chainFrom]
  | cons e r ih =>
    intro d n
    cases n with
    | zero => simp [chainFrom]
    | succ n =>
      simp only [List.take_succ_cons, chainFrom]
      split
      · rw [ih (d ++ [e]) n]; omega
      · omega
/-- Each beginning of a chain is one. -/
theorem chain_take (l : List E) (n : Nat) : chain (l.take n) = min n (chain l) := chainFrom_take l [] n
theorem chainFrom_snoc : ∀ (r d : List E) (e : E), chainFrom d (r ++ [e]) = if chainFrom d r = r.length then (if follows (d ++ r) e then r.length + 1 else r.length) else chainFrom d r := by
  intro r
  induction r with
  | nil => intro d e; simp [chainFrom]
  | cons x r ih =>
    intro d e
    simp only [List.cons_append, chainFrom, List.length_cons]
    by_cases hf : follows d x = true
    · rw [if_pos hf, if_pos hf, ih (d ++ [x]) e, List.append_assoc]
      simp only [List.cons_append, List.nil_append]
      by_cases hc : chainFrom (d ++ [x]) r = r.length
      · rw [if_pos hc, if_pos (show chainFrom (d ++ [x]) r + 1 = r.length + 1 by omega)]
        by_cases hg : follows (d ++ x :: r) e = true
        · rw [if_pos hg, if_pos hg]
        · rw [if_neg hg, if_neg hg]
      · rw [if_neg hc, if_neg (show ¬ chainFrom (d ++ [x]) r + 1 = r.length + 1 by omega)]
    · rw [if_neg hf, if_neg hf, if_neg (by omega)]
theorem chain_snoc (l : List E) (e : E) : chain (l ++ [e]) = if chain l = l.length then (if follows l e then l.length + 1 else l.length) else chain l := chainFrom_snoc l [] e
/-- Is all of it a chain? -/
def isChain (l : List E) : Prop := chain l = l.length
theorem isChain_snoc {l : List E} {e : E} (h : isChain (l ++ [e])) : isChain l ∧ follows l e = true := by
  unfold isChain at h ⊢
  rw [chain_snoc, List.length_append] at h
  have := chain_le l
  by_cases hc : chain l = l.length
  · rw [if_pos hc] at h
    refine ⟨hc, ?_⟩
    by_cases hf : follows l e = true
    · exact hf
    · rw [if_neg hf] at h; simp at h
  · rw [if_neg hc] at h; simp at h; omega
theorem isChain_take (l : List E) : isChain (l.take (chain l)) := by
  unfold isChain
  rw [chain_take, List.length_take]
  have := chain_le l
  omega
/-- The last cut of a chain, or so many zeros. -/
def lastOf (l : List E) (zero : List Int) : List Int := match lastCut (l.take (chain l)) with
  | none => zero
  | some c => c
/-! Are two entries the same? -/
def alike (a b : E) : Bool := (a.number == b.number) && ((a.kind == b.kind) && ((a.cut == b.cut) && ((a.tag == b.tag) && ((a.term == b.term) && (a.pos == b.pos)))))
theorem alike_iff (a b : E) : alike a b = true ↔ a = b := by
  obtain ⟨a1, a2, a3, a4, a5, a6⟩ := a
  obtain ⟨b1, b2, b3, b4, b5, b6⟩ := b
  unfold alike
  simp
theorem alike_self (a : E) : alike a a = true := (alike_iff a a).2 rfl
end Go.Proofs.Ytkpcmedmiiohnaa.Ent

/- Layer 5, mathematics: the last cut by a walk from behind; entries of which none is a cut; no program. -/
namespace Go.Proofs.Ytkpcmedmiiohnaa.Ent

/-- Behind the last cut there is none. -/
theorem lastCut_none : ∀ (l : List E), (∀ e ∈ l, e.kind ≠ 1) → lastCut l = none := by
  intro l h
  have key : ∀ (n : Nat) (l : List E), l.length = n → (∀ e ∈ l, e.kind ≠ 1) → lastCut l = none := by
    intro n
    induction n with
    | zero => intro l hl _; rw [List.eq_nil_of_length_eq_zero hl]; rfl
    | succ n ih =>
      intro l hl h
      have hne : l ≠ [] := by rintro rfl; simp at hl
      obtain ⟨d, x, rfl⟩ : ∃ d x, l = d ++ [x] := ⟨l.dropLast, l.getLast hne, (List.dropLast_concat_getLast hne).symm⟩
      rw [lastCut_snoc, if_neg (h x (by simp))]
      exact ih d (by simpa using hl) (fun e he => h e (by simp [he]))
  exact key l.length l rfl h
/-- Entries of which none is a cut leave the last one as it was. -/
theorem lastCut_trims : ∀ (ts l : List E), (∀ e ∈ ts, e.kind ≠ 1) → lastCut (l ++ ts) = lastCut l := by
  intro ts
  induction ts with
  | nil => intro l _; rw [List.append_nil]
  | cons t ts ih =>
    intro l h
    have e : l ++ t :: ts = (l ++ [t]) ++ ts := by simp
    rw [e, ih (l ++ [t]) (fun x hx => h x (by simp [hx])), lastCut_snoc, if_neg (h t (by simp))]
/-- The last one of the kind 1, with none behind it. -/
theorem lastCut_at (l : List E) (i : Nat) (hi : i < l.length) (hk : l[i].kind = 1) (h : ∀ e ∈ l.drop (i + 1), e.kind ≠ 1) : lastCut l = some l[i].cut := by
  have e : l = (l.take i ++ [l[i]]) ++ l.drop (i + 1) := by
    rw [List.append_assoc, List.singleton_append, ← List.drop_eq_getElem_cons hi, List.take_append_drop]
  have h1 := lastCut_trims (l.drop (i + 1)) (l.take i ++ [l[i]]) h
  rw [← e, lastCut_snoc, if_pos hk] at h1
  exact h1
/-- One step of the walk from behind. -/
theorem drop_kinds {l : List E} {i : Nat} (hi : i < l.length) (hk : l[i].kind ≠ 1) (h : ∀ e ∈ l.drop (i + 1), e.kind ≠ 1) : ∀ e ∈ l.drop i, e.kind ≠ 1 := by
  intro e he
  rw [List.drop_eq_getElem_cons hi] at he
  rcases List.mem_cons.1 he with rfl | he
  · exact hk
  · exact h e he
theorem lastCut_drop {l : List E} (h : ∀ e ∈ l.drop 0, e.kind ≠ 1) : lastCut l = none := lastCut_none l (by simpa using h)
theorem lastOf_nil (z : List Int) : lastOf [] z = z := rfl
/-- What Chain reckons, entry by entry: k of them are a chain; is the next one? -/
theorem chain_next {l : List E} {k : Nat} (hk : k < l.length) (h : chain (l.take k) = k) : chain (l.take (k + 1)) = if follows (l.take k) l[k] then k + 1 else k := by
  have hl : (l.take k).length = k := by rw [List.length_take]; omega
  rw [List.take_succ_eq_append_getElem hk, chain_snoc, hl, if_pos h]
/-- Where the next one is none, that is the chain. -/
theorem chain_stop {l : List E} {k : Nat} (hk : k < l.length) (h : chain (l.take k) = k) (hf : follows (l.take k) l[k] = false) : chain l = k := by
  have h1 := chain_next hk h
  rw [hf] at h1
  have h2 := chain_take l (k + 1)
  rw [h1] at h2
  simp only [Bool.false_eq_true, if_false] at h2
  omega
theorem chain_end {l : List E} (h : chain (l.take l.length) = l.length) : chain l = l.length := by rwa [List.take_length] at h
theorem follows_iff (d : List E) (e : E) : follows d e = true ↔ right e = true ∧ e.number = (d.length : Int) + 1 ∧ (e.kind = 1 → coversLast (lastCut d) e.cut = true) := by
  unfold follows
  simp only [Bool.and_eq_true, Bool.or_eq_true, Bool.not_eq_true', decide_eq_false_iff_not, decide_eq_true_eq]
  constructor
  · rintro ⟨h1, h2, h3⟩
    exact ⟨h1, h2, fun hk => h3.resolve_left (fun h => h hk)⟩
  · rintro ⟨h1, h2, h3⟩
    refine ⟨h1, h2, ?_⟩
    by_cases hk : e.kind = 1
    · exact .inr (h3 hk)
    · exact .inl hk
/-- Of a chain all are right; the last cut is one of them. -/
theorem isChain_right : ∀ (n : Nat) (l : List E), l.length = n → isChain l → ∀ e ∈ l, right e = true := by
  intro n
  induction n with
  | zero => intro l hl _ e he; rw [List.eq_nil_of_length_eq_zero hl] at he; cases he
  | succ n ih =>
    intro l hl hc e he
    have hne : l ≠ [] := by rintro rfl; simp at hl
    obtain ⟨d, x, rfl⟩ : ∃ d x, l = d ++ [x] := ⟨l.dropLast, l.getLast hne, (List.dropLast_concat_getLast hne).symm⟩
    obtain ⟨hd, hf⟩ := isChain_snoc hc
    rcases List.mem_append.1 he with hm | hm
    · exact ih d (by simpa using hl) hd e hm
    · obtain rfl : e = x := by simpa using hm
      exact ((follows_iff d e).1 hf).1
theorem lastCut_some : ∀ (n : Nat) (l : List E), l.length = n → ∀ c, lastCut l = some c → ∃ e ∈ l, e.kind = 1 ∧ e.cut = c := by
  intro n
  induction n with
  | zero => intro l hl c h; rw [List.eq_nil_of_length_eq_zero hl] at h; cases h
  | succ n ih =>
    intro l hl c h
    have hne : l ≠ [] := by rintro rfl; simp at hl
    obtain ⟨d, x, rfl⟩ : ∃ d x, l = d ++ [x] := ⟨l.dropLast, l.getLast hne, (List.dropLast_concat_getLast hne).symm⟩
    rw [lastCut_snoc] at h
    by_cases hx : x.kind = 1
    · rw [if_pos hx] at h
      injection h with h
      exact ⟨x, by simp, hx, h⟩
    · rw [if_neg hx] at h
      obtain ⟨e, he, h1⟩ := ih d (by simpa using hl) c h
      exact ⟨e, by simp [he], h1⟩
theorem last_right {l : List E} {c : List Int} (h : lastCut (l.take (chain l)) = some c) : Vec.right c = true := by
  obtain ⟨e, he, hk, rfl⟩ := lastCut_some _ _ rfl c h
  rcases (right_ok (isChain_right _ _ rfl (isChain_take l) e he)).2 with ⟨_, hv, _⟩ | ⟨h, _⟩
  · exact hv
  · omega
end Go.Proofs.Ytkpcmedmiiohnaa.Ent

/- Layer 5, mathematics: bytes as an entry; no program. How a vector is read is left open (vd): that it is read back is all that is wanted. -/
namespace Go.Proofs.Ytkpcmedmiiohnaa.Ent

def big : Int := 4611686018427387904
end Go.Proofs.Ytkpcmedmiiohnaa.Ent
