/-
  Layer 6, mathematics: configurations as bytes, what they tell, the next one; no program.
-/
import Derived.Test.YtpfodkgncachiaaRecMath
namespace Go.Proofs.Ytpfodkgncachiaa.Term

structure C where
  term : Int
  seqs : List Int
  shards : List (List Int)

def okNode (x : Int) : Bool := decide (0 ≤ x ∧ x ≤ 15)
/-- May nodes be, and are all unlike? -/
def unlike (l : List Int) : Bool := l.all okNode && decide l.Nodup
def okShard (l : List Int) : Bool := decide (1 ≤ l.length ∧ l.length ≤ 3) && unlike l
def right (c : C) : Bool := decide ((1 ≤ c.term ∧ c.term ≤ 64) ∧ 1 ≤ c.shards.length ∧ c.shards.length ≤ 8) && (c.shards.all okShard && (decide (c.seqs.length = 1 ∨ c.seqs.length = 3 ∨ c.seqs.length = 5 ∨ c.seqs.length = 7) && unlike c.seqs))

theorem unlike_ok {l : List Int} (h : unlike l = true) : (∀ x ∈ l, 0 ≤ x ∧ x ≤ 15) ∧ l.Nodup := by
  unfold unlike at h
  rw [Bool.and_eq_true, List.all_eq_true, decide_eq_true_eq] at h
  exact ⟨fun x hx => of_decide_eq_true (h.1 x hx), h.2⟩
theorem unlike_of {l : List Int} (h1 : ∀ x ∈ l, 0 ≤ x ∧ x ≤ 15) (h2 : l.Nodup) : unlike l = true := by
  unfold unlike
  rw [Bool.and_eq_true, List.all_eq_true, decide_eq_true_eq]
  exact ⟨fun x hx => decide_eq_true (h1 x hx), h2⟩
/-- One behind the others. -/
theorem unlike_snoc (l : List Int) (x : Int) : unlike (l ++ [x]) = (unlike l && (okNode x && !l.contains x)) := by
  rw [Bool.eq_iff_iff]
  unfold unlike
  simp only [List.all_append, Bool.and_eq_true, decide_eq_true_eq, List.all_cons, List.all_nil, and_true, List.nodup_append, List.nodup_cons, List.not_mem_nil, not_false_eq_true, List.nodup_nil, true_and, List.mem_singleton, Bool.not_eq_true', List.contains_eq_mem, decide_eq_false_iff_not]
  constructor
  · rintro ⟨⟨h1, h2⟩, h3, h4⟩
    exact ⟨⟨h1, h3⟩, h2, fun hm => h4 x hm x rfl rfl⟩
  · rintro ⟨⟨h1, h3⟩, h2, h4⟩
    exact ⟨⟨h1, h2⟩, h3, fun a ha b hb hab => h4 (by rw [← hb, ← hab]; exact ha)⟩
theorem unlike_filter {l : List Int} (p : Int → Bool) (h : unlike l = true) : unlike (l.filter p) = true := by
  obtain ⟨h1, h2⟩ := unlike_ok h
  exact unlike_of (fun x hx => h1 x (List.mem_filter.1 hx).1) (h2.filter p)
theorem unlike_take {l : List Int} (n : Nat) (h : unlike l = true) : unlike (l.take n) = true := by
  obtain ⟨h1, h2⟩ := unlike_ok h
  exact unlike_of (fun x hx => h1 x (List.mem_of_mem_take hx)) (h2.sublist (List.take_sublist n l))
theorem shard_ok {l : List Int} (h : okShard l = true) : 1 ≤ l.length ∧ l.length ≤ 3 ∧ unlike l = true := by
  unfold okShard at h
  rw [Bool.and_eq_true, decide_eq_true_eq] at h
  exact ⟨h.1.1, h.1.2, h.2⟩
theorem right_ok {c : C} (h : right c = true) : (1 ≤ c.term ∧ c.term ≤ 64) ∧ (1 ≤ c.shards.length ∧ c.shards.length ≤ 8) ∧ (∀ l ∈ c.shards, okShard l = true) ∧ (c.seqs.length = 1 ∨ c.seqs.length = 3 ∨ c.seqs.length = 5 ∨ c.seqs.length = 7) ∧ unlike c.seqs = true := by
  unfold right at h
  simp only [Bool.and_eq_true, decide_eq_true_eq, List.all_eq_true] at h
  exact ⟨h.1.1, h.1.2, h.2.1, h.2.2.1, h.2.2.2⟩
theorem right_of {c : C} (h1 : 1 ≤ c.term ∧ c.term ≤ 64) (h2 : 1 ≤ c.shards.length ∧ c.shards.length ≤ 8) (h3 : ∀ l ∈ c.shards, okShard l = true) (h4 : c.seqs.length = 1 ∨ c.seqs.length = 3 ∨ c.seqs.length = 5 ∨ c.seqs.length = 7) (h5 : unlike c.seqs = true) : right c = true := by
  unfold right
  simp only [Bool.and_eq_true, decide_eq_true_eq, List.all_eq_true]
  exact ⟨⟨h1, h2⟩, h3, h4, h5⟩

/-! As bytes. -/
def row (l : List Int) : List UInt8 := Pack.num l.length ++ Rec.numsOf l
def rowsOf (ls : List (List Int)) : List UInt8 := (ls.map row).flatten
theorem rowsOf_snoc (ls : List (List Int)) (l : List Int) : rowsOf (ls ++ [l]) = rowsOf ls ++ row l := by simp [rowsOf]
theorem rowsOf_cons (l : List Int) (ls : List (List Int)) : rowsOf (l :: ls) = row l ++ rowsOf ls := by simp [rowsOf]
def text (c : C) : List UInt8 := Pack.num c.term.toNat ++ (row c.seqs ++ (Pack.num c.shards.length ++ rowsOf c.shards))
def enc (c : C) : List UInt8 := text c ++ Crc.low (Crc.sum (text c))
/-- A row is read. -/
def readRow (s : Pack.St) : Pack.St × List Int := Rec.readsM 16 (s.num 16).1 (s.num 16).2
def readRows (s : Pack.St) : Nat → Pack.St × List (List Int)
  | 0 => (s, [])
  | k + 1 => ((readRow (readRows s k).1).1, (readRows s k).2 ++ [(readRow (readRows s k).1).2])
theorem readRows_len (s : Pack.St) (k : Nat) : (readRows s k).2.length = k := by
  induction k with
  | zero => rfl
  | succ k ih => simp [readRows, ih]
def stA (l : List UInt8) : Pack.St × Nat := Pack.St.num ⟨l, 0⟩ 64
def stB (l : List UInt8) : Pack.St × List Int := readRow (stA l).1
def stC (l : List UInt8) : Pack.St × Nat := (stB l).1.num 8
def stD (l : List UInt8) : Pack.St × List (List Int) := readRows (stC l).1 (stC l).2
def read (l : List UInt8) : C := ⟨(stA l).2, (stB l).2, (stD l).2⟩
def readOk (l : List UInt8) : Bool := ((stD l).1.done == 0) && right (read l)

theorem readRow_back {l : List Int} (h : ∀ x ∈ l, 0 ≤ x ∧ x ≤ 15) (h16 : l.length ≤ 16) (r : List UInt8) : readRow ⟨row l ++ r, 0⟩ = (⟨r, 0⟩, l) := by
  unfold readRow row
  rw [List.append_assoc, Pack.read_num _ _ _ _ (by omega) (by omega)]
  have := Rec.reads_back 16 l (fun x hx => by have := h x hx; omega) r l.length (Nat.le_refl _)
  rw [List.drop_length, List.take_length] at this
  exact this
theorem readRows_back (ls : List (List Int)) (h : ∀ l ∈ ls, okShard l = true) (r : List UInt8) : ∀ k, k ≤ ls.length → readRows ⟨rowsOf ls ++ r, 0⟩ k = (⟨rowsOf (ls.drop k) ++ r, 0⟩, ls.take k) := by
  intro k
  induction k with
  | zero => intro _; simp [readRows]
  | succ k ih =>
    intro hk
    have hlt : k < ls.length := by omega
    obtain ⟨h1, h2, h3⟩ := shard_ok (h _ (List.getElem_mem hlt))
    have hd : ls.drop k = ls[k] :: ls.drop (k + 1) := by rw [List.drop_eq_getElem_cons hlt]
    unfold readRows
    rw [ih (by omega), hd, rowsOf_cons, List.append_assoc]
    rw [readRow_back (unlike_ok h3).1 (by omega), List.take_succ_eq_append_getElem hlt]
theorem read_text {c : C} (h : right c = true) : (stD (text c)).1 = ⟨[], 0⟩ ∧ read (text c) = c := by
  obtain ⟨h1, h2, h3, h4, h5⟩ := right_ok h
  have hA : stA (text c) = (⟨row c.seqs ++ (Pack.num c.shards.length ++ rowsOf c.shards), 0⟩, c.term.toNat) := Pack.read_num _ _ _ _ (by omega) (by omega)
  have hB : stB (text c) = (⟨Pack.num c.shards.length ++ rowsOf c.shards, 0⟩, c.seqs) := by
    unfold stB; rw [hA]; exact readRow_back (unlike_ok h5).1 (by omega) _
  have hC : stC (text c) = (⟨rowsOf c.shards, 0⟩, c.shards.length) := by
    unfold stC; rw [hB]; exact Pack.read_num _ _ _ _ (by omega) (by omega)
  have hD : stD (text c) = (⟨[], 0⟩, c.shards) := by
    unfold stD; rw [hC]
    have := readRows_back c.shards h3 [] c.shards.length (Nat.le_refl _)
    rw [List.drop_length, List.take_length, List.append_nil] at this
    exact this
  refine ⟨by rw [hD], ?_⟩
  unfold read
  rw [hA, hB, hD]
  obtain ⟨t, s, d⟩ := c
  simp only at h1 ⊢
  rw [show ((t.toNat : Nat) : Int) = t from by omega]
theorem text_inj {a b : C} (ha : right a = true) (hb : right b = true) (h : text a = text b) : a = b := by
  rw [← (read_text ha).2, ← (read_text hb).2, h]
theorem readOk_text {c : C} (h : right c = true) : readOk (text c) = true := by
  unfold readOk
  rw [(read_text h).1, (read_text h).2, h]
  rfl
theorem enc_inj {a b : C} (ha : right a = true) (hb : right b = true) (h : enc a = enc b) : a = b := by
  unfold enc at h
  have hl := congrArg List.length h
  simp only [List.length_append, Crc.low_length] at hl
  exact text_inj ha hb (List.append_inj_left h (by omega))
def dec (b : List UInt8) : Option C := match Crc.cutOf b with
  | none => none
  | some l => if readOk l then some (read l) else none
theorem dec_enc {c : C} (h : right c = true) : dec (enc c) = some c := by
  unfold dec enc
  rw [Crc.cut_put]
  simp only [readOk_text h, if_true, (read_text h).2]

/-! Two majorities meet. -/
def majority (c : C) : Nat := c.seqs.length / 2 + 1
theorem meet (p q : Int → Bool) : ∀ l : List Int, l.length < l.countP p + l.countP q → ∃ x ∈ l, p x = true ∧ q x = true := by
  intro l
  induction l with
  | nil => intro h; simp at h
  | cons x l ih =>
    intro h
    by_cases hp : p x = true
    · by_cases hq : q x = true
      · exact ⟨x, by simp, hp, hq⟩
      · rw [List.countP_cons_of_pos hp, List.countP_cons_of_neg hq, List.length_cons] at h
        obtain ⟨y, hy, h2⟩ := ih (by omega)
        exact ⟨y, by simp [hy], h2⟩
    · rw [List.countP_cons_of_neg hp, List.length_cons] at h
      have : (x :: l).countP q ≤ l.countP q + 1 := by rw [List.countP_cons]; split <;> omega
      obtain ⟨y, hy, h2⟩ := ih (by omega)
      exact ⟨y, by simp [hy], h2⟩
theorem majorities_meet {c : C} {p q : Int → Bool} (hp : majority c ≤ c.seqs.countP p) (hq : majority c ≤ c.seqs.countP q) : c.seqs.any (fun x => p x && q x) = true := by
  obtain ⟨x, hx, h1, h2⟩ := meet p q c.seqs (by unfold majority at hp hq; omega)
  rw [List.any_eq_true]
  exact ⟨x, hx, by rw [h1, h2]; rfl⟩

/-! Who all are: rising, each once. -/
def put : List Int → Int → List Int
  | [], n => [n]
  | x :: l, n => if n < x then n :: x :: l else if n = x then x :: l else x :: put l n
theorem mem_put (n y : Int) : ∀ l : List Int, y ∈ put l n ↔ y = n ∨ y ∈ l := by
  intro l
  induction l with
  | nil => simp [put]
  | cons x l ih =>
    simp only [put]
    split
    · simp
    · split
      · rename_i h; subst h; simp
      · simp only [List.mem_cons, ih]
        constructor
        · rintro (h | h | h)
          · exact .inr (.inl h)
          · exact .inl h
          · exact .inr (.inr h)
        · rintro (h | h | h)
          · exact .inr (.inl h)
          · exact .inl h
          · exact .inr (.inr h)
def rises (l : List Int) : Prop := l.Pairwise (· < ·)
theorem rises_put (n : Int) : ∀ l : List Int, rises l → rises (put l n) := by
  intro l
  induction l with
  | nil => intro _; simp [put, rises]
  | cons x l ih =>
    intro h
    obtain ⟨h1, h2⟩ := List.pairwise_cons.1 h
    simp only [put]
    split
    · rename_i hx
      refine List.pairwise_cons.2 ⟨?_, h⟩
      intro y hy
      rcases List.mem_cons.1 hy with rfl | hy
      · exact hx
      · have := h1 y hy; omega
    · split
      · exact h
      · refine List.pairwise_cons.2 ⟨?_, ih h2⟩
        intro y hy
        rcases (mem_put n y l).1 hy with rfl | hy
        · omega
        · exact h1 y hy
/-- Rows that rise and have the same are one. -/
theorem rises_same : ∀ a b : List Int, rises a → rises b → (∀ x, x ∈ a ↔ x ∈ b) → a = b := by
  intro a
  induction a with
  | nil =>
    intro b _ _ h
    cases b with
    | nil => rfl
    | cons y b => exact absurd ((h y).2 (by simp)) (by simp)
  | cons x a ih =>
    intro b ha hb h
    cases b with
    | nil => exact absurd ((h x).1 (by simp)) (by simp)
    | cons y b =>
      obtain ⟨a1, a2⟩ := List.pairwise_cons.1 ha
      obtain ⟨b1, b2⟩ := List.pairwise_cons.1 hb
      have hxy : x = y := by
        rcases List.mem_cons.1 ((h x).1 (by simp)) with e | e
        · exact e
        · rcases List.mem_cons.1 ((h y).2 (by simp)) with f | f
          · exact f.symm
          · have := b1 x e; have := a1 y f; omega
      subst hxy
      rw [ih b a2 b2]
      intro z
      constructor
      · intro hz
        rcases List.mem_cons.1 ((h z).1 (by simp [hz])) with e | e
        · have := a1 z hz; omega
        · exact e
      · intro hz
        rcases List.mem_cons.1 ((h z).2 (by simp [hz])) with e | e
        · have := b1 z hz; omega
        · exact e
def all (c : C) : List Int := c.seqs ++ c.shards.flatten
def nodes (c : C) : List Int := (all c).foldl put []
theorem foldl_put : ∀ (l d : List Int), rises d → rises (l.foldl put d) ∧ ∀ x, x ∈ l.foldl put d ↔ x ∈ d ∨ x ∈ l := by
  intro l
  induction l with
  | nil => intro d hd; exact ⟨hd, fun x => by simp⟩
  | cons n l ih =>
    intro d hd
    obtain ⟨h1, h2⟩ := ih (put d n) (rises_put n d hd)
    refine ⟨h1, fun x => ?_⟩
    rw [List.foldl_cons, h2 x, mem_put, List.mem_cons]
    constructor
    · rintro ((h | h) | h)
      · exact .inr (.inl h)
      · exact .inl h
      · exact .inr (.inr h)
    · rintro (h | h | h)
      · exact .inl (.inr h)
      · exact .inl (.inl h)
      · exact .inr h
theorem nodes_rise (c : C) : rises (nodes c) := (foldl_put (all c) [] List.Pairwise.nil).1
theorem mem_nodes (c : C) (x : Int) : x ∈ nodes c ↔ x ∈ all c := by
  unfold nodes
  rw [(foldl_put (all c) [] List.Pairwise.nil).2 x]
  simp

/-! The next one. -/
def left (l gone : List Int) : List Int := l.filter (fun x => !gone.contains x)
def odd (l : List Int) : List Int := if l.length % 2 = 0 then l.take (l.length - 1) else l
def next (c : C) (gone : List Int) : C := ⟨c.term + 1, odd (left c.seqs gone), c.shards.map (fun l => left l gone)⟩
def nextOk (c : C) (gone : List Int) : Bool := right c && right (next c gone)
theorem mem_left {l gone : List Int} {x : Int} (h : x ∈ left l gone) : x ∈ l ∧ x ∉ gone := by
  unfold left at h
  rw [List.mem_filter] at h
  refine ⟨h.1, ?_⟩
  have := h.2
  simpa using this
theorem mem_odd {l : List Int} {x : Int} (h : x ∈ odd l) : x ∈ l := by
  unfold odd at h
  split at h
  · exact List.mem_of_mem_take h
  · exact h
/-- Who is in the next one was in this one, and is not gone. -/
theorem next_nodes {c : C} {gone : List Int} {x : Int} (h : x ∈ nodes (next c gone)) : x ∈ nodes c ∧ x ∉ gone := by
  rw [mem_nodes] at h ⊢
  unfold all next at h
  simp only [List.mem_append, List.mem_flatten, List.mem_map] at h
  rcases h with h | ⟨l, ⟨m, hm, rfl⟩, hx⟩
  · obtain ⟨h1, h2⟩ := mem_left (mem_odd h)
    exact ⟨List.mem_append.2 (.inl h1), h2⟩
  · obtain ⟨h1, h2⟩ := mem_left hx
    exact ⟨List.mem_append.2 (.inr (List.mem_flatten.2 ⟨m, hm, h1⟩)), h2⟩
theorem left_none {l gone : List Int} (h : ∀ x ∈ l, x ∉ gone) : left l gone = l := by
  unfold left
  rw [List.filter_eq_self]
  intro x hx
  have := h x hx
  simpa using this
/-- Where nobody of these is gone the next one is as this, but for its number. -/
theorem next_none {c : C} {gone : List Int} (hc : right c = true) (h : ∀ x ∈ all c, x ∉ gone) : next c gone = ⟨c.term + 1, c.seqs, c.shards⟩ := by
  obtain ⟨_, _, _, h4, _⟩ := right_ok hc
  unfold next
  rw [left_none (fun x hx => h x (List.mem_append.2 (.inl hx)))]
  have h1 : odd c.seqs = c.seqs := by unfold odd; rw [if_neg (by omega)]
  have h2 : c.shards.map (fun l => left l gone) = c.shards := by
    have h3 : c.shards.map (fun l => left l gone) = c.shards.map id := List.map_congr_left (fun l hl => left_none (fun x hx => h x (List.mem_append.2 (.inr (List.mem_flatten.2 ⟨l, hl, hx⟩)))))
    rw [h3, List.map_id]
  rw [h1, h2]
/-! Are two configurations the same? -/
def alike (a b : C) : Bool := (a.term == b.term) && ((a.seqs == b.seqs) && (a.shards == b.shards))
theorem alike_iff (a b : C) : alike a b = true ↔ a = b := by
  obtain ⟨a1, a2, a3⟩ := a
  obtain ⟨b1, b2, b3⟩ := b
  unfold alike
  simp
theorem alike_self (a : C) : alike a a = true := (alike_iff a a).2 rfl
theorem row_le {l : List Int} (h : ∀ x ∈ l, 0 ≤ x ∧ x ≤ 15) (hl : l.length ≤ 100) : (row l).length ≤ 9 + 9 * l.length := by
  have key : ∀ l : List Int, (∀ x ∈ l, 0 ≤ x ∧ x ≤ 15) → (Rec.numsOf l).length ≤ 9 * l.length := by
    intro l
    induction l with
    | nil => intro _; simp [Rec.numsOf]
    | cons x l ih =>
      intro hl
      rw [Rec.numsOf_cons, List.length_append, List.length_cons]
      have := Pack.num_nine (n := x.toNat) (by have := hl x (by simp); omega)
      have := ih (fun y hy => hl y (by simp [hy]))
      omega
  have h1 := key l h
  have h2 := Pack.num_nine (n := l.length) (by omega)
  unfold row
  rw [List.length_append]
  omega
theorem rowsOf_le : ∀ ls : List (List Int), (∀ l ∈ ls, okShard l = true) → (rowsOf ls).length ≤ 36 * ls.length := by
  intro ls
  induction ls with
  | nil => intro _; simp [rowsOf]
  | cons l ls ih =>
    intro h
    obtain ⟨h1, h2, h3⟩ := shard_ok (h l (by simp))
    have := row_le (unlike_ok h3).1 (by omega)
    have := ih (fun m hm => h m (by simp [hm]))
    rw [rowsOf_cons, List.length_append, List.length_cons]
    omega
theorem enc_le {c : C} (h : right c = true) : (enc c).length ≤ 382 := by
  obtain ⟨h1, h2, h3, h4, h5⟩ := right_ok h
  have n1 := Pack.num_nine (n := c.term.toNat) (by omega)
  have n2 := row_le (unlike_ok h5).1 (by omega)
  have n3 := Pack.num_nine (n := c.shards.length) (by omega)
  have n4 := rowsOf_le c.shards h3
  unfold enc text
  simp only [List.length_append, Crc.low_length]
  omega
end Go.Proofs.Ytpfodkgncachiaa.Term
