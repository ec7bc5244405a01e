/-
  Layer 5, mathematics: entries as bytes, chains; no program.
-/
import Derived.Test.YtboopfbflfimlaaRecMath
import Derived.Test.YtboopfbflfimlaaVecMath
namespace Go.Proofs.Ytboopfbflfimlaa.Ent

structure E where
  number : Int
  kind : Int
  cut : List Int
  tag : Int
  term : Int
  pos : Int

def rightCut (e : E) : Bool := Vec.right e.cut && decide (e.tag = 0 ∧ e.term = 0 ∧ e.pos = 0)
def rightTrim (e : E) : Bool := e.cut.isEmpty && decide ((0 ≤ e.tag ∧ e.tag ≤ 1073741824) ∧ (1 ≤ e.term ∧ e.term ≤ 64) ∧ 0 ≤ e.pos ∧ e.pos ≤ 1099511627776)
def right (e : E) : Bool := decide (1 ≤ e.number ∧ e.number ≤ 1099511627776) && ((decide (e.kind = 1) && rightCut e) || (decide (e.kind = 2) && rightTrim e))
/-- A vector's bytes. -/
def vecBytes (v : List Int) : List UInt8 := Pack.num v.length ++ Rec.numsOf v
def body (e : E) : List UInt8 := if e.kind = 1 then Pack.num (vecBytes e.cut).length ++ vecBytes e.cut else Pack.num e.tag.toNat ++ (Pack.num e.term.toNat ++ Pack.num e.pos.toNat)
def text (e : E) : List UInt8 := Pack.num e.number.toNat ++ (Pack.num e.kind.toNat ++ body e)
def enc (e : E) : List UInt8 := text e ++ Crc.low (Crc.sum (text e))

theorem right_ok {e : E} (h : right e = true) : (1 ≤ e.number ∧ e.number ≤ 1099511627776) ∧ ((e.kind = 1 ∧ Vec.right e.cut = true ∧ e.tag = 0 ∧ e.term = 0 ∧ e.pos = 0) ∨ (e.kind = 2 ∧ e.cut = [] ∧ (0 ≤ e.tag ∧ e.tag ≤ 1073741824) ∧ (1 ≤ e.term ∧ e.term ≤ 64) ∧ 0 ≤ e.pos ∧ e.pos ≤ 1099511627776)) := by
  unfold right rightCut rightTrim at h
  simp only [Bool.and_eq_true, Bool.or_eq_true, decide_eq_true_eq, List.isEmpty_iff] at h
  obtain ⟨h1, h2⟩ := h
  refine ⟨h1, ?_⟩
  rcases h2 with ⟨k, v, t⟩ | ⟨k, v, t⟩
  · exact .inl ⟨k, v, t.1, t.2.1, t.2.2⟩
  · exact .inr ⟨k, v, t.1, t.2.1, t.2.2⟩
theorem vecBytes_le {v : List Int} (h : Vec.right v = true) : (vecBytes v).length ≤ 81 := by
  obtain ⟨h1, _, h3⟩ := Vec.right_ok h
  have key : ∀ l : List Int, (∀ x ∈ l, 0 ≤ x ∧ x ≤ 1099511627776) → (Rec.numsOf l).length ≤ 9 * l.length := by
    intro l
    induction l with
    | nil => intro _; simp [Rec.numsOf]
    | cons x l ih =>
      intro hl
      rw [Rec.numsOf_cons, List.length_append, List.length_cons]
      have := Pack.num_nine (n := x.toNat) (by have := hl x (by simp); omega)
      have := ih (fun y hy => hl y (by simp [hy]))
      omega
  have h4 := key v h1
  have h5 := Pack.num_nine (n := v.length) (by omega)
  unfold vecBytes
  rw [List.length_append]
  omega

/-- A number in front is told apart from what is behind. -/
theorem num_cancel {n m : Nat} {r s : List UInt8} (hn : n ≤ 4611686018427387904) (hm : m ≤ 4611686018427387904) (h : Pack.num n ++ r = Pack.num m ++ s) : n = m ∧ r = s := by
  have h1 := Pack.read_num n r 0 4611686018427387904 hn (by omega)
  have h2 := Pack.read_num m s 0 4611686018427387904 hm (by omega)
  rw [h, h2] at h1
  injection h1 with h3 h4
  injection h3 with h3
  exact ⟨h4.symm, h3.symm⟩
theorem numsOf_inj : ∀ (a b : List Int), (∀ x ∈ a, 0 ≤ x ∧ x ≤ 1099511627776) → (∀ x ∈ b, 0 ≤ x ∧ x ≤ 1099511627776) → a.length = b.length → Rec.numsOf a = Rec.numsOf b → a = b := by
  intro a
  induction a with
  | nil => intro b _ _ hl _; cases b with
    | nil => rfl
    | cons => simp at hl
  | cons x a ih =>
    intro b ha hb hl h
    cases b with
    | nil => simp at hl
    | cons y b =>
      rw [Rec.numsOf_cons, Rec.numsOf_cons] at h
      have hx := ha x (by simp)
      have hy := hb y (by simp)
      obtain ⟨e1, e2⟩ := num_cancel (by omega) (by omega) h
      have := ih b (fun z hz => ha z (by simp [hz])) (fun z hz => hb z (by simp [hz])) (by simpa using hl) e2
      rw [this, show x = y from by omega]
theorem vecBytes_inj {a b : List Int} (ha : Vec.right a = true) (hb : Vec.right b = true) (h : vecBytes a = vecBytes b) : a = b := by
  obtain ⟨a1, a2, a3⟩ := Vec.right_ok ha
  obtain ⟨b1, b2, b3⟩ := Vec.right_ok hb
  obtain ⟨e1, e2⟩ := num_cancel (by omega) (by omega) h
  exact numsOf_inj a b a1 b1 e1 e2
theorem body_one {e : E} (h : e.kind = 1) : body e = Pack.num (vecBytes e.cut).length ++ vecBytes e.cut := by unfold body; rw [if_pos h]
theorem body_two {e : E} (h : e.kind ≠ 1) : body e = Pack.num e.tag.toNat ++ (Pack.num e.term.toNat ++ Pack.num e.pos.toNat) := by unfold body; rw [if_neg h]
theorem same {a b : E} (h1 : a.number = b.number) (h2 : a.kind = b.kind) (h3 : a.cut = b.cut) (h4 : a.tag = b.tag) (h5 : a.term = b.term) (h6 : a.pos = b.pos) : a = b := by
  cases a
  cases b
  simp only at h1 h2 h3 h4 h5 h6
  subst h1 h2 h3 h4 h5 h6
  rfl
theorem text_inj {a b : E} (ha : right a = true) (hb : right b = true) (h : text a = text b) : a = b := by
  obtain ⟨a1, a2⟩ := right_ok ha
  obtain ⟨b1, b2⟩ := right_ok hb
  unfold text at h
  obtain ⟨e1, h⟩ := num_cancel (by omega) (by omega) h
  have ka : 0 ≤ a.kind ∧ a.kind ≤ 2 := by rcases a2 with ⟨k, _⟩ | ⟨k, _⟩ <;> omega
  have kb : 0 ≤ b.kind ∧ b.kind ≤ 2 := by rcases b2 with ⟨k, _⟩ | ⟨k, _⟩ <;> omega
  obtain ⟨e2, h⟩ := num_cancel (by omega) (by omega) h
  have hk : a.kind = b.kind := by omega
  have hn : a.number = b.number := by omega
  rcases a2 with ⟨k, v, t1, t2, t3⟩ | ⟨k, v, t1, t2, t3⟩
  · rcases b2 with ⟨k', v', u1, u2, u3⟩ | ⟨k', _⟩
    · rw [body_one k, body_one k'] at h
      have l1 := vecBytes_le v
      have l2 := vecBytes_le v'
      obtain ⟨_, h⟩ := num_cancel (by omega) (by omega) h
      exact same hn hk (vecBytes_inj v v' h) (by omega) (by omega) (by omega)
    · omega
  · rcases b2 with ⟨k', _⟩ | ⟨k', v', u1, u2, u3⟩
    · omega
    · rw [body_two (by omega), body_two (by omega)] at h
      obtain ⟨f1, h⟩ := num_cancel (by omega) (by omega) h
      obtain ⟨f2, h⟩ := num_cancel (by omega) (by omega) h
      have h' : Pack.num a.pos.toNat ++ [] = Pack.num b.pos.toNat ++ [] := by rw [h]
      obtain ⟨f3, _⟩ := num_cancel (by omega) (by omega) h'
      exact same hn hk (v.trans v'.symm) (by omega) (by omega) (by omega)
theorem enc_inj {a b : E} (ha : right a = true) (hb : right b = true) (h : enc a = enc b) : a = b := by
  unfold enc at h
  have hl := congrArg List.length h
  simp only [List.length_append, Crc.low_length] at hl
  exact text_inj ha hb (List.append_inj_left h (by omega))

/-! Chains. -/
theorem covers_trans {a b c : List Int} (h1 : Vec.covers a b = true) (h2 : Vec.covers b c = true) : Vec.covers a c = true := by
  have k1 := Vec.covers_kind h1
  have k2 := Vec.covers_kind h2
  have k : Vec.kind a c = true := Vec.kind_of (Vec.kind_ok k1).1 (Vec.kind_ok k2).2.1 ((Vec.kind_ok k1).2.2.trans (Vec.kind_ok k2).2.2)
  rw [Vec.covers_iff k1] at h1
  rw [Vec.covers_iff k2] at h2
  rw [Vec.covers_iff k]
  intro i hi hi'
  have hb : i < b.length := by have := (Vec.kind_ok k1).2.2; omega
  have := h1 i hi hb
  have := h2 i hb hi'
  omega
theorem covers_total {a b : List Int} (h : Vec.covers a b = true) : Vec.total b ≤ Vec.total a := by
  have h1 := Vec.total_gain h
  have h2 := Vec.total_bound (Vec.gain a b)
  omega
/-- The last cut. -/
def lastCut (l : List E) : Option (List Int) := l.foldl (fun c e => if e.kind = 1 then some e.cut else c) none
theorem lastCut_snoc (l : List E) (e : E) : lastCut (l ++ [e]) = if e.kind = 1 then some e.cut else lastCut l := by
  unfold lastCut
  rw [List.foldl_append]
  rfl
def coversLast (c : Option (List Int)) (v : List Int) : Bool := match c with
  | none => true
  | some u => Vec.covers v u
/-- May an entry stand behind these? -/
def follows (l : List E) (e : E) : Bool := right e && (decide (e.number = (l.length : Int) + 1) && (!decide (e.kind = 1) || coversLast (lastCut l) e.cut))
def chainFrom : List E → List E → Nat
  | _, [] => 0
  | d, e :: r => if follows d e then chainFrom (d ++ [e]) r + 1 else 0
/-- How many of the first ones are a chain. -/
def chain (l : List E) : Nat := chainFrom [] l
theorem chainFrom_le : ∀ (r d : List E), chainFrom d r ≤ r.length := by
  intro r
  induction r with
  | nil => intro d; exact Nat.le_refl _
  | cons e r ih =>
    intro d
    simp only [chainFrom]
    split
    · have := ih (d ++ [e]); simp only [List.length_cons]; omega
    · omega
theorem chain_le (l : List E) : chain l ≤ l.length := chainFrom_le l []
theorem chainFrom_take : ∀ (r d : List E) (n : Nat), chainFrom d (r.take n) = min n (chainFrom d r) := by
  intro r
  induction r with
  | nil => intro d n; simp [chainFrom]
  | cons e r ih =>
    intro d n
    cases n with
    | zero => simp [chainFrom]
    | succ n =>
      simp only [List.take_succ_cons, chainFrom]
      split
      · rw [ih (d ++ [e]) n]; omega
      · omega
/-- Each beginning of a chain is one. -/
theorem chain_take (l : List E) (n : Nat) : chain (l.take n) = min n (chain l) := chainFrom_take l [] n
theorem chainFrom_snoc : ∀ (r d : List E) (e : E), chainFrom d (r ++ [e]) = if chainFrom d r = r.length then (if follows (d ++ r) e then r.length + 1 else r.length) else chainFrom d r := by
  intro r
  induction r with
  | nil => intro d e; simp [chainFrom]
  | cons x r ih =>
    intro d e
    simp only [List.cons_append, chainFrom, List.length_cons]
    by_cases hf : follows d x = true
    · rw [if_pos hf, if_pos hf, ih (d ++ [x]) e, List.append_assoc]
      simp only [List.cons_append, List.nil_append]
      by_cases hc : chainFrom (d ++ [x]) r = r.length
      · rw [if_pos hc, if_pos (show chainFrom (d ++ [x]) r + 1 = r.length + 1 by omega)]
        by_cases hg : follows (d ++ x :: r) e = true
        · rw [if_pos hg, if_pos hg]
        · rw [if_neg hg, if_neg hg]
      · rw [if_neg hc, if_neg (show ¬ chainFrom (d ++ [x]) r + 1 = r.length + 1 by omega)]
    · rw [if_neg hf, if_neg hf, if_neg (by omega)]
theorem chain_snoc (l : List E) (e : E) : chain (l ++ [e]) = if chain l = l.length then (if follows l e then l.length + 1 else l.length) else chain l := chainFrom_snoc l [] e
/-- Is all of it a chain? -/
def isChain (l : List E) : Prop := chain l = l.length
theorem isChain_snoc {l : List E} {e : E} (h : isChain (l ++ [e])) : isChain l ∧ follows l e = true := by
  unfold isChain at h ⊢
  rw [chain_snoc, List.length_append] at h
  have := chain_le l
  by_cases hc : chain l = l.length
  · rw [if_pos hc] at h
    refine ⟨hc, ?_⟩
    by_cases hf : follows l e = true
    · exact hf
    · rw [if_neg hf] at h; simp at h
  · rw [if_neg hc] at h; simp at h; omega
theorem isChain_take (l : List E) : isChain (l.take (chain l)) := by
  unfold isChain
  rw [chain_take, List.length_take]
  have := chain_le l
  omega
/-- Of a chain the last cut covers all. -/
theorem chain_covers : ∀ (n : Nat) (l : List E), l.length = n → isChain l → ∀ e ∈ l, e.kind = 1 → ∃ c, lastCut l = some c ∧ Vec.covers c e.cut = true := by
  intro n
  induction n with
  | zero => intro l hl _ e he; rw [List.eq_nil_of_length_eq_zero hl] at he; cases he
  | succ n ih =>
    intro l hl hc e he hk
    have hne : l ≠ [] := by rintro rfl; simp at hl
    obtain ⟨d, x, rfl⟩ : ∃ d x, l = d ++ [x] := ⟨l.dropLast, l.getLast hne, (List.dropLast_concat_getLast hne).symm⟩
    obtain ⟨hd, hf⟩ := isChain_snoc hc
    have hdl : d.length = n := by simpa using hl
    unfold follows at hf
    simp only [Bool.and_eq_true, Bool.or_eq_true, Bool.not_eq_true', decide_eq_false_iff_not, decide_eq_true_eq] at hf
    obtain ⟨hr, _, hcov⟩ := hf
    rw [lastCut_snoc]
    rcases List.mem_append.1 he with hm | hm
    · obtain ⟨c, hc1, hc2⟩ := ih d hdl hd e hm hk
      by_cases hx : x.kind = 1
      · rw [if_pos hx]
        refine ⟨x.cut, rfl, ?_⟩
        rcases hcov with h | h
        · exact absurd hx h
        · rw [hc1] at h
          exact covers_trans h hc2
      · rw [if_neg hx]
        exact ⟨c, hc1, hc2⟩
    · obtain rfl : e = x := by simpa using hm
      rw [if_pos hk]
      refine ⟨e.cut, rfl, Vec.covers_self ?_⟩
      rcases (right_ok hr).2 with h | h
      · exact h.2.1
      · omega
/-- The last cut of a chain, or so many zeros. -/
def lastOf (l : List E) (zero : List Int) : List Int := match lastCut (l.take (chain l)) with
  | none => zero
  | some c => c
/-! Are two entries the same? -/
def alike (a b : E) : Bool := (a.number == b.number) && ((a.kind == b.kind) && ((a.cut == b.cut) && ((a.tag == b.tag) && ((a.term == b.term) && (a.pos == b.pos)))))
theorem alike_iff (a b : E) : alike a b = true ↔ a = b := by
  obtain ⟨a1, a2, a3, a4, a5, a6⟩ := a
  obtain ⟨b1, b2, b3, b4, b5, b6⟩ := b
  unfold alike
  simp
theorem alike_self (a : E) : alike a a = true := (alike_iff a a).2 rfl
theorem enc_le {e : E} (h : right e = true) : (enc e).length ≤ 112 := by
  obtain ⟨h1, h2⟩ := right_ok h
  have n1 := Pack.num_nine (n := e.number.toNat) (by omega)
  have n2 := Pack.num_nine (n := e.kind.toNat) (by rcases h2 with ⟨k, _⟩ | ⟨k, _⟩ <;> omega)
  unfold enc text
  simp only [List.length_append, Crc.low_length]
  rcases h2 with ⟨k, v, t⟩ | ⟨k, v, t1, t2, t3⟩
  · have hl := vecBytes_le v
    have n3 := Pack.num_nine (n := (vecBytes e.cut).length) (by omega)
    rw [body_one k, List.length_append]
    omega
  · have n3 := Pack.num_nine (n := e.tag.toNat) (by omega)
    have n4 := Pack.num_nine (n := e.term.toNat) (by omega)
    have n5 := Pack.num_nine (n := e.pos.toNat) (by omega)
    rw [body_two (by omega)]
    simp only [List.length_append]
    omega
end Go.Proofs.Ytboopfbflfimlaa.Ent
