/-
  Merged: Layer 14, mathematics: which configuration each term has.
-/
import Derived.Test.YtkpcmedmiiohnaaBsMath
import Derived.Test.YtkpcmedmiiohnaaBsVec

set_option linter.unusedSimpArgs false
set_option linter.unusedVariables false

/- Layer 14, mathematics: which configuration each term has. -/
namespace Go.Proofs.Ytkpcmedmiiohnaa.Reg

structure Row where
  c : Term.C
  tail : List Ent.E
  start : Int
/-- How many records a term has that is over. -/
def many (c : Term.C) (l : List Ent.E) : Int := (Ent.lastOf l (zeros c.shards.length)).sum
def first (R : List Row) : Int := match R with | [] => 0 | x :: _ => x.c.term
def current (R : List Row) : Int := first R + (R.length : Int) - 1
/-- Where a term stands. -/
def where_ (R : List Row) (t : Int) : Option Nat := if first R ≤ t ∧ t ≤ current R then some (t - first R).toNat else none
def look (R : List Row) (t : Int) : Option Row := (where_ R t).bind fun i => R[i]?
def misfit (c : Term.C) (e : Ent.E) : Bool := decide (e.kind = 1) && !decide (e.cut.length = c.shards.length)
/-- May a configuration come with that tail? -/
def good (R : List Row) (c : Term.C) (l : List Ent.E) : Prop := Term.right c = true ∧ Ent.chain l = l.length ∧ ∀ a, look R (c.term - 1) = some a → ∀ e ∈ l, misfit a.c e = false
structure Ok (R : List Row) : Prop where
  ne : 0 < R.length
  right : ∀ x ∈ R, Term.right x.c = true
  term : ∀ i (h : i < R.length), R[i].c.term = first R + (i : Int)
  zero : R[0].start = 0
  starts : ∀ i (h : i + 1 < R.length), R[i + 1].start = R[i].start + many R[i].c R[i].tail
  many : ∀ x ∈ R, 0 ≤ many x.c x.tail ∧ many x.c x.tail ≤ 8796093022208
  last : (R[R.length - 1]'(by omega)).tail = []
  chain : ∀ x ∈ R, Ent.chain x.tail = x.tail.length
/-- What Install tells, and leaves. -/
inductive Inst (R : List Row) (c : Term.C) (l : List Ent.E) : Int → List Row → Prop
  | bad (h : ¬ good R c l) : Inst R c l 1 R
  | same (h : good R c l) (x a : Row) (hx : look R c.term = some x) (ha : look R (c.term - 1) = some a) (h1 : x.c = c) (h2 : a.tail = l) : Inst R c l 0 R
  | other (h : good R c l) (x : Row) (hx : look R c.term = some x) (hn : ¬ ∃ a, look R (c.term - 1) = some a ∧ x.c = c ∧ a.tail = l) : Inst R c l 140 R
  | none (h : good R c l) (hx : look R c.term = Option.none) (ha : look R (c.term - 1) = Option.none) : Inst R c l 141 R
  | next (h : good R c l) (hx : look R c.term = Option.none) (pre : List Row) (a : Row) (hR : R = pre ++ [a]) (ha : look R (c.term - 1) = some a) : Inst R c l 0 (pre ++ [⟨a.c, l, a.start⟩, ⟨c, [], a.start + Reg.many a.c l⟩])

theorem Ok.first_is {R : List Row} (h : Ok R) : first R = (R[0]'h.ne).c.term := by
  have := h.term 0 h.ne
  omega
theorem Ok.first_pos {R : List Row} (h : Ok R) : 1 ≤ first R ∧ current R ≤ 64 := by
  have h0 := h.first_is
  have h1 := (Term.right_ok (h.right _ (List.getElem_mem h.ne))).1
  have hn := h.ne
  have h2 := (Term.right_ok (h.right _ (List.getElem_mem (show R.length - 1 < R.length by omega)))).1
  have h3 := h.term (R.length - 1) (by omega)
  unfold current
  omega
theorem Ok.len {R : List Row} (h : Ok R) : R.length ≤ 64 := by
  have := h.first_pos
  unfold current at this
  omega
theorem Ok.look_some {R : List Row} (h : Ok R) {t : Int} (h1 : first R ≤ t) (h2 : t ≤ current R) : ∃ i, ∃ hi : i < R.length, where_ R t = some i ∧ look R t = some R[i] ∧ t = first R + (i : Int) := by
  have hc : current R = first R + (R.length : Int) - 1 := rfl
  refine ⟨(t - first R).toNat, by omega, ?_, ?_, by omega⟩
  · unfold where_; rw [if_pos ⟨h1, h2⟩]
  · unfold look where_
    rw [if_pos ⟨h1, h2⟩]
    exact List.getElem?_eq_getElem (by omega)
theorem look_none {R : List Row} {t : Int} (h : ¬ (first R ≤ t ∧ t ≤ current R)) : where_ R t = none ∧ look R t = none := by
  have : where_ R t = none := by unfold where_; rw [if_neg h]
  exact ⟨this, by unfold look; rw [this]; rfl⟩
theorem Ok.start_bound {R : List Row} (h : Ok R) : ∀ i (hi : i < R.length), 0 ≤ R[i].start ∧ R[i].start ≤ 8796093022208 * (i : Int) := by
  intro i
  induction i with
  | zero => intro hi; rw [h.zero]; omega
  | succ i ih =>
    intro hi
    have h1 := ih (by omega)
    have h2 := h.starts i hi
    have h3 := h.many R[i] (List.getElem_mem _)
    rw [h2]
    omega
end Go.Proofs.Ytkpcmedmiiohnaa.Reg
