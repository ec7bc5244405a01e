/-
  Merged: Layer 14, mathematics: an install once more, and how a register grows.
-/
import Derived.Test.YtkpcmedmiiohnaaBsRgH

namespace Go.Proofs.Ytkpcmedmiiohnaa
set_option linter.unusedSimpArgs false
set_option linter.unusedVariables false
set_option maxRecDepth 100000
/- Layer 14, mathematics: an install once more, and how a register grows; the example. -/
namespace Reg
theorem Inst.grows {R R' : List Row} {c : Term.C} {l : List Ent.E} {code : Int} (h : Inst R c l code R') : R' = R ∨ (code = 0 ∧ good R c l ∧ look R c.term = Option.none ∧ ∃ pre a, R = pre ++ [a] ∧ look R (c.term - 1) = some a ∧ R' = pre ++ [⟨a.c, l, a.start⟩, ⟨c, [], a.start + many a.c l⟩]) := by
  cases h with
  | bad _ => exact .inl rfl
  | same _ _ _ _ _ _ _ => exact .inl rfl
  | other _ _ _ _ => exact .inl rfl
  | none _ _ _ => exact .inl rfl
  | next hg hx pre a hR ha => exact .inr ⟨rfl, hg, hx, pre, a, hR, ha, rfl⟩
/-- What there is of the two last terms, when a term was added. -/
theorem next_looks {pre : List Row} {a : Row} {c : Term.C} {l : List Ent.E} (h : Ok (pre ++ [a])) (hg : good (pre ++ [a]) c l) (hx : look (pre ++ [a]) c.term = none) (ha : look (pre ++ [a]) (c.term - 1) = some a) :
    Ok (pre ++ [⟨a.c, l, a.start⟩, ⟨c, [], a.start + many a.c l⟩]) ∧ look (pre ++ [⟨a.c, l, a.start⟩, ⟨c, [], a.start + many a.c l⟩]) c.term = some ⟨c, [], a.start + many a.c l⟩ ∧ look (pre ++ [⟨a.c, l, a.start⟩, ⟨c, [], a.start + many a.c l⟩]) (c.term - 1) = some ⟨a.c, l, a.start⟩ ∧
      first (pre ++ [⟨a.c, l, a.start⟩, ⟨c, [], a.start + many a.c l⟩]) = first (pre ++ [a]) ∧ current (pre ++ [⟨a.c, l, a.start⟩, ⟨c, [], a.start + many a.c l⟩]) = c.term ∧ current (pre ++ [a]) = c.term - 1 := by
  have ht := (Reg.next_at h ha hx).1
  have hk := h.next hg ht
  have hf : first (pre ++ [(⟨a.c, l, a.start⟩ : Row), ⟨c, [], a.start + many a.c l⟩]) = first (pre ++ [a]) := Reg.first_append rfl
  have hcur : current (pre ++ [(⟨a.c, l, a.start⟩ : Row), ⟨c, [], a.start + many a.c l⟩]) = c.term := by
    unfold current
    rw [hf, ht]
    simp only [List.length_append, List.length_cons, List.length_nil]
    omega
  have hcur0 : current (pre ++ [a]) = c.term - 1 := by
    unfold current
    rw [ht]
  have hfc : first (pre ++ [a]) ≤ c.term - 1 := by
    rw [ht]
    simp only [List.length_append, List.length_cons, List.length_nil]
    omega
  refine ⟨hk, ?_, ?_, hf, hcur, hcur0⟩
  · obtain ⟨i, hi, hw, hl, he⟩ := hk.look_some (t := c.term) (by rw [hf]; omega) (by rw [hcur]; omega)
    rw [hl]
    rw [hf, ht] at he
    simp only [List.length_append, List.length_cons, List.length_nil] at he
    have : i = pre.length + 1 := by omega
    subst this
    simp
  · obtain ⟨i, hi, hw, hl, he⟩ := hk.look_some (t := c.term - 1) (by rw [hf]; omega) (by rw [hcur]; omega)
    rw [hl]
    rw [hf, ht] at he
    simp only [List.length_append, List.length_cons, List.length_nil] at he
    have : i = pre.length := by omega
    subst this
    simp
theorem Inst.term {R R' : List Row} {c : Term.C} {l : List Ent.E} (hk : Ok R) (h : Inst R c l 0 R') : c.term ≤ current R' := by
  have hin : ∀ x, look R c.term = some x → c.term ≤ current R := fun x hx => by
    by_cases hc : first R ≤ c.term ∧ c.term ≤ current R
    · exact hc.2
    · rw [(look_none hc).2] at hx
      cases hx
  generalize hz : (0 : Int) = z at h
  cases h with
  | bad _ => omega
  | same _ x _ hx _ _ _ => exact hin x hx
  | other _ x hx _ => exact hin x hx
  | none _ _ _ => omega
  | next hg hx pre a hR ha =>
    subst hR
    have := (next_looks hk hg hx ha).2.2.2.2.1
    omega
def exC (t : Int) : Term.C := ⟨t, [0], [[1]]⟩
def exL : List Ent.E := [⟨1, 1, [3], 0, 0, 0⟩]
def exR0 : List Row := [⟨exC 1, [], 0⟩]
def exR1 : List Row := [⟨exC 1, exL, 0⟩, ⟨exC 2, [], 3⟩]
theorem ex_right (t : Int) (h : t = 1 ∨ t = 2) : Term.right (exC t) = true := by rcases h with rfl | rfl <;> decide
theorem ex_one {code : Int} {R' : List Row} (h : Inst exR0 (exC 2) exL code R') : code = 0 ∧ R' = exR1 := by
  have hg : good exR0 (exC 2) exL := ⟨by decide, by decide, fun a ha e he => by
    have h1 : look exR0 ((exC 2).term - 1) = some ⟨exC 1, [], 0⟩ := rfl
    rw [h1] at ha
    injection ha with ha
    subst ha
    rw [List.mem_singleton.1 he]
    decide⟩
  have hx : look exR0 (exC 2).term = none := rfl
  have ha : look exR0 ((exC 2).term - 1) = some ⟨exC 1, [], 0⟩ := rfl
  cases h with
  | bad hn => exact absurd hg hn
  | same _ x _ h _ _ _ => rw [hx] at h; cases h
  | other _ x h _ => rw [hx] at h; cases h
  | none _ _ h => rw [ha] at h; cases h
  | next _ _ pre a hR _ =>
    have e : pre = [] ∧ a = ⟨exC 1, [], 0⟩ := by
      have := List.append_inj' (s₁ := []) (t₁ := [(⟨exC 1, [], 0⟩ : Row)]) hR rfl
      exact ⟨this.1.symm, by simpa using this.2.symm⟩
    obtain ⟨rfl, rfl⟩ := e
    exact ⟨rfl, by have hm : many (exC 1) exL = 3 := by decide
                   show [(⟨exC 1, exL, 0⟩ : Row), ⟨exC 2, [], 0 + many (exC 1) exL⟩] = exR1
                   rw [hm]; rfl⟩
theorem ex_two {code : Int} {R' : List Row} (h : Inst exR1 (exC 2) [] code R') : code = 140 ∧ R' = exR1 := by
  have hg : good exR1 (exC 2) [] := ⟨by decide, by decide, fun a ha e he => by cases he⟩
  have hx : look exR1 (exC 2).term = some ⟨exC 2, [], 3⟩ := rfl
  have ha : look exR1 ((exC 2).term - 1) = some ⟨exC 1, exL, 0⟩ := rfl
  cases h with
  | bad hn => exact absurd hg hn
  | same _ x a h1 h2 _ h3 =>
    exfalso
    rw [ha] at h2
    injection h2 with h2
    subst h2
    exact absurd h3 (by decide)
  | other _ x h _ => exact ⟨rfl, rfl⟩
  | none _ h _ => rw [hx] at h; cases h
  | next _ h _ _ _ _ => rw [hx] at h; cases h
theorem ex_find {t x code : Int} (h : FindIs exR1 4 t x code) : t = 2 ∧ x = 1 ∧ code = 0 := by
  rcases h with ⟨h, _⟩ | ⟨rfl, i, hi, h1, h2, rfl, rfl⟩
  · omega
  · have h3 : i = 0 ∨ i = 1 := by
      have : exR1.length = 2 := rfl
      omega
    rcases h3 with rfl | rfl
    · have := h2 1 (by decide) (by omega)
      exact absurd this (by decide)
    · exact ⟨rfl, rfl, rfl⟩
end Reg
end Go.Proofs.Ytkpcmedmiiohnaa
