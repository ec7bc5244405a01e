/-
  Merged: Layer 14, mathematics: the next term.
-/
import Derived.Test.YtkpcmedmiiohnaaBsRgE

namespace Go.Proofs.Ytkpcmedmiiohnaa
set_option linter.unusedSimpArgs false
set_option linter.unusedVariables false
set_option maxRecDepth 100000
/- Layer 14, mathematics: the next term. -/
theorem Reg.lastOf_right (c : Term.C) (l : List Ent.E) (hc : Term.right c = true) : Vec.right (Ent.lastOf l (zeros c.shards.length)) = true := by
  unfold Ent.lastOf
  cases h : Ent.lastCut (l.take (Ent.chain l)) with
  | some x => exact Ent.last_right h
  | none =>
    have h1 := (Term.right_ok hc).2.1
    simp only
    unfold zeros
    rw [if_pos (by omega)]
    refine Vec.right_of (fun x hx => ?_) (by simp; omega) (by simp; omega)
    rw [List.eq_of_mem_replicate hx]
    omega
theorem Reg.many_bound (c : Term.C) (l : List Ent.E) (hc : Term.right c = true) : 0 ≤ Reg.many c l ∧ Reg.many c l ≤ 8796093022208 := by
  have h := sum_take_bound (Reg.lastOf_right c l hc) (Ent.lastOf l (zeros c.shards.length)).length
  rw [List.take_length] at h
  exact h
theorem Reg.cut_small {l : List Ent.E} (h : Ent.chain l = l.length) : ∀ e ∈ l, e.cut.length ≤ 1000000 := by
  intro e he
  have hr := Ent.isChain_right l.length l rfl h e he
  rcases (Ent.right_ok hr).2 with ⟨_, hv, _⟩ | ⟨_, hn, _⟩
  · have := (Vec.right_ok hv).2.2
    omega
  · rw [hn]
    simp
theorem Reg.next_at {R : List Reg.Row} (h : Reg.Ok R) {t : Int} {a : Reg.Row} (h1 : Reg.look R (t - 1) = some a) (h2 : Reg.look R t = none) : t = Reg.first R + (R.length : Int) ∧ ∃ pre, R = pre ++ [a] ∧ Reg.where_ R (t - 1) = some (R.length - 1) := by
  have hne := h.ne
  have hin : Reg.first R ≤ t - 1 ∧ t - 1 ≤ Reg.current R := by
    by_cases hc : Reg.first R ≤ t - 1 ∧ t - 1 ≤ Reg.current R
    · exact hc
    · rw [(Reg.look_none hc).2] at h1
      cases h1
  obtain ⟨i, hi, hw, hl, ht⟩ := h.look_some hin.1 hin.2
  rw [hl] at h1
  injection h1 with h1
  have hout : ¬ (Reg.first R ≤ t ∧ t ≤ Reg.current R) := fun hc => by
    obtain ⟨j, hj, _, hl2, _⟩ := h.look_some hc.1 hc.2
    rw [hl2] at h2
    cases h2
  have hcur : Reg.current R = Reg.first R + (R.length : Int) - 1 := rfl
  have hin2 : i = R.length - 1 := by omega
  subst hin2
  refine ⟨by omega, R.dropLast, ?_, hw⟩
  rw [← h1]
  have := List.dropLast_concat_getLast (l := R) (by intro e; rw [e] at hne; simp at hne)
  rw [List.getLast_eq_getElem] at this
  exact this.symm
theorem Reg.first_append {pre M : List Reg.Row} {a b : Reg.Row} (h : a.c = b.c) : Reg.first (pre ++ a :: M) = Reg.first (pre ++ [b]) := by
  cases pre with
  | nil => simp [Reg.first, h]
  | cons x pre => rfl
theorem Reg.Ok.next {pre : List Reg.Row} {a : Reg.Row} {c : Term.C} {l : List Ent.E} (h : Reg.Ok (pre ++ [a])) (hg : Reg.good (pre ++ [a]) c l) (ht : c.term = Reg.first (pre ++ [a]) + ((pre ++ [a]).length : Int)) : Reg.Ok (pre ++ [⟨a.c, l, a.start⟩, ⟨c, [], a.start + Reg.many a.c l⟩]) := by
  have hra := h.right a (by simp)
  have hf : Reg.first (pre ++ [⟨a.c, l, a.start⟩, ⟨c, [], a.start + Reg.many a.c l⟩]) = Reg.first (pre ++ [a]) := Reg.first_append rfl
  have old : ∀ i (hi : i < pre.length), (pre ++ [⟨a.c, l, a.start⟩, ⟨c, [], a.start + Reg.many a.c l⟩])[i]'(by simp; omega) = pre[i] := fun i hi => List.getElem_append_left hi
  have old2 : ∀ i (hi : i < pre.length), (pre ++ [a])[i]'(by simp; omega) = pre[i] := fun i hi => List.getElem_append_left hi
  have n1 : (pre ++ [(⟨a.c, l, a.start⟩ : Reg.Row), ⟨c, [], a.start + Reg.many a.c l⟩])[pre.length]'(by simp) = ⟨a.c, l, a.start⟩ := by simp
  have n2 : (pre ++ [(⟨a.c, l, a.start⟩ : Reg.Row), ⟨c, [], a.start + Reg.many a.c l⟩])[pre.length + 1]'(by simp) = ⟨c, [], a.start + Reg.many a.c l⟩ := by
    rw [List.getElem_append_right (by omega)]
    simp
  have o1 : (pre ++ [a])[pre.length]'(by simp) = a := by simp
  have mem : ∀ x, x ∈ pre ++ [(⟨a.c, l, a.start⟩ : Reg.Row), ⟨c, [], a.start + Reg.many a.c l⟩] → x ∈ pre ∨ x = ⟨a.c, l, a.start⟩ ∨ x = ⟨c, [], a.start + Reg.many a.c l⟩ := fun x hx => by simpa using hx
  refine ⟨by simp, fun x hx => ?_, fun i hi => ?_, ?_, fun i hi => ?_, fun x hx => ?_, ?_, fun x hx => ?_⟩
  · rcases mem x hx with hx | rfl | rfl
    · exact h.right x (by simp [hx])
    · exact hra
    · exact hg.1
  · rw [hf]
    simp only [List.length_append, List.length_cons, List.length_nil] at hi
    rcases Nat.lt_trichotomy i pre.length with q | q | q
    · rw [old i q, ← old2 i q]
      exact h.term i _
    · subst q
      rw [n1]
      have := h.term pre.length (by simp)
      rw [o1] at this
      exact this
    · obtain rfl : i = pre.length + 1 := by omega
      rw [n2]
      show c.term = _
      rw [ht]
      simp
  · by_cases hp : 0 < pre.length
    · rw [old 0 hp, ← old2 0 hp]
      exact h.zero
    · obtain rfl : pre = [] := List.eq_nil_of_length_eq_zero (by omega)
      exact h.zero
  · simp only [List.length_append, List.length_cons, List.length_nil] at hi
    rcases Nat.lt_trichotomy (i + 1) pre.length with q | q | q
    · rw [old (i + 1) q, old i (by omega), ← old2 (i + 1) q, ← old2 i (by omega)]
      exact h.starts i _
    · have h1 := h.starts i (by simp; omega)
      have e1 : (pre ++ [(⟨a.c, l, a.start⟩ : Reg.Row), ⟨c, [], a.start + Reg.many a.c l⟩])[i + 1]'(by simp; omega) = ⟨a.c, l, a.start⟩ := by
        have : ∀ k (hk : k < (pre ++ [(⟨a.c, l, a.start⟩ : Reg.Row), ⟨c, [], a.start + Reg.many a.c l⟩]).length), k = pre.length → (pre ++ [(⟨a.c, l, a.start⟩ : Reg.Row), ⟨c, [], a.start + Reg.many a.c l⟩])[k] = ⟨a.c, l, a.start⟩ := by
          rintro k hk rfl
          exact n1
        exact this _ _ q
      have e2 : (pre ++ [a])[i + 1]'(by simp; omega) = a := by
        have : ∀ k (hk : k < (pre ++ [a]).length), k = pre.length → (pre ++ [a])[k] = a := by
          rintro k hk rfl
          exact o1
        exact this _ _ q
      rw [e1, old i (by omega), ← old2 i (by omega)]
      rw [e2] at h1
      exact h1
    · obtain rfl : i = pre.length := by omega
      rw [n2, n1]
  · rcases mem x hx with hx | rfl | rfl
    · exact h.many x (by simp [hx])
    · exact Reg.many_bound _ _ hra
    · exact Reg.many_bound _ _ hg.1
  · have : ∀ k (hk : k < (pre ++ [(⟨a.c, l, a.start⟩ : Reg.Row), ⟨c, [], a.start + Reg.many a.c l⟩]).length), k = pre.length + 1 → (pre ++ [(⟨a.c, l, a.start⟩ : Reg.Row), ⟨c, [], a.start + Reg.many a.c l⟩])[k] = ⟨c, [], a.start + Reg.many a.c l⟩ := by
      rintro k hk rfl
      exact n2
    rw [this _ _ (by simp)]
  · rcases mem x hx with hx | rfl | rfl
    · exact h.chain x (by simp [hx])
    · exact hg.2.1
    · rfl
theorem flat14_set : ∀ (L : List Row14) (i : Nat) (u : Value) (l : List Ent.E) (hi : i < L.length), flat14 (L.set i ⟨L[i].s, L[i].d, u, ⟨L[i].x.c, l, L[i].x.start⟩⟩) = (flat14 L).set (i * 5 + 3) u := by
  intro L
  induction L with
  | nil => intro i u l hi; exact absurd hi (by simp)
  | cons r L ih =>
    intro i u l hi
    cases i with
    | zero => rfl
    | succ i =>
      have hi' : i < L.length := by simpa using hi
      have h := ih i u l hi'
      simp only [List.set_cons_succ, List.getElem_cons_succ]
      show _ ++ flat14 (L.set i _) = _
      rw [h, show (i + 1) * 5 + 3 = i * 5 + 3 + 5 by omega]
      rfl
end Go.Proofs.Ytkpcmedmiiohnaa
