/-
  Layer 5, mathematics: the last cut by a walk from behind; entries of which none is a cut; no program.
-/
import Derived.Test.YtboopfbflfimlaaEntMath
namespace Go.Proofs.Ytboopfbflfimlaa.Ent

/-- Behind the last cut there is none. -/
theorem lastCut_none : ∀ (l : List E), (∀ e ∈ l, e.kind ≠ 1) → lastCut l = none := by
  intro l h
  have key : ∀ (n : Nat) (l : List E), l.length = n → (∀ e ∈ l, e.kind ≠ 1) → lastCut l = none := by
    intro n
    induction n with
    | zero => intro l hl _; rw [List.eq_nil_of_length_eq_zero hl]; rfl
    | succ n ih =>
      intro l hl h
      have hne : l ≠ [] := by rintro rfl; simp at hl
      obtain ⟨d, x, rfl⟩ : ∃ d x, l = d ++ [x] := ⟨l.dropLast, l.getLast hne, (List.dropLast_concat_getLast hne).symm⟩
      rw [lastCut_snoc, if_neg (h x (by simp))]
      exact ih d (by simpa using hl) (fun e he => h e (by simp [he]))
  exact key l.length l rfl h
/-- Entries of which none is a cut leave the last one as it was. -/
theorem lastCut_trims : ∀ (ts l : List E), (∀ e ∈ ts, e.kind ≠ 1) → lastCut (l ++ ts) = lastCut l := by
  intro ts
  induction ts with
  | nil => intro l _; rw [List.append_nil]
  | cons t ts ih =>
    intro l h
    have e : l ++ t :: ts = (l ++ [t]) ++ ts := by simp
    rw [e, ih (l ++ [t]) (fun x hx => h x (by simp [hx])), lastCut_snoc, if_neg (h t (by simp))]
/-- The last one of the kind 1, with none behind it. -/
theorem lastCut_at (l : List E) (i : Nat) (hi : i < l.length) (hk : l[i].kind = 1) (h : ∀ e ∈ l.drop (i + 1), e.kind ≠ 1) : lastCut l = some l[i].cut := by
  have e : l = (l.take i ++ [l[i]]) ++ l.drop (i + 1) := by
    rw [List.append_assoc, List.singleton_append, ← List.drop_eq_getElem_cons hi, List.take_append_drop]
  have h1 := lastCut_trims (l.drop (i + 1)) (l.take i ++ [l[i]]) h
  rw [← e, lastCut_snoc, if_pos hk] at h1
  exact h1
/-- One step of the walk from behind. -/
theorem drop_kinds {l : List E} {i : Nat} (hi : i < l.length) (hk : l[i].kind ≠ 1) (h : ∀ e ∈ l.drop (i + 1), e.kind ≠ 1) : ∀ e ∈ l.drop i, e.kind ≠ 1 := by
  intro e he
  rw [List.drop_eq_getElem_cons hi] at he
  rcases List.mem_cons.1 he with rfl | he
  · exact hk
  · exact h e he
theorem lastCut_drop {l : List E} (h : ∀ e ∈ l.drop 0, e.kind ≠ 1) : lastCut l = none := lastCut_none l (by simpa using h)
/-- Of a chain all is taken. -/
theorem take_chain {l : List E} (h : isChain l) : l.take (chain l) = l := by
  rw [show chain l = l.length from h, List.take_length]
theorem lastOf_chain {l : List E} (h : isChain l) (z : List Int) : lastOf l z = match lastCut l with
    | none => z
    | some c => c := by
  unfold lastOf
  rw [take_chain h]
  rfl
theorem lastOf_trims {l ts : List E} (h1 : isChain l) (h2 : isChain (l ++ ts)) (h : ∀ e ∈ ts, e.kind ≠ 1) (z : List Int) : lastOf (l ++ ts) z = lastOf l z := by
  rw [lastOf_chain h1, lastOf_chain h2, lastCut_trims ts l h]
theorem lastOf_nil (z : List Int) : lastOf [] z = z := rfl
/-- What Chain reckons, entry by entry: k of them are a chain; is the next one? -/
theorem chain_next {l : List E} {k : Nat} (hk : k < l.length) (h : chain (l.take k) = k) : chain (l.take (k + 1)) = if follows (l.take k) l[k] then k + 1 else k := by
  have hl : (l.take k).length = k := by rw [List.length_take]; omega
  rw [List.take_succ_eq_append_getElem hk, chain_snoc, hl, if_pos h]
/-- Where the next one is none, that is the chain. -/
theorem chain_stop {l : List E} {k : Nat} (hk : k < l.length) (h : chain (l.take k) = k) (hf : follows (l.take k) l[k] = false) : chain l = k := by
  have h1 := chain_next hk h
  rw [hf] at h1
  have h2 := chain_take l (k + 1)
  rw [h1] at h2
  simp only [Bool.false_eq_true, if_false] at h2
  omega
theorem chain_end {l : List E} (h : chain (l.take l.length) = l.length) : chain l = l.length := by rwa [List.take_length] at h
theorem follows_iff (d : List E) (e : E) : follows d e = true ↔ right e = true ∧ e.number = (d.length : Int) + 1 ∧ (e.kind = 1 → coversLast (lastCut d) e.cut = true) := by
  unfold follows
  simp only [Bool.and_eq_true, Bool.or_eq_true, Bool.not_eq_true', decide_eq_false_iff_not, decide_eq_true_eq]
  constructor
  · rintro ⟨h1, h2, h3⟩
    exact ⟨h1, h2, fun hk => h3.resolve_left (fun h => h hk)⟩
  · rintro ⟨h1, h2, h3⟩
    refine ⟨h1, h2, ?_⟩
    by_cases hk : e.kind = 1
    · exact .inr (h3 hk)
    · exact .inl hk
/-- A chain with one entry more. -/
theorem chain_more {l : List E} (h : isChain l) (e : E) : (decide (chain (l ++ [e]) = l.length + 1)) = follows l e := by
  rw [chain_snoc, if_pos (show chain l = l.length from h)]
  cases hf : follows l e with
  | true => rw [if_pos rfl]; simp
  | false => rw [if_neg (by decide)]; simp
/-- Of a chain all are right; the last cut is one of them. -/
theorem isChain_right : ∀ (n : Nat) (l : List E), l.length = n → isChain l → ∀ e ∈ l, right e = true := by
  intro n
  induction n with
  | zero => intro l hl _ e he; rw [List.eq_nil_of_length_eq_zero hl] at he; cases he
  | succ n ih =>
    intro l hl hc e he
    have hne : l ≠ [] := by rintro rfl; simp at hl
    obtain ⟨d, x, rfl⟩ : ∃ d x, l = d ++ [x] := ⟨l.dropLast, l.getLast hne, (List.dropLast_concat_getLast hne).symm⟩
    obtain ⟨hd, hf⟩ := isChain_snoc hc
    rcases List.mem_append.1 he with hm | hm
    · exact ih d (by simpa using hl) hd e hm
    · obtain rfl : e = x := by simpa using hm
      exact ((follows_iff d e).1 hf).1
theorem lastCut_some : ∀ (n : Nat) (l : List E), l.length = n → ∀ c, lastCut l = some c → ∃ e ∈ l, e.kind = 1 ∧ e.cut = c := by
  intro n
  induction n with
  | zero => intro l hl c h; rw [List.eq_nil_of_length_eq_zero hl] at h; cases h
  | succ n ih =>
    intro l hl c h
    have hne : l ≠ [] := by rintro rfl; simp at hl
    obtain ⟨d, x, rfl⟩ : ∃ d x, l = d ++ [x] := ⟨l.dropLast, l.getLast hne, (List.dropLast_concat_getLast hne).symm⟩
    rw [lastCut_snoc] at h
    by_cases hx : x.kind = 1
    · rw [if_pos hx] at h
      injection h with h
      exact ⟨x, by simp, hx, h⟩
    · rw [if_neg hx] at h
      obtain ⟨e, he, h1⟩ := ih d (by simpa using hl) c h
      exact ⟨e, by simp [he], h1⟩
theorem last_right {l : List E} {c : List Int} (h : lastCut (l.take (chain l)) = some c) : Vec.right c = true := by
  obtain ⟨e, he, hk, rfl⟩ := lastCut_some _ _ rfl c h
  rcases (right_ok (isChain_right _ _ rfl (isChain_take l) e he)).2 with ⟨_, hv, _⟩ | ⟨h, _⟩
  · exact hv
  · omega
end Go.Proofs.Ytboopfbflfimlaa.Ent
