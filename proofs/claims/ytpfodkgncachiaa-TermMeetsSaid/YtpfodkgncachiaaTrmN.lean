/-
  Layer 6: all that order or keep: the document's own answer.
-/
import Derived.Test.YtpfodkgncachiaaTrmM
import Derived.Test.YtpfodkgncachiaaTrmA
namespace Go.Proofs.Ytpfodkgncachiaa
set_option linter.unusedSimpArgs false
set_option linter.unusedVariables false
set_option maxRecDepth 100000
open Go.RowKit

theorem Term.put_all_lt {n : Int} : ∀ a : List Int, (∀ y ∈ a, y < n) → Term.put a n = a ++ [n] := by
  intro a
  induction a with
  | nil => intro _; rfl
  | cons x a ih =>
    intro h
    have hx := h x (by simp)
    unfold Term.put
    rw [if_neg (by omega), if_neg (by omega), ih (fun y hy => h y (by simp [hy]))]
    rfl
theorem Term.put_first {n x : Int} (hx : n < x) : ∀ a : List Int, (∀ y ∈ a, y < n) → Term.put (a ++ [x]) n = (a ++ [n]) ++ [x] := by
  intro a
  induction a with
  | nil => intro _; simp [Term.put, hx]
  | cons z a ih =>
    intro h
    have hz := h z (by simp)
    show (if n < z then n :: z :: (a ++ [x]) else if n = z then z :: (a ++ [x]) else z :: Term.put (a ++ [x]) n) = _
    rw [if_neg (by omega), if_neg (by omega), ih (fun y hy => h y (by simp [hy]))]
    rfl
theorem Term.put_more {n x : Int} : ∀ a : List Int, (∃ y ∈ a, n < y) → Term.put (a ++ [x]) n = Term.put a n ++ [x] := by
  intro a
  induction a with
  | nil => intro h; obtain ⟨y, hy, _⟩ := h; simp at hy
  | cons z a ih =>
    intro h
    show (if n < z then n :: z :: (a ++ [x]) else if n = z then z :: (a ++ [x]) else z :: Term.put (a ++ [x]) n) = (if n < z then n :: z :: a else if n = z then z :: a else z :: Term.put a n) ++ [x]
    by_cases h1 : n < z
    · rw [if_pos h1, if_pos h1]; rfl
    · rw [if_neg h1, if_neg h1]
      by_cases h2 : n = z
      · rw [if_pos h2, if_pos h2]; rfl
      · rw [if_neg h2, if_neg h2, ih (by
          obtain ⟨y, hy, h3⟩ := h
          rcases List.mem_cons.1 hy with rfl | hy
          · exact absurd h3 h1
          · exact ⟨y, hy, h3⟩)]
        rfl
theorem Term.put_mem {n : Int} : ∀ a : List Int, Term.rises a → n ∈ a → Term.put a n = a := by
  intro a
  induction a with
  | nil => intro _ h; simp at h
  | cons z a ih =>
    intro hr h
    obtain ⟨h1, h2⟩ := List.pairwise_cons.1 hr
    unfold Term.put
    rcases List.mem_cons.1 h with rfl | h
    · rw [if_neg (by omega), if_pos rfl]
    · have := h1 n h
      rw [if_neg (by omega), if_neg (by omega), ih h2 h]
theorem Term.put_length (n : Int) : ∀ a : List Int, (Term.put a n).length ≤ a.length + 1 := by
  intro a
  induction a with
  | nil => simp [Term.put]
  | cons z a ih =>
    unfold Term.put
    split
    · simp
    · split
      · simp
      · simp only [List.length_cons]; omega
theorem Term.foldl_length : ∀ (l d : List Int), (l.foldl Term.put d).length ≤ d.length + l.length := by
  intro l
  induction l with
  | nil => intro d; simp
  | cons x l ih =>
    intro d
    have h1 := ih (Term.put d x)
    have h2 := Term.put_length x d
    rw [List.foldl_cons, List.length_cons]
    omega
/-- What the row is, behind k rounds. -/
def PutInv (l : List Int) (n : Int) (k : Nat) (ls : List Int) : Bool → Prop
  | false => ls = l.take k ∧ ∀ y ∈ l.take k, y < n
  | true => ls = Term.put (l.take k) n ∧ ∃ y ∈ l.take k, n < y
theorem PutInv.len {l : List Int} {n : Int} {k : Nat} {ls : List Int} {d : Bool} (h : PutInv l n k ls d) : ls.length ≤ l.length + 1 := by
  cases d with
  | false => rw [h.1, List.length_take]; omega
  | true =>
    have := Term.put_length n (l.take k)
    rw [List.length_take] at this
    rw [h.1]; omega
theorem PutInv.here {l : List Int} {n : Int} {k : Nat} {ls : List Int} (hk : k < l.length) (h : PutInv l n k ls false) (hx : n < l[k]) : PutInv l n (k + 1) ((ls ++ [n]) ++ [l[k]]) true := by
  refine ⟨?_, l[k], ?_, hx⟩
  · rw [take_succ_getD l k hk, Term.put_first hx _ h.2, h.1]
  · rw [take_succ_getD l k hk]; exact List.mem_append.2 (.inr (List.mem_singleton.2 rfl))
theorem PutInv.ahead {l : List Int} {n : Int} {k : Nat} {ls : List Int} (hk : k < l.length) (h : PutInv l n k ls false) (hx : ¬ n < l[k]) (hn : hasI l n = false) : PutInv l n (k + 1) (ls ++ [l[k]]) false := by
  have hne : l[k] ≠ n := by
    intro e
    rw [hasHere l n k hk e] at hn
    cases hn
  refine ⟨by rw [take_succ_getD l k hk, h.1], fun y hy => ?_⟩
  rw [take_succ_getD l k hk] at hy
  rcases List.mem_append.1 hy with hy | hy
  · exact h.2 y hy
  · rw [List.mem_singleton] at hy; subst hy; omega
theorem PutInv.behind {l : List Int} {n : Int} {k : Nat} {ls : List Int} (hk : k < l.length) (h : PutInv l n k ls true) : PutInv l n (k + 1) (ls ++ [l[k]]) true := by
  obtain ⟨h1, y, hy, hny⟩ := h
  refine ⟨by rw [take_succ_getD l k hk, Term.put_more _ ⟨y, hy, hny⟩, h1], y, ?_, hny⟩
  rw [take_succ_getD l k hk]; exact List.mem_append.2 (.inl hy)
theorem PutInv.end1 {l : List Int} {n : Int} {k : Nat} {ls : List Int} (hk : k ≤ l.length) (hlt : ¬ k < l.length) (h : PutInv l n k ls true) : ls = Term.put l n := by
  have := h.1
  rwa [List.take_of_length_le (by omega)] at this
theorem PutInv.end0 {l : List Int} {n : Int} {k : Nat} {ls : List Int} (hk : k ≤ l.length) (hlt : ¬ k < l.length) (h : PutInv l n k ls false) : ls ++ [n] = Term.put l n := by
  obtain ⟨h1, h2⟩ := h
  rw [List.take_of_length_le (by omega)] at h1 h2
  rw [h1, Term.put_all_lt l h2]

theorem cellExtN {w w' : World} {b o : Nat} {v : Value} (h : Ext w w') (hc : w.cell? ⟨b, o, none⟩ = some v) : w'.cell? ⟨b, o, none⟩ = some v := (h.cell (p := ⟨b, o, none⟩) (World.block_lt_of_cell? w _ hc)).trans hc

end Go.Proofs.Ytpfodkgncachiaa
