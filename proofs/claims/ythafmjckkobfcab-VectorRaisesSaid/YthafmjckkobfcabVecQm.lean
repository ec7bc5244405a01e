/-
  Layer 3, mathematics: the number that stands so far from the end of a sorted row is what so many have.
-/
import Derived.Test.YthafmjckkobfcabVecMath
namespace Go.Proofs.Ythafmjckkobfcab.Vec

theorem sorted_quorum {xs s : List Int} (hp : s.Perm xs) (hs : s.Pairwise (· ≤ ·)) (h0 : ∀ x ∈ xs, 0 ≤ x) (need : Nat) (h1 : 1 ≤ need) (hn : need ≤ xs.length) (hi : s.length - need < s.length) :
    IsQuorum xs need s[s.length - need] := by
  have hl : s.length = xs.length := hp.length_eq
  have hm : ∀ n, many xs n = many s n := fun n => (hp.countP_eq _).symm
  have le_of : ∀ a b (ha : a < s.length) (hb : b < s.length), a ≤ b → s[a] ≤ s[b] := by
    intro a b ha hb hab
    rcases Nat.lt_or_ge a b with h | h
    · exact (List.pairwise_iff_getElem.1 hs) a b ha hb h
    · obtain rfl : a = b := by omega
      exact Int.le_refl _
  refine ⟨h0 _ (hp.mem_iff.1 (List.getElem_mem hi)), ?_, fun n hq => ?_⟩
  · rw [hm]
    unfold many
    have e : s.countP (fun x => decide (s[s.length - need] ≤ x)) = (s.take (s.length - need)).countP (fun x => decide (s[s.length - need] ≤ x)) + (s.drop (s.length - need)).countP (fun x => decide (s[s.length - need] ≤ x)) := by
      rw [← List.countP_append, List.take_append_drop]
    have e2 : (s.drop (s.length - need)).countP (fun x => decide (s[s.length - need] ≤ x)) = need := by
      have e3 : (s.drop (s.length - need)).length = need := by simp; omega
      rw [List.countP_eq_length.2, e3]
      intro x hx
      obtain ⟨i, hi', rfl⟩ := List.getElem_of_mem hx
      rw [List.getElem_drop]
      exact decide_eq_true (le_of _ _ hi (by simp at hi'; omega) (by omega))
    omega
  · rw [hm]
    unfold many
    have e : s.countP (fun x => decide (n ≤ x)) = (s.take (s.length - need + 1)).countP (fun x => decide (n ≤ x)) + (s.drop (s.length - need + 1)).countP (fun x => decide (n ≤ x)) := by
      rw [← List.countP_append, List.take_append_drop]
    have e2 : (s.take (s.length - need + 1)).countP (fun x => decide (n ≤ x)) = 0 := by
      rw [List.countP_eq_zero]
      intro x hx
      obtain ⟨i, hi', rfl⟩ := List.getElem_of_mem hx
      rw [List.getElem_take]
      have := le_of i (s.length - need) (by simp at hi'; omega) hi (by simp at hi'; omega)
      simp only [decide_eq_true_eq]
      omega
    have e3 : (s.drop (s.length - need + 1)).countP (fun x => decide (n ≤ x)) ≤ (s.drop (s.length - need + 1)).length := List.countP_le_length
    have e4 : (s.drop (s.length - need + 1)).length = need - 1 := by simp; omega
    omega

theorem sort_quorum (xs : List Int) (h0 : ∀ x ∈ xs, 0 ≤ x) (need : Nat) (h1 : 1 ≤ need) (hn : need ≤ xs.length) (hi : xs.length - need < (xs.mergeSort fun x y => decide (x ≤ y)).length) :
    (xs.mergeSort fun x y => decide (x ≤ y))[xs.length - need] = quorumNum xs need := by
  have hp : (xs.mergeSort fun x y => decide (x ≤ y)).Perm xs := List.mergeSort_perm _ _
  have hs : (xs.mergeSort fun x y => decide (x ≤ y)).Pairwise (· ≤ ·) := by
    have := List.pairwise_mergeSort (le := fun (x y : Int) => decide (x ≤ y)) (by intro a b c; simp; omega) (by intro a b; simp; omega) xs
    rw [List.pairwise_iff_getElem] at this ⊢
    intro i j hi hj hij
    simpa using this i j hi hj hij
  have hl : (xs.mergeSort fun x y => decide (x ≤ y)).length = xs.length := hp.length_eq
  have h := sorted_quorum hp hs h0 need h1 hn (by omega)
  have h2 := quorum_unique h (quorum_is h0 (by omega) (by omega))
  rw [← h2]
  congr 1
  omega
end Go.Proofs.Ythafmjckkobfcab.Vec
