/-
  Layer 1, mathematics: bytes with their sum behind, of which one is another one, are refused; no program.
-/
import Derived.Test.YtjflbjlpibekhaaCrcMath
namespace Go.Proofs.Ytjflbjlpibekhaa.Crc

theorem sum_set (t : List UInt8) (k : Nat) (x : UInt8) (hk : k < t.length) (hx : x ≠ t[k]) : sum (t.set k x) ≠ sum t := by
  intro h
  have h1 := sum_eq _ _ h
  obtain ⟨s, hs⟩ : ∃ s, s = 4294967295 := ⟨_, rfl⟩
  rw [← hs] at h1
  have hs' : s < 4294967296 := by omega
  clear hs h
  obtain ⟨P, y, D, rfl, rfl⟩ := part_at t k hk
  have hy : (P ++ y :: D)[P.length] = y := by simp
  rw [hy] at hx
  have e : x = y ^^^ (y ^^^ x) := by rw [← UInt8.xor_assoc, UInt8.xor_self, UInt8.zero_xor]
  have hset : (P ++ y :: D).set P.length x = P ++ (y ^^^ (y ^^^ x)) :: D := by
    rw [← e]
    simp [List.set_append_right]
  rw [hset] at h1
  refine turned_one s hs' P D y (y ^^^ x) (fun h0 => hx ?_) h1
  rw [e, h0, UInt8.xor_zero]
theorem cut_four (t s : List UInt8) (hs : s.length = 4) (h : s ≠ low (sum t)) : cutOf (t ++ s) = none := by
  have h1 : (t ++ s).length = t.length + 4 := by rw [List.length_append, hs]
  unfold cutOf
  rw [h1, if_neg (by omega)]
  have h2 : (t ++ s).take (t.length + 4 - 4) = t := by rw [Nat.add_sub_cancel]; exact List.take_left
  rw [h2, if_neg]
  intro e
  exact h (List.append_cancel_left e).symm
/-- One byte is another one. -/
theorem cut_set (t : List UInt8) (k : Nat) (x : UInt8) (hk : k < (t ++ low (sum t)).length) (hx : x ≠ (t ++ low (sum t))[k]) : cutOf ((t ++ low (sum t)).set k x) = none := by
  by_cases hlt : k < t.length
  · rw [List.set_append_left _ _ hlt]
    refine cut_other _ _ (sum_set t k x hlt ?_)
    rw [List.getElem_append_left hlt] at hx
    exact hx
  · rw [List.set_append_right _ _ (by omega)]
    refine cut_four _ _ (by rw [List.length_set, low_length]) (fun e => hx ?_)
    rw [List.getElem_append_right (by omega)]
    have hk4 : k - t.length < (low (sum t)).length := by rw [List.length_append] at hk; omega
    have h5 := congrArg (fun l => l[k - t.length]?) e
    simp only [List.getElem?_set, hk4, if_true, List.getElem?_eq_getElem hk4] at h5
    injection h5
end Go.Proofs.Ytjflbjlpibekhaa.Crc
