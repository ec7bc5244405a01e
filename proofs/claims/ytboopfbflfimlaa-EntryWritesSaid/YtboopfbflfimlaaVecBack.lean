/-
  Layer 3, mathematics: what was written as a vector is read as it was.
-/
import Derived.Test.YtboopfbflfimlaaVecF
namespace Go.Proofs.Ytboopfbflfimlaa
open Go.RowKit

theorem nums_cons (n : Int) (ns : List Int) : nums (n :: ns) = Pack.num n.toNat ++ nums ns := by simp [nums]
/-- What was written is read, number by number. -/
theorem reads_back (ns : List Int) (h : ∀ x ∈ ns, 0 ≤ x ∧ x ≤ 1099511627776) : ∀ k, k ≤ ns.length → readsTo ⟨nums ns, 0⟩ k = (⟨nums (ns.drop k), 0⟩, ns.take k) := by
  intro k
  induction k with
  | zero => intro _; simp [readsTo]
  | succ k ih =>
    intro hk
    have hlt : k < ns.length := by omega
    have hx := h _ (List.getElem_mem hlt)
    have hd : ns.drop k = ns[k] :: ns.drop (k + 1) := by rw [List.drop_eq_getElem_cons hlt]
    unfold readsTo
    rw [ih (by omega), hd, nums_cons]
    have hr := Pack.read_num ns[k].toNat (nums (ns.drop (k + 1))) 0 1099511627776 (by omega) (by omega)
    rw [hr, take_succ_getD ns k hlt]
    simp only
    rw [show ((ns[k].toNat : Nat) : Int) = ns[k] from by omega]
theorem dec_enc {v : List Int} (h : Vec.right v = true) : decOk (Vec.enc v) = true ∧ (decS (Vec.enc v)).2 = v := by
  obtain ⟨h1, h2, h3⟩ := Vec.right_ok h
  have hn : Pack.St.num ⟨Vec.enc v, 0⟩ 8 = (⟨nums v, 0⟩, v.length) := Pack.read_num v.length (nums v) 0 8 (by omega) (by omega)
  have hN : decN (Vec.enc v) = v.length := by unfold decN; rw [hn]
  have hS : decS (Vec.enc v) = (⟨nums (v.drop v.length), 0⟩, v.take v.length) := by
    unfold decS
    rw [hN, hn]
    exact reads_back v h1 v.length (Nat.le_refl _)
  rw [List.drop_length, List.take_length] at hS
  refine ⟨?_, by rw [hS]⟩
  unfold decOk
  rw [hN, hS, decide_eq_true h2]
  rfl
theorem enc_len {v : List Int} (h : Vec.right v = true) : (Vec.enc v).length ≤ 81 := by
  obtain ⟨h1, h2, h3⟩ := Vec.right_ok h
  have h6 := nums_le v (right_okNum h)
  have h7 := Pack.num_nine (n := v.length) (by omega)
  unfold Vec.enc
  rw [List.length_append]
  omega
end Go.Proofs.Ytboopfbflfimlaa
