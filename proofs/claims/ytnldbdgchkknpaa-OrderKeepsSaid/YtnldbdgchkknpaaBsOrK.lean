/-
  Merged: Layer 15, mathematics: what is added goes on with what was there.
-/
import Derived.Test.YtnldbdgchkknpaaBsOrC

namespace Go.Proofs.Ytnldbdgchkknpaa
set_option linter.unusedSimpArgs false
set_option linter.unusedVariables false
/- Layer 15, mathematics: what is added goes on with what was there; a trim brings nothing; how many of each shard are ahead of a record. -/
theorem Ord.of_pre : ∀ (l : List Ent.E) (cs : List (List Int)), ∃ ds, Ord.of cs l = cs ++ ds := by
  intro l
  induction l with
  | nil => intro cs; exact ⟨[], by simp [Ord.of]⟩
  | cons e l ih =>
    intro cs
    rw [Ord.of_cons]
    split
    · obtain ⟨ds, h⟩ := ih (cs ++ [Ord.now cs e])
      exact ⟨Ord.now cs e :: ds, by rw [h]; simp⟩
    · exact ⟨[], by simp⟩
theorem Ord.of_more (l m : List Ent.E) : ∀ cs, ∃ ds, Ord.of cs (l ++ m) = Ord.of cs l ++ ds := by
  induction l with
  | nil => intro cs; exact Ord.of_pre m cs
  | cons e l ih =>
    intro cs
    rw [List.cons_append, Ord.of_cons, Ord.of_cons]
    split
    · exact ih _
    · exact ⟨[], by simp⟩
theorem Ord.last_getD {cs : List (List Int)} (h : 0 < cs.length) : Ord.last cs = cs.getD (cs.length - 1) [] := by
  unfold Ord.last
  rw [List.getLastD_eq_getLast?, List.getLast?_eq_getElem?, List.getD_eq_getElem?_getD]
theorem Ord.of_trim : ∀ (l : List Ent.E) (cs : List (List Int)) (k : Nat) (hk : k < l.length), 0 < cs.length → cs.length + k < (Ord.of cs l).length → ¬ l[k].kind = 1 → (Ord.of cs l).getD (cs.length + k) [] = (Ord.of cs l).getD (cs.length + k - 1) [] := by
  intro l
  induction l with
  | nil => intro cs k hk; exact absurd hk (by simp)
  | cons e l ih =>
    intro cs k hk hp h hne
    rw [Ord.of_cons] at h ⊢
    by_cases he : Ord.addErr cs e = 0
    · rw [if_pos he] at h ⊢
      cases k with
      | zero =>
        simp only [List.getElem_cons_zero] at hne
        obtain ⟨ds, hd⟩ := Ord.of_pre l (cs ++ [Ord.now cs e])
        rw [hd, Ord.now_trim hne, Ord.last_getD hp]
        have h1 : cs.length - 1 < cs.length := by omega
        simp only [List.getD_eq_getElem?_getD, Nat.add_zero, List.append_assoc]
        rw [List.getElem?_append_right (Nat.le_refl _), List.getElem?_append_left h1]
        simp
      | succ k =>
        simp only [List.getElem_cons_succ] at hne
        have h2 := ih (cs ++ [Ord.now cs e]) k (by simpa using hk) (by simp) (by simp only [List.length_append, List.length_cons, List.length_nil]; omega) hne
        simp only [List.length_append, List.length_cons, List.length_nil] at h2
        rw [show cs.length + (k + 1) = cs.length + (0 + 1) + k by omega]
        exact h2
    · rw [if_neg he] at h
      omega
theorem Ord.after_up {sh : Nat} {cs : List (List Int)} (h : Ord.Ok sh cs) (k : Nat) (hk : k + 1 < cs.length) : Ord.after cs k ≤ Ord.after cs ((k : Int) + 1) := by
  unfold Ord.after
  rw [if_pos (by omega), if_pos (by omega)]
  have := (h.le k (k + 1) (by omega) hk (by omega)).sum
  rw [Int.toNat_natCast, show ((k : Int) + 1).toNat = k + 1 by omega]
  simpa only [List.getD_eq_getElem?_getD, List.getElem?_eq_getElem hk, List.getElem?_eq_getElem (show k < cs.length by omega), Option.getD_some] using this
theorem Ord.after_trim {n : Int} {l : List Ent.E} {k : Nat} (hk : k < l.length) (h : k + 1 < (Ord.of (Ord.zero n) l).length) (hne : ¬ l[k].kind = 1) : Ord.after (Ord.of (Ord.zero n) l) k = Ord.after (Ord.of (Ord.zero n) l) ((k : Int) + 1) := by
  have h1 := Ord.of_trim l (Ord.zero n) k hk (by simp [Ord.zero]) (by have hz : (Ord.zero n).length = 1 := rfl; omega) hne
  unfold Ord.after
  rw [if_pos (by omega), if_pos (by omega)]
  rw [Int.toNat_natCast, show ((k : Int) + 1).toNat = k + 1 by omega]
  have hz : (Ord.zero n).length = 1 := rfl
  rw [hz, show 1 + k - 1 = k by omega, Nat.add_comm 1 k] at h1
  rw [h1]
theorem Ord.after_last {sh : Nat} {cs : List (List Int)} (h : Ord.Ok sh cs) (m : Nat) (hm : cs.length = m + 1) : Ord.after cs m = (Ord.last cs).sum := by
  unfold Ord.after
  rw [if_pos (by omega), Int.toNat_natCast, Ord.last_getD (by omega), hm]
  rfl

/-- One record more, where so many of each shard are ahead of it. -/
def Ord.step (c : List Int) (p : Int × Int) : Option (List Int) := if 0 ≤ p.1 ∧ c[p.1.toNat]? = some p.2 then some (c.set p.1.toNat (p.2 + 1)) else none
def Ord.run : List Int → List (Int × Int) → Option (List Int)
  | c, [] => some c
  | c, p :: l => (Ord.step c p).bind fun d => Ord.run d l
theorem Ord.run_append : ∀ (l m : List (Int × Int)) (c : List Int), Ord.run c (l ++ m) = (Ord.run c l).bind fun d => Ord.run d m := by
  intro l
  induction l with
  | nil => intro m c; rfl
  | cons p l ih =>
    intro m c
    rw [List.cons_append, Ord.run, Ord.run]
    cases Ord.step c p with
    | none => rfl
    | some d => exact ih m d
theorem Ord.run_blkS (pre pad : List Int) : ∀ (n : Nat) (x y : Int), y - x = (n : Int) → Ord.run (pre ++ x :: pad) (Ord.blkS pre.length x y) = some (pre ++ y :: pad) := by
  have key : ∀ (n : Nat) (x : Int), Ord.run (pre ++ x :: pad) ((List.range n).map fun (j : Nat) => ((pre.length : Int), x + (j : Int))) = some (pre ++ (x + n) :: pad) := by
    intro n
    induction n with
    | zero => intro x; simp [Ord.run]
    | succ n ih =>
      intro x
      rw [List.range_succ, List.map_append, Ord.run_append, ih x]
      simp only [Option.bind_some, List.map_cons, List.map_nil, Ord.run]
      unfold Ord.step
      rw [if_pos ⟨by simp, by simp⟩]
      simp
      omega
  intro n x y h
  unfold Ord.blkS
  have := key n x
  rw [show (y - x).toNat = n by omega, this]
  congr 3
  omega
theorem Ord.run_blk (pad : List Int) : ∀ (a b pre : List Int), Ord.Le a b → Ord.run (pre ++ (a ++ pad)) (Ord.blk pre.length a b) = some (pre ++ (b ++ pad)) := by
  intro a
  induction a with
  | nil => intro b pre h; cases b with | nil => simp [Ord.blk, Ord.run] | cons y b => exact absurd h.1 (by simp)
  | cons x a ih =>
    intro b pre h
    cases b with
    | nil => exact absurd h.1 (by simp)
    | cons y b =>
      have h1 := h.tail
      rw [Ord.blk, Ord.run_append, List.cons_append, Ord.run_blkS pre (a ++ pad) (y - x).toNat x y (by omega)]
      simp only [Option.bind_some]
      have h2 := ih b (pre ++ [y]) h1.2
      simp only [List.length_append, List.length_cons, List.length_nil, List.append_assoc, List.cons_append, List.nil_append] at h2 ⊢
      exact h2
theorem Ord.run_row (pad : List Int) : ∀ (bs : List (List Int)) (a : List Int), Ord.Up a bs → ∃ d, Ord.run (a ++ pad) (Ord.row a bs) = some (d ++ pad) := by
  intro bs
  induction bs with
  | nil => intro a _; exact ⟨a, rfl⟩
  | cons b bs ih =>
    intro a h
    rw [Ord.row, Ord.run_append]
    have := Ord.run_blk pad a b [] h.1
    simp only [List.nil_append, List.length_nil] at this
    rw [this]
    exact ih b h.2
theorem Ord.run_rows {sh : Nat} {cs : List (List Int)} (h : Ord.Ok sh cs) (h8 : sh ≤ 8) : ∃ d, Ord.run (List.replicate 8 0) (Ord.rows cs) = some d := by
  obtain ⟨bs, rfl, hU⟩ := h.ex
  obtain ⟨d, hd⟩ := Ord.run_row (List.replicate (8 - sh) 0) bs _ hU
  rw [List.replicate_append_replicate, show sh + (8 - sh) = 8 by omega] at hd
  exact ⟨_, hd⟩
/-- Along the way. -/
theorem Ord.run_at {c d : List Int} {R : List (Int × Int)} (h : Ord.run c R = some d) (i : Nat) (hi : i < R.length) : ∃ x y, Ord.run c (R.take i) = some x ∧ Ord.step x R[i] = some y ∧ Ord.run c (R.take (i + 1)) = some y := by
  have h1 : R = R.take i ++ R[i] :: R.drop (i + 1) := by rw [List.getElem_cons_drop, List.take_append_drop]
  rw [h1, Ord.run_append] at h
  cases hx : Ord.run c (R.take i) with
  | none => rw [hx] at h; cases h
  | some x =>
    rw [hx] at h
    simp only [Option.bind_some, Ord.run] at h
    cases hy : Ord.step x R[i] with
    | none => rw [hy] at h; cases h
    | some y =>
      refine ⟨x, y, rfl, hy, ?_⟩
      rw [List.take_succ_eq_append_getElem hi, Ord.run_append, hx]
      simp only [Option.bind_some, Ord.run, hy]
theorem Ord.step_is {c d : List Int} {s l : Int} (h : Ord.step c (s, l) = some d) : ∃ t : Nat, s = (t : Int) ∧ c[t]? = some l ∧ d = c.set t (l + 1) := by
  unfold Ord.step at h
  split at h
  · rename_i hc
    injection h with h
    exact ⟨s.toNat, by omega, hc.2, h.symm⟩
  · cases h
/-- What was there stays ahead. -/
theorem Ord.rows_pre {sh : Nat} {cs ds : List (List Int)} (h : Ord.Ok sh cs) : ∃ m, Ord.rows (cs ++ ds) = Ord.rows cs ++ m := by
  obtain ⟨bs, rfl, _⟩ := h.ex
  simp only [Ord.rows, List.cons_append, List.headD_cons, List.tail_cons]
  rw [Ord.row_append]
  exact ⟨_, rfl⟩
end Go.Proofs.Ytnldbdgchkknpaa
