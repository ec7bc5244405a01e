/-
  Layer 6: all that order or keep: the document's own answer.
-/
import Derived.Test.YtpfodkgncachiaaGreatTrmM
import Derived.Test.YtpfodkgncachiaaGreatTrmA
namespace Go.Proofs.YtpfodkgncachiaaGreat
set_option linter.unusedSimpArgs false
set_option linter.unusedVariables false
set_option maxRecDepth 100000
open Go.RowKit

theorem Term.put_all_lt {n : Int} : ∀ a : List Int, (∀ y ∈ a, y < n) → Term.put a n = a ++ [n] := by
  intro a
  induction a with
  | nil => intro _; rfl
  | cons x a ih =>
    intro h
    have hx := h x (by simp)
    unfold Term.put
    rw [if_neg (by omega), if_neg (by omega), ih (fun y hy => h y (by simp [hy]))]
    rfl
theorem Term.put_first {n x : Int} (hx : n < x) : ∀ a : List Int, (∀ y ∈ a, y < n) → Term.put (a ++ [x]) n = (a ++ [n]) ++ [x] := by
  intro a
  induction a with
  | nil => intro _; simp [Term.put, hx]
  | cons z a ih =>
    intro h
    have hz := h z (by simp)
    show (if n < z then n :: z :: (a ++ [x]) else if n = z then z :: (a ++ [x]) else z :: Term.put (a ++ [x]) n) = _
    rw [if_neg (by omega), if_neg (by omega), ih (fun y hy => h y (by simp [hy]))]
    rfl
theorem Term.put_more {n x : Int} : ∀ a : List Int, (∃ y ∈ a, n < y) → Term.put (a ++ [x]) n = Term.put a n ++ [x] := by
  intro a
  induction a with
  | nil => intro h; obtain ⟨y, hy, _⟩ := h; simp at hy
  | cons z a ih =>
    intro h
    show (if n < z then n :: z :: (a ++ [x]) else if n = z then z :: (a ++ [x]) else z :: Term.put (a ++ [x]) n) = (if n < z then n :: z :: a else if n = z then z :: a else z :: Term.put a n) ++ [x]
    by_cases h1 : n < z
    · rw [if_pos h1, if_pos h1]; rfl
    · rw [if_neg h1, if_neg h1]
      by_cases h2 : n = z
      · rw [if_pos h2, if_pos h2]; rfl
      · rw [if_neg h2, if_neg h2, ih (by
          obtain ⟨y, hy, h3⟩ := h
          rcases List.mem_cons.1 hy with rfl | hy
          · exact absurd h3 h1
          · exact ⟨y, hy, h3⟩)]
        rfl
theorem Term.put_mem {n : Int} : ∀ a : List Int, Term.rises a → n ∈ a → Term.put a n = a := by
  intro a
  induction a with
  | nil => intro _ h; simp at h
  | cons z a ih =>
    intro hr h
    obtain ⟨h1, h2⟩ := List.pairwise_cons.1 hr
    unfold Term.put
    rcases List.mem_cons.1 h with rfl | h
    · rw [if_neg (by omega), if_pos rfl]
    · have := h1 n h
      rw [if_neg (by omega), if_neg (by omega), ih h2 h]
theorem Term.put_length (n : Int) : ∀ a : List Int, (Term.put a n).length ≤ a.length + 1 := by
  intro a
  induction a with
  | nil => simp [Term.put]
  | cons z a ih =>
    unfold Term.put
    split
    · simp
    · split
      · simp
      · simp only [List.length_cons]; omega
theorem Term.foldl_length : ∀ (l d : List Int), (l.foldl Term.put d).length ≤ d.length + l.length := by
  intro l
  induction l with
  | nil => intro d; simp
  | cons x l ih =>
    intro d
    have h1 := ih (Term.put d x)
    have h2 := Term.put_length x d
    rw [List.foldl_cons, List.length_cons]
    omega
/-- What the row is, behind k rounds. -/
def PutInv (l : List Int) (n : Int) (k : Nat) (ls : List Int) : Bool → Prop
  | false => ls = l.take k ∧ ∀ y ∈ l.take k, y < n
  | true => ls = Term.put (l.take k) n ∧ ∃ y ∈ l.take k, n < y
theorem PutInv.len {l : List Int} {n : Int} {k : Nat} {ls : List Int} {d : Bool} (h : PutInv l n k ls d) : ls.length ≤ l.length + 1 := by
  cases d with
  | false => rw [h.1, List.length_take]; omega
  | true =>
    have := Term.put_length n (l.take k)
    rw [List.length_take] at this
    rw [h.1]; omega
theorem PutInv.here {l : List Int} {n : Int} {k : Nat} {ls : List Int} (hk : k < l.length) (h : PutInv l n k ls false) (hx : n < l[k]) : PutInv l n (k + 1) ((ls ++ [n]) ++ [l[k]]) true := by
  refine ⟨?_, l[k], ?_, hx⟩
  · rw [take_succ_getD l k hk, Term.put_first hx _ h.2, h.1]
  · rw [take_succ_getD l k hk]; exact List.mem_append.2 (.inr (List.mem_singleton.2 rfl))
theorem PutInv.ahead {l : List Int} {n : Int} {k : Nat} {ls : List Int} (hk : k < l.length) (h : PutInv l n k ls false) (hx : ¬ n < l[k]) (hn : hasI l n = false) : PutInv l n (k + 1) (ls ++ [l[k]]) false := by
  have hne : l[k] ≠ n := by
    intro e
    rw [hasHere l n k hk e] at hn
    cases hn
  refine ⟨by rw [take_succ_getD l k hk, h.1], fun y hy => ?_⟩
  rw [take_succ_getD l k hk] at hy
  rcases List.mem_append.1 hy with hy | hy
  · exact h.2 y hy
  · rw [List.mem_singleton] at hy; subst hy; omega
theorem PutInv.behind {l : List Int} {n : Int} {k : Nat} {ls : List Int} (hk : k < l.length) (h : PutInv l n k ls true) : PutInv l n (k + 1) (ls ++ [l[k]]) true := by
  obtain ⟨h1, y, hy, hny⟩ := h
  refine ⟨by rw [take_succ_getD l k hk, Term.put_more _ ⟨y, hy, hny⟩, h1], y, ?_, hny⟩
  rw [take_succ_getD l k hk]; exact List.mem_append.2 (.inl hy)
theorem PutInv.end1 {l : List Int} {n : Int} {k : Nat} {ls : List Int} (hk : k ≤ l.length) (hlt : ¬ k < l.length) (h : PutInv l n k ls true) : ls = Term.put l n := by
  have := h.1
  rwa [List.take_of_length_le (by omega)] at this
theorem PutInv.end0 {l : List Int} {n : Int} {k : Nat} {ls : List Int} (hk : k ≤ l.length) (hlt : ¬ k < l.length) (h : PutInv l n k ls false) : ls ++ [n] = Term.put l n := by
  obtain ⟨h1, h2⟩ := h
  rw [List.take_of_length_le (by omega)] at h1 h2
  rw [h1, Term.put_all_lt l h2]

theorem cellExtN {w w' : World} {b o : Nat} {v : Value} (h : Ext w w') (hc : w.cell? ⟨b, o, none⟩ = some v) : w'.cell? ⟨b, o, none⟩ = some v := (h.cell (p := ⟨b, o, none⟩) (World.block_lt_of_cell? w _ hc)).trans hc

set_option maxHeartbeats 8000000 in
theorem refPut6_any (base : Nat) (v : Value) (l : List Int) (n : Int) (w : World) (hv : OwnI w base v l) (hr : Term.rises l) (hb : base ≤ w.heap.size) (hl : l.length ≤ 3000000) :
    Calls Tryz.prog 55 #[v, .int .i64 n] w fun e w' => ∃ u, e = .returned u ∧ OwnI w' base u (Term.put l n) ∧ Ext w w' := by
  have HV := Lib.hid hv
  have HI := Lib.hid hv.ints
  obtain ⟨a, cap, rfl, hcap, hmax, _, hcw0⟩ := hv.ints.open
  have HCW := Lib.hid hcw0
  unfold maxLen at hmax
  have ti := tI
  clear hv hcw0
  cases hh : hasI l n with
  | true =>
    have HH := Lib.hid hh
    have hm : n ∈ l := by
      have := hh
      unfold hasI at this
      rwa [List.contains_eq_mem, decide_eq_true_eq] at this
    have HP := Lib.hid (Term.put_mem l hr hm)
    clear hh hm
    go_enter Tryz.func55, Tryz.ntmps55
    go_wp2_with fail
    refine (refHas6_any _ l n _ HI.out).mono ?_
    rw [HH.out]
    rintro e w1 ⟨rfl, rfl⟩
    go_wp2_with fail
    go_ret
    exact ⟨_, rfl, by rw [HP.out]; exact HV.out, Ext.refl _⟩
  | false =>
    have HH := Lib.hid hh
    clear hh
    go_enter Tryz.func55, Tryz.ntmps55
    go_wp2_with fail
    refine (refHas6_any _ l n _ HI.out).mono ?_
    rw [HH.out]
    rintro e w1 ⟨rfl, rfl⟩
    go_wp2_with fail
    go_loopw [5, 6, 7] (fun o dn i wr => ∃ k : Nat, k ≤ l.length ∧ i = .int .i64 k ∧ ∃ (d : Bool) (ls : List Int) (ov : Value), dn = .bool d ∧ ov = o ∧ Hid (PutInv l n k ls d) ∧ Hid (OwnI wr w.heap.size ov ls) ∧ Ext w wr) (fun _ _ i _ => l.length - (intOf i).toNat)
    case atStart => exact ⟨0, by omega, rfl, false, [], _, rfl, rfl, ⟨by simp, by simp⟩, OwnI.nil _ _, Ext.refl _⟩
    case round =>
      obtain ⟨k, hk, rfl, d, ls, ov, rfl, rfl, hP, hO, hE⟩ := hrel
      have hlen := hP.out.len
      have hbz : w.heap.size ≤ wr.heap.size := hE.size
      by_cases hlt : k < l.length
      · obtain ⟨b, off, rfl, hcw⟩ := HCW.out k hlt
        have hcell := cellExtN hE hcw
        have HCK := Lib.hid hcw
        clear hcw
        have hone := Lib.hid (i64s_one [l[k]])
        cases d with
        | true =>
          have o1 := Lib.hid ((show wr.ownsRow w.heap.size 3 1 ov ls.length (i64s ls) from hO.out).alloc (.cells #[.int .i64 l[k]] 3))
          have i1 := Lib.hid (Ints.one wr l[k])
          have k1 := Lib.hid (show ls.length + (i64s [l[k]]).length ≤ maxLen by simp [maxLen]; omega)
          have k2 := Lib.hid (show (ls.length + (i64s [l[k]]).length) * 8 ≤ 140737488355328 by simp; omega)
          have z1 := Lib.hid (show w.heap.size ≤ (wr.alloc (.cells #[.int .i64 l[k]] 3)).heap.size from Nat.le_trans hbz (Ext.alloc _ _).size)
          go_wp2_with (at_builtin; refine wpList_app rfl (.tmp 32) (.tmp 37) ti rfl rfl rfl o1.out i1.out hone.out k1.out k2.out z1.out ?_; intro v3 w3 hown3 hg3)
          have hE3 : Ext w w3 := Below.grown (hE.trans (Ext.alloc wr _)) hg3 (hE.trans (Ext.alloc wr _)).size (fun j hj => (o1.out.lt j hj).1)
          have O3 := Lib.hid (show OwnI w3 w.heap.size v3 (ls ++ [l[k]]) by unfold OwnI; rw [List.length_append, i64s_append]; exact hown3)
          clear hown3 hg3
          have P3 := Lib.hid (PutInv.behind hlt hP.out)
          go_wp2_with fail
          go_roundw
          case rel => exact ⟨k + 1, by omega, by go_num, true, _, _, rfl, rfl, P3.out, O3.out, hE3⟩
          case measure => simp [intOf]; omega
        | false =>
          by_cases hx : n < l[k]
          · have honn := Lib.hid (i64s_one [n])
            have P3 := Lib.hid (PutInv.here hlt hP.out hx)
            have o0 := Lib.hid ((show wr.ownsRow w.heap.size 3 1 ov ls.length (i64s ls) from hO.out).alloc (.cells #[.int .i64 n] 3))
            have i0 := Lib.hid (Ints.one wr n)
            have k0 := Lib.hid (show ls.length + (i64s [n]).length ≤ maxLen by simp [maxLen]; omega)
            have k9 := Lib.hid (show (ls.length + (i64s [n]).length) * 8 ≤ 140737488355328 by simp; omega)
            have z0 := Lib.hid (show w.heap.size ≤ (wr.alloc (.cells #[.int .i64 n] 3)).heap.size from Nat.le_trans hbz (Ext.alloc _ _).size)
            have k1 := Lib.hid (show (ls ++ [n]).length + (i64s [l[k]]).length ≤ maxLen by simp [maxLen]; omega)
            have k2 := Lib.hid (show ((ls ++ [n]).length + (i64s [l[k]]).length) * 8 ≤ 140737488355328 by simp; omega)
            go_wp2_with (first
              | (at_builtin; refine wpList_app rfl (.tmp 28) (.tmp 30) ti rfl rfl rfl o0.out i0.out honn.out k0.out k9.out z0.out ?_; intro v2 w2 hown2 hg2; have hE2 : Ext w w2 := Below.grown (hE.trans (Ext.alloc wr _)) hg2 (hE.trans (Ext.alloc wr _)).size (fun j hj => (o0.out.lt j hj).1); have O2 := Lib.hid (show OwnI w2 w.heap.size v2 (ls ++ [n]) by unfold OwnI; rw [List.length_append, i64s_append]; exact hown2); have hcell2 := cellExtN hE2 HCK.out; have o1 := Lib.hid ((show w2.ownsRow w.heap.size 3 1 v2 (ls ++ [n]).length (i64s (ls ++ [n])) from O2.out).alloc (.cells #[.int .i64 l[k]] 3)); have i1 := Lib.hid (Ints.one w2 l[k]); have z1 := Lib.hid (show w.heap.size ≤ (w2.alloc (.cells #[.int .i64 l[k]] 3)).heap.size from Nat.le_trans hE2.size (Ext.alloc _ _).size); clear hown2 hg2 hcell)
              | (at_builtin; refine wpList_app rfl (.tmp 32) (.tmp 37) ti rfl rfl rfl o1.out i1.out hone.out k1.out k2.out z1.out ?_; intro v3 w3 hown3 hg3; have hE3 : Ext w w3 := Below.grown (hE2.trans (Ext.alloc w2 _)) hg3 (hE2.trans (Ext.alloc w2 _)).size (fun j hj => (o1.out.lt j hj).1); have O3 := Lib.hid (show OwnI w3 w.heap.size v3 ((ls ++ [n]) ++ [l[k]]) by unfold OwnI; rw [List.length_append (bs := [l[k]]), i64s_append (ls ++ [n])]; exact hown3); clear hown3 hg3 hcell2))
            go_roundw
            case rel => exact ⟨k + 1, by omega, by go_num, true, _, _, rfl, rfl, P3.out, O3.out, hE3⟩
            case measure => simp [intOf]; omega
          · have P3 := Lib.hid (PutInv.ahead hlt hP.out hx HH.out)
            have o1 := Lib.hid ((show wr.ownsRow w.heap.size 3 1 ov ls.length (i64s ls) from hO.out).alloc (.cells #[.int .i64 l[k]] 3))
            have i1 := Lib.hid (Ints.one wr l[k])
            have k1 := Lib.hid (show ls.length + (i64s [l[k]]).length ≤ maxLen by simp [maxLen]; omega)
            have k2 := Lib.hid (show (ls.length + (i64s [l[k]]).length) * 8 ≤ 140737488355328 by simp; omega)
            have z1 := Lib.hid (show w.heap.size ≤ (wr.alloc (.cells #[.int .i64 l[k]] 3)).heap.size from Nat.le_trans hbz (Ext.alloc _ _).size)
            go_wp2_with (at_builtin; refine wpList_app rfl (.tmp 32) (.tmp 37) ti rfl rfl rfl o1.out i1.out hone.out k1.out k2.out z1.out ?_; intro v3 w3 hown3 hg3)
            have hE3 : Ext w w3 := Below.grown (hE.trans (Ext.alloc wr _)) hg3 (hE.trans (Ext.alloc wr _)).size (fun j hj => (o1.out.lt j hj).1)
            have O3 := Lib.hid (show OwnI w3 w.heap.size v3 (ls ++ [l[k]]) by unfold OwnI; rw [List.length_append, i64s_append]; exact hown3)
            clear hown3 hg3
            go_wp2_with fail
            go_roundw
            case rel => exact ⟨k + 1, by omega, by go_num, false, _, _, rfl, rfl, P3.out, O3.out, hE3⟩
            case measure => simp [intOf]; omega
      · cases d with
        | true =>
          have P3 := Lib.hid (PutInv.end1 hk hlt hP.out)
          go_wp2_with fail
          go_ret
          exact ⟨_, rfl, (show OwnI wr w.heap.size ov (Term.put l n) by rw [← P3.out]; exact hO.out).lower hb, hE⟩
        | false =>
          have P3 := Lib.hid (PutInv.end0 hk hlt hP.out)
          have honn := Lib.hid (i64s_one [n])
          have o0 := Lib.hid ((show wr.ownsRow w.heap.size 3 1 ov ls.length (i64s ls) from hO.out).alloc (.cells #[.int .i64 n] 3))
          have i0 := Lib.hid (Ints.one wr n)
          have k0 := Lib.hid (show ls.length + (i64s [n]).length ≤ maxLen by simp [maxLen]; omega)
          have k9 := Lib.hid (show (ls.length + (i64s [n]).length) * 8 ≤ 140737488355328 by simp; omega)
          have z0 := Lib.hid (show w.heap.size ≤ (wr.alloc (.cells #[.int .i64 n] 3)).heap.size from Nat.le_trans hbz (Ext.alloc _ _).size)
          go_wp2_with (at_builtin; refine wpList_app rfl (.tmp 41) (.tmp 43) ti rfl rfl rfl o0.out i0.out honn.out k0.out k9.out z0.out ?_; intro v3 w3 hown3 hg3)
          have hE3 : Ext w w3 := Below.grown (hE.trans (Ext.alloc wr _)) hg3 (hE.trans (Ext.alloc wr _)).size (fun j hj => (o0.out.lt j hj).1)
          have O3 := Lib.hid (show OwnI w3 w.heap.size v3 (Term.put l n) by rw [← P3.out]; unfold OwnI; rw [List.length_append, i64s_append]; exact hown3)
          clear hown3 hg3
          go_wp2_with fail
          go_ret
          exact ⟨_, rfl, O3.out.lower hb, hE3⟩
end Go.Proofs.YtpfodkgncachiaaGreat
