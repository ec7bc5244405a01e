/-
  Layer 6, the program: configurations by value; which may be.
-/
import Derived.Test.YtpfodkgncachiaaTrmA
namespace Go.Proofs.Ytpfodkgncachiaa
set_option linter.unusedSimpArgs false
set_option linter.unusedVariables false
set_option maxRecDepth 100000
open Go.RowKit

/-- A configuration, by value: its two slices, and what they hold. -/
def confV (n : Int) (s d : Value) : Value := .agg #[.int .i64 n, s, d]
def IsConf (w : World) (v : Value) (c : Term.C) : Prop := ∃ s d, v = confV c.term s d ∧ Ints w s c.seqs ∧ IRows w d c.shards
theorem IsConf.below {w w' : World} {v : Value} {c : Term.C} (h : IsConf w v c) (hb : Below w.heap.size w w') : IsConf w' v c := by
  obtain ⟨s, d, rfl, h1, h2⟩ := h
  exact ⟨s, d, rfl, h1.below hb, h2.below hb⟩
/-- A configuration's value, opened. -/
theorem IsConf.shape {w : World} {v : Value} {c : Term.C} (h : IsConf w v c) : ∃ a n p b m q, v = .agg #[.int .i64 c.term, .slice a n p, .slice b m q] := by
  obtain ⟨s, d, rfl, h1, h2⟩ := h
  obtain ⟨a, p, rfl, _⟩ := h1.open
  obtain ⟨b, q, rfl, _⟩ := h2.open
  exact ⟨_, _, _, _, _, _, rfl⟩
/-- Block p is a configuration (of the program's type, or of the document's). -/
def ConfAt (T : TypeId) (w : World) (p : Nat) (n : Int) (s d : Value) : Prop := w.heap[p]? = some (.cells #[.int .i64 n, s, d] T (0, 0))
theorem ConfAt.new (T : TypeId) (w : World) (n : Int) (s d : Value) : ConfAt T (w.alloc (.cells #[.int .i64 n, s, d] T)) w.heap.size n s d := heap_alloc_new w _
theorem ConfAt.lt {T : TypeId} {w : World} {p : Nat} {n : Int} {s d : Value} (h : ConfAt T w p n s d) : p < w.heap.size := (Array.getElem?_eq_some_iff.1 h).1
theorem ConfAt.ext {T : TypeId} {w w' : World} {p : Nat} {n : Int} {s d : Value} (h : ConfAt T w p n s d) (hE : Ext w w') : ConfAt T w' p n s d := (hE.block p h.lt).trans h
theorem ConfAt.but {T : TypeId} {w w' : World} {p q : Nat} {n : Int} {s d : Value} (h : ConfAt T w p n s d) (hB : But q w w') (hne : p ≠ q) : ConfAt T w' p n s d := (hB.block p h.lt hne).trans h
theorem ConfAt.cells {T : TypeId} {w : World} {p : Nat} {n : Int} {s d : Value} (h : ConfAt T w p n s d) : w.cell? ⟨p, 0, none⟩ = some (.int .i64 n) ∧ w.cell? ⟨p, 1, none⟩ = some s ∧ w.cell? ⟨p, 2, none⟩ = some d :=
  ⟨cell_of_heap h 0, cell_of_heap h 1, cell_of_heap h 2⟩

theorem box_conf (w : World) (n : Int) (s d : Value) : (Instr.box 26 (.agg #[.int .i64 n, s, d])).run Try.prog w = .ok (.pointer (some ⟨w.heap.size, 0, none⟩)) (w.alloc (.cells #[.int .i64 n, s, d] 26)) := by kernel_rfl
theorem box_confR (w : World) (n : Int) (s d : Value) : (Instr.box 25 (.agg #[.int .i64 n, s, d])).run Try.prog w = .ok (.pointer (some ⟨w.heap.size, 0, none⟩)) (w.alloc (.cells #[.int .i64 n, s, d] 25)) := by kernel_rfl

set_option maxHeartbeats 1000000 in
theorem isEven6_any (v : Value) (ns : List Int) (w : World) (hv : Ints w v ns) :
    Calls Try.prog 12 #[v] w fun e w' => e = .returned (.bool (decide (ns.length % 2 = 0))) ∧ w = w' := by
  obtain ⟨a, cap, rfl, hcap, hmax, _, _⟩ := hv.open
  unfold maxLen at hmax
  clear hv
  by_cases h : ns.length % 2 = 0
  · have g : (Int.tmod (ns.length : Int) 2 == 0) = true := by
      have : Int.tmod (ns.length : Int) 2 = ((ns.length % 2 : Nat) : Int) := rfl
      rw [this, h]; rfl
    have g2 : ((ns.length : Int) % 2 == 0) = true := by rw [beq_iff_eq]; omega
    rw [decide_eq_true h]
    clear h
    generalize hn : (ns.length : Int) = n at *
    go_enter Try.func12, Try.ntmps12
    go_wp2_with fail
    go_ret
    exact ⟨by first | rfl | (simp only [g2]; rfl), rfl⟩
  · have g : (Int.tmod (ns.length : Int) 2 == 0) = false := by
      have : Int.tmod (ns.length : Int) 2 = ((ns.length % 2 : Nat) : Int) := rfl
      rw [this, show ns.length % 2 = 1 by omega]; rfl
    have g2 : ((ns.length : Int) % 2 == 0) = false := by rw [beq_eq_false_iff_ne]; omega
    rw [decide_eq_false h]
    clear h
    generalize hn : (ns.length : Int) = n at *
    go_enter Try.func12, Try.ntmps12
    go_wp2_with fail
    go_ret
    exact ⟨by first | rfl | (simp only [g2]; rfl), rfl⟩

set_option maxHeartbeats 1000000 in
theorem notShard6_any (v : Value) (ns : List Int) (w : World) (hv : Ints w v ns) :
    Calls Try.prog 15 #[v] w fun e w' => e = .returned (.bool (!Term.okShard ns)) ∧ w = w' := by
  have HV := Lib.hid hv
  clear hv
  cases hb : Term.okShard ns with
  | true =>
    have HB := Lib.hid hb
    clear hb
    go_enter Try.func15, Try.ntmps15
    go_wp2_with fail
    refine (areNodes6_any v ns 3 _ HV.out (by omega)).mono ?_
    rw [show (decide (1 ≤ ns.length ∧ ns.length ≤ 3) && Term.unlike ns) = true from HB.out]
    rintro e w' ⟨rfl, rfl⟩
    go_wp2_with fail
    go_ret
    exact ⟨rfl, rfl⟩
  | false =>
    have HB := Lib.hid hb
    clear hb
    go_enter Try.func15, Try.ntmps15
    go_wp2_with fail
    refine (areNodes6_any v ns 3 _ HV.out (by omega)).mono ?_
    rw [show (decide (1 ≤ ns.length ∧ ns.length ≤ 3) && Term.unlike ns) = false from HB.out]
    rintro e w' ⟨rfl, rfl⟩
    go_wp2_with fail
    go_ret
    exact ⟨rfl, rfl⟩

theorem allSucc {ls : List (List Int)} {f : List Int → Bool} {k : Nat} (h : k < ls.length) (h1 : (ls.take k).all f = true) (h2 : f ls[k] = true) : (ls.take (k + 1)).all f = true := by
  rw [take_succ_getD ls k h, List.all_append, h1]; simp [h2]
theorem allNot {ls : List (List Int)} {f : List Int → Bool} {k : Nat} (h : k < ls.length) (h2 : f ls[k] = false) : ls.all f = false := by
  rw [List.all_eq_false]
  exact ⟨ls[k], List.getElem_mem _, by rw [h2]; simp⟩
theorem allEnd {ls : List (List Int)} {f : List Int → Bool} {k : Nat} (hk : k ≤ ls.length) (hlt : ¬ k < ls.length) (h : (ls.take k).all f = true) : ls.all f = true := by
  rw [List.take_of_length_le (by omega)] at h; exact h

set_option maxHeartbeats 1000000 in
theorem idxShard6_any (v : Value) (ls : List (List Int)) (w : World) (hv : IRows w v ls) :
    Calls Try.prog 27 #[v, .func (.func 15) #[] #[]] w fun e w' => (∃ i : Int, e = .returned (.int .i64 i) ∧ (decide (0 ≤ i)) = !(ls.all Term.okShard)) ∧ w = w' := by
  obtain ⟨a, cap, rfl, hcap, hmax, hc⟩ := hv.open
  unfold maxLen at hmax
  have HC := Lib.hid hc
  clear hv hc
  go_enter Try.func27, Try.ntmps27
  go_wp2
  go_loop [5, 8] (fun _ i => ∃ k : Nat, k ≤ ls.length ∧ i = .int .i64 k ∧ Hid ((ls.take k).all Term.okShard = true)) (fun _ i => ls.length - (intOf i).toNat)
  case atStart => exact ⟨0, by omega, rfl, by simp [Hid]⟩
  case round =>
    obtain ⟨k, hk, rfl, hr⟩ := hrel
    by_cases hlt : k < ls.length
    · obtain ⟨b, off, x, rfl, hcell, hx⟩ := HC.out k hlt
      have HX := Lib.hid hx
      obtain ⟨ax, cx, rfl, _⟩ := hx.open
      clear hx
      cases hb : Term.okShard ls[k] with
      | true =>
        have HB := Lib.hid hb
        clear hb
        go_wp2_with fail
        refine (notShard6_any _ ls[k] _ HX.out).mono ?_
        rw [HB.out]
        rintro e w' ⟨rfl, rfl⟩
        go_wp2_with fail
        go_round
        case rel => exact ⟨k + 1, by omega, by go_num, allSucc hlt hr.out HB.out⟩
        case measure => simp [intOf]; omega
      | false =>
        have HB := Lib.hid hb
        clear hb
        go_wp2_with fail
        refine (notShard6_any _ ls[k] _ HX.out).mono ?_
        rw [HB.out]
        rintro e w' ⟨rfl, rfl⟩
        go_wp2_with fail
        go_ret
        exact ⟨⟨k, rfl, by rw [allNot hlt HB.out]; simp⟩, rfl⟩
    · have hs := Lib.hid (allEnd hk hlt hr.out)
      clear hr
      go_wp2_with fail
      go_ret
      exact ⟨⟨-1, rfl, by rw [hs.out]; simp⟩, rfl⟩

set_option maxHeartbeats 1000000 in
theorem hasShard6_any (v : Value) (ls : List (List Int)) (w : World) (hv : IRows w v ls) :
    Calls Try.prog 14 #[v, .func (.func 15) #[] #[]] w fun e w' => e = .returned (.bool (!(ls.all Term.okShard))) ∧ w = w' := by
  have HV := Lib.hid hv
  clear hv
  go_enter Try.func14, Try.ntmps14
  go_wp2_with fail
  refine (idxShard6_any v ls _ HV.out).mono ?_
  rintro e w' ⟨⟨i, rfl, hi⟩, rfl⟩
  go_wp2_with fail
  go_ret
  exact ⟨by rw [← hi]; rfl, rfl⟩

theorem rightNo {c : Term.C} (h : c.term < 1 ∨ 64 < c.term ∨ (c.shards.length : Int) < 1 ∨ 8 < (c.shards.length : Int)) : Term.right c = false := by
  rw [← Bool.not_eq_true]
  intro g
  have := Term.right_ok g
  omega
theorem rightYes {c : Term.C} (h1 : ¬ c.term < 1) (h2 : ¬ 64 < c.term) (h3 : ¬ (c.shards.length : Int) < 1) (h4 : ¬ 8 < (c.shards.length : Int)) :
    Term.right c = (c.shards.all Term.okShard && (decide (c.seqs.length = 1 ∨ c.seqs.length = 3 ∨ c.seqs.length = 5 ∨ c.seqs.length = 7) && Term.unlike c.seqs)) := by
  unfold Term.right
  rw [decide_eq_true (by omega), Bool.true_and]
theorem rightEven {c : Term.C} (h : decide (c.seqs.length % 2 = 0) = true) : Term.right c = false := by
  rw [← Bool.not_eq_true]
  intro g
  have := (Term.right_ok g).2.2.2.1
  rw [decide_eq_true_eq] at h
  omega
theorem rightOdd {c : Term.C} (h : decide (c.seqs.length % 2 = 0) = false) : decide (c.seqs.length = 1 ∨ c.seqs.length = 3 ∨ c.seqs.length = 5 ∨ c.seqs.length = 7) = decide (1 ≤ c.seqs.length ∧ c.seqs.length ≤ 7) := by
  rw [decide_eq_false_iff_not] at h
  rw [decide_eq_decide]
  omega

set_option maxHeartbeats 4000000 in
theorem right6_any (v : Value) (c : Term.C) (w : World) (hv : IsConf w v c) :
    Calls Try.prog 5 #[v] w fun x w' => x = .returned (.bool (Term.right c)) ∧ Ext w w' := by
  have hbx := box_conf
  obtain ⟨s, d, rfl, hs, hd⟩ := hv
  obtain ⟨t, S, D⟩ := c
  unfold confV
  simp only at hs hd ⊢
  have HS := Lib.hid hs
  have HD := Lib.hid hd
  obtain ⟨a, cap, rfl, hcap, hmax, _, _⟩ := hs.open
  obtain ⟨a2, cap2, rfl, hcap2, hmax2, _⟩ := hd.open
  unfold maxLen at hmax hmax2
  clear hs hd
  have hE0 : Ext w (w.alloc (.cells #[.int .i64 t, .slice a S.length cap, .slice a2 D.length cap2] 26)) := Ext.alloc _ _
  by_cases g1 : t < 1
  · have HR := Lib.hid (rightNo (c := ⟨t, S, D⟩) (.inl g1))
    go_enter Try.func5, Try.ntmps5
    go_wp2_with fail
    go_ret
    exact ⟨by rw [HR.out]; rfl, hE0⟩
  by_cases g2 : 64 < t
  · have HR := Lib.hid (rightNo (c := ⟨t, S, D⟩) (.inr (.inl g2)))
    go_enter Try.func5, Try.ntmps5
    go_wp2_with fail
    go_ret
    exact ⟨by rw [HR.out]; rfl, hE0⟩
  by_cases g3 : (D.length : Int) < 1
  · have HR := Lib.hid (rightNo (c := ⟨t, S, D⟩) (.inr (.inr (.inl g3))))
    go_enter Try.func5, Try.ntmps5
    go_wp2_with fail
    go_ret
    exact ⟨by rw [HR.out]; rfl, hE0⟩
  by_cases g4 : 8 < (D.length : Int)
  · have HR := Lib.hid (rightNo (c := ⟨t, S, D⟩) (.inr (.inr (.inr g4))))
    go_enter Try.func5, Try.ntmps5
    go_wp2_with fail
    go_ret
    exact ⟨by rw [HR.out]; rfl, hE0⟩
  have HY := Lib.hid (rightYes (c := ⟨t, S, D⟩) g1 g2 g3 g4)
  cases he : decide (S.length % 2 = 0) with
  | true =>
    have HR := Lib.hid (rightEven (c := ⟨t, S, D⟩) he)
    have HE := Lib.hid he
    clear he
    go_enter Try.func5, Try.ntmps5
    go_wp2_with fail
    refine (isEven6_any _ S _ (HS.out.below hE0)).mono ?_
    rw [HE.out]
    rintro e w' ⟨rfl, rfl⟩
    go_wp2_with fail
    go_ret
    exact ⟨by rw [HR.out]; rfl, hE0⟩
  | false =>
    have HO := Lib.hid (rightOdd (c := ⟨t, S, D⟩) he)
    have HE := Lib.hid he
    clear he
    cases hn : (decide (1 ≤ S.length ∧ S.length ≤ 7) && Term.unlike S) with
    | false =>
      have HN := Lib.hid hn
      have HR := Lib.hid (show Term.right ⟨t, S, D⟩ = false by rw [HY.out, HO.out, HN.out, Bool.and_false])
      clear hn
      go_enter Try.func5, Try.ntmps5
      go_wp2_with fail
      refine (isEven6_any _ S _ (HS.out.below hE0)).mono ?_
      rw [HE.out]
      rintro e w' ⟨rfl, rfl⟩
      go_wp2_with fail
      refine (areNodes6_any _ S 7 _ (HS.out.below hE0) (by omega)).mono ?_
      rw [HN.out]
      rintro e w' ⟨rfl, rfl⟩
      go_wp2_with fail
      go_ret
      exact ⟨by rw [HR.out]; rfl, hE0⟩
    | true =>
      have HN := Lib.hid hn
      have HR := Lib.hid (show Term.right ⟨t, S, D⟩ = D.all Term.okShard by rw [HY.out, HO.out, HN.out, Bool.and_true])
      clear hn
      go_enter Try.func5, Try.ntmps5
      go_wp2_with fail
      refine (isEven6_any _ S _ (HS.out.below hE0)).mono ?_
      rw [HE.out]
      rintro e w' ⟨rfl, rfl⟩
      go_wp2_with fail
      refine (areNodes6_any _ S 7 _ (HS.out.below hE0) (by omega)).mono ?_
      rw [HN.out]
      rintro e w' ⟨rfl, rfl⟩
      go_wp2_with fail
      refine (hasShard6_any _ D _ (HD.out.below hE0)).mono ?_
      rintro e w' ⟨rfl, rfl⟩
      go_wp2_with fail
      go_ret
      exact ⟨by rw [HR.out]; cases D.all Term.okShard <;> rfl, hE0⟩
end Go.Proofs.Ytpfodkgncachiaa
