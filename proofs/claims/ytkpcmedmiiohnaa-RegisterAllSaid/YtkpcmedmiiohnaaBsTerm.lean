/-
  Merged: Layer 6, the program: has a row a number; Layer 6, the program: configurations by value; Layer 6: which configurations may be: the document's own answer; Layer 6, the program: configurations as bytes; Layer 6: configurations as bytes: the document's own answer; Layer 6: are two configurations the same: the program's answer, and the document's; Layer 6: configurations, and rows of numbers, out of what comes in.
-/
import Derived.Test.YtkpcmedmiiohnaaRows
import Derived.Test.YtkpcmedmiiohnaaChecked
import Derived.SizedLaws
import Derived.Test.YtkpcmedmiiohnaaBsCrcPut
import Derived.Test.YtkpcmedmiiohnaaBsCrcRef
import Derived.Test.YtkpcmedmiiohnaaBsMath
import Derived.Test.YtkpcmedmiiohnaaBsPack
import Derived.Test.YtkpcmedmiiohnaaBsVec

namespace Go.Proofs.Ytkpcmedmiiohnaa
set_option linter.unusedSimpArgs false
set_option linter.unusedVariables false
set_option maxRecDepth 100000
open Go.RowKit
/- Layer 6, the program: has a row a number; may these be a row's nodes. -/
/-- Has a row a number? -/
def hasI (ns : List Int) (x : Int) : Bool := ns.contains x
theorem hasSucc (ns : List Int) (x : Int) (k : Nat) (h : k < ns.length) (h1 : hasI (ns.take k) x = false) (h2 : ns[k] ≠ x) : hasI (ns.take (k + 1)) x = false := by
  rw [take_succ_getD ns k h]
  simp only [hasI, List.contains_eq_mem, decide_eq_false_iff_not, List.mem_append, List.mem_singleton, not_or] at h1 ⊢
  exact ⟨h1, fun e => h2 e.symm⟩
theorem hasHere (ns : List Int) (x : Int) (k : Nat) (h : k < ns.length) (h2 : ns[k] = x) : hasI ns x = true := by
  rw [hasI, List.contains_eq_mem, decide_eq_true_eq, ← h2]
  exact List.getElem_mem h
theorem hasEnd {ns : List Int} {x : Int} {k : Nat} (hk : k ≤ ns.length) (hlt : ¬ k < ns.length) {b : Bool} (h : hasI (ns.take k) x = b) : hasI ns x = b := by
  rw [List.take_of_length_le (by omega)] at h; exact h
theorem Ints.take {w : World} {a : Option Addr} {n cap : Nat} {ns : List Int} (h : Ints w (.slice a n cap) ns) (k : Nat) (hk : k ≤ n) : Ints w (.slice a k cap) (ns.take k) := by
  have := Sl.take h k hk
  have e : (i64s ns).take k = i64s (ns.take k) := by simp [i64s]
  rw [e] at this
  exact this

set_option maxHeartbeats 1000000 in
theorem idx6_any (v : Value) (ns : List Int) (x : Int) (w : World) (hv : Ints w v ns) :
    Calls Try.prog 68 #[v, .int .i64 x] w fun e w' => (∃ i : Int, e = .returned (.int .i64 i) ∧ (decide (0 ≤ i)) = hasI ns x) ∧ w = w' := by
  obtain ⟨a, cap, rfl, hcap, hmax, _, hc⟩ := hv.open
  unfold maxLen at hmax
  clear hv
  go_enter Try.func68, Try.ntmps68
  go_wp2
  go_loop [5, 8] (fun _ i => ∃ k : Nat, k ≤ ns.length ∧ i = .int .i64 k ∧ Hid (hasI (ns.take k) x = false)) (fun _ i => ns.length - (intOf i).toNat)
  case atStart => exact ⟨0, by omega, rfl, by simp [Hid, hasI]⟩
  case round =>
    obtain ⟨k, hk, rfl, hr⟩ := hrel
    by_cases hlt : k < ns.length
    · obtain ⟨b, off, rfl, hcell⟩ := hc k hlt
      clear hc
      by_cases h0 : ns[k] = x
      · have HS := Lib.hid (hasHere ns x k hlt h0)
        have g0 : (x == ns[k]) = true := by rw [h0]; simp
        clear h0
        go_wp2
        go_ret
        exact ⟨⟨k, rfl, by rw [HS.out]; simp⟩, rfl⟩
      · have HS := Lib.hid (hasSucc ns x k hlt hr.out h0)
        have g0 : (x == ns[k]) = false := by rw [beq_eq_false_iff_ne]; exact fun e => h0 e.symm
        clear h0
        go_wp2
        go_round
        case rel => exact ⟨k + 1, by omega, by go_num, HS.out⟩
        case measure => simp [intOf]; omega
    · have hs := Lib.hid (hasEnd hk hlt hr.out)
      clear hr hc
      go_wp2
      go_ret
      exact ⟨⟨-1, rfl, by rw [hs.out]; simp⟩, rfl⟩

set_option maxHeartbeats 1000000 in
theorem has6_any (v : Value) (ns : List Int) (x : Int) (w : World) (hv : Ints w v ns) :
    Calls Try.prog 60 #[v, .int .i64 x] w fun e w' => e = .returned (.bool (hasI ns x)) ∧ w = w' := by
  have HV := Lib.hid hv
  clear hv
  go_enter Try.func60, Try.ntmps60
  go_wp2_with fail
  refine (idx6_any v ns x _ HV.out).mono ?_
  rintro e w' ⟨⟨i, rfl, hi⟩, rfl⟩
  go_wp2_with fail
  go_ret
  exact ⟨by rw [← hi]; rfl, rfl⟩

set_option maxHeartbeats 1000000 in
theorem refHas6_any (v : Value) (ns : List Int) (x : Int) (w : World) (hv : Ints w v ns) :
    Calls Try.prog 49 #[v, .int .i64 x] w fun e w' => e = .returned (.bool (hasI ns x)) ∧ w = w' := by
  obtain ⟨a, cap, rfl, hcap, hmax, _, hc⟩ := hv.open
  unfold maxLen at hmax
  clear hv
  go_enter Try.func49, Try.ntmps49
  go_wp2
  go_loop [5] (fun i => ∃ k : Nat, k ≤ ns.length ∧ i = .int .i64 k ∧ Hid (hasI (ns.take k) x = false)) (fun i => ns.length - (intOf i).toNat)
  case atStart => exact ⟨0, by omega, rfl, by simp [Hid, hasI]⟩
  case round =>
    obtain ⟨k, hk, rfl, hr⟩ := hrel
    by_cases hlt : k < ns.length
    · obtain ⟨b, off, rfl, hcell⟩ := hc k hlt
      clear hc
      by_cases h0 : ns[k] = x
      · have HS := Lib.hid (hasHere ns x k hlt h0)
        have g0 : (ns[k] == x) = true := by rw [h0]; simp
        clear h0
        go_wp2
        go_ret
        exact ⟨by rw [HS.out]; rfl, rfl⟩
      · have HS := Lib.hid (hasSucc ns x k hlt hr.out h0)
        have g0 : (ns[k] == x) = false := by rw [beq_eq_false_iff_ne]; exact h0
        clear h0
        go_wp2
        go_round
        case rel => exact ⟨k + 1, by omega, by go_num, HS.out⟩
        case measure => simp [intOf]; omega
    · have hs := Lib.hid (hasEnd hk hlt hr.out)
      clear hr hc
      go_wp2
      go_ret
      exact ⟨by rw [hs.out]; rfl, rfl⟩

theorem unlikeSucc {ns : List Int} {k : Nat} (h : k < ns.length) (h1 : Term.unlike (ns.take k) = true) (a : 0 ≤ ns[k]) (b : ns[k] ≤ 15) (c : hasI (ns.take k) ns[k] = false) : Term.unlike (ns.take (k + 1)) = true := by
  unfold hasI at c
  rw [take_succ_getD ns k h, Term.unlike_snoc, h1, c]
  simp [Term.okNode, a, b]
theorem unlikeNot {ns : List Int} {k : Nat} (h : k < ns.length) (c : ns[k] < 0 ∨ 15 < ns[k] ∨ hasI (ns.take k) ns[k] = true) : Term.unlike ns = false := by
  rw [← Bool.not_eq_true]
  intro hu
  have := Term.unlike_take (k + 1) hu
  rw [take_succ_getD ns k h, Term.unlike_snoc] at this
  simp only [Bool.and_eq_true, Term.okNode, decide_eq_true_eq, Bool.not_eq_true'] at this
  rcases c with c | c | c
  · omega
  · omega
  · unfold hasI at c; rw [this.2.2] at c; cases c
theorem unlikeEnd {ns : List Int} {k : Nat} (hk : k ≤ ns.length) (hlt : ¬ k < ns.length) (h : Term.unlike (ns.take k) = true) : Term.unlike ns = true := by
  rw [List.take_of_length_le (by omega)] at h; exact h
theorem to6 (w : World) (a : Option Addr) (n cap k : Nat) (hk : k ≤ cap) : (Instr.sliceAt 22 (.slice a n cap) none (some (.int .i64 (k : Int))) none).run Try.prog w = .ok (.slice a k cap) w :=
  run_sl_to Try.underlying22 (by kernel_rfl) k hk .i64

set_option maxHeartbeats 4000000 in
theorem areNodes6_any (v : Value) (ns : List Int) (m : Nat) (w : World) (hv : Ints w v ns) (hm : m ≤ 100) :
    Calls Try.prog 44 #[v, .int .i64 m] w fun e w' => e = .returned (.bool (decide (1 ≤ ns.length ∧ ns.length ≤ m) && Term.unlike ns)) ∧ w = w' := by
  have HV := Lib.hid hv
  obtain ⟨a, cap, rfl, hcap, hmax, _, hc⟩ := hv.open
  unfold maxLen at hmax
  have HC := Lib.hid hc
  clear hv hc
  by_cases g1 : (ns.length : Int) < 1
  · have e : decide (1 ≤ ns.length ∧ ns.length ≤ m) = false := by rw [decide_eq_false_iff_not]; omega
    rw [e]
    clear e
    go_enter Try.func44, Try.ntmps44
    go_wp2
    go_ret
    exact ⟨rfl, rfl⟩
  by_cases g2 : (m : Int) < (ns.length : Int)
  · have e : decide (1 ≤ ns.length ∧ ns.length ≤ m) = false := by rw [decide_eq_false_iff_not]; omega
    rw [e]
    clear e
    go_enter Try.func44, Try.ntmps44
    go_wp2
    go_ret
    exact ⟨rfl, rfl⟩
  have e : decide (1 ≤ ns.length ∧ ns.length ≤ m) = true := by rw [decide_eq_true_eq]; omega
  rw [e, Bool.true_and]
  clear e
  have hsl := fun (k : Nat) (hk : k ≤ cap) wy => to6 wy a ns.length cap k hk
  have HSL := Lib.hid hsl
  clear hsl
  go_enter Try.func44, Try.ntmps44
  go_wp2_with fail
  go_loop [5, 6, 18] (fun _ _ i => ∃ k : Nat, k ≤ ns.length ∧ i = .int .i64 k ∧ Hid (Term.unlike (ns.take k) = true)) (fun _ _ i => ns.length - (intOf i).toNat)
  case atStart => exact ⟨0, by omega, rfl, by simp [Hid, Term.unlike]⟩
  case round =>
    obtain ⟨k, hk, rfl, hr⟩ := hrel
    by_cases hlt : k < ns.length
    · obtain ⟨b, off, rfl, hcell⟩ := HC.out k hlt
      have hs1 := HSL.out k (by omega) w
      by_cases h0 : ns[k] < 0
      · have HS := Lib.hid (unlikeNot hlt (.inl h0))
        go_wp2_with fail
        go_ret
        exact ⟨by rw [HS.out]; rfl, rfl⟩
      by_cases h2 : 16 ≤ ns[k]
      · have HS := Lib.hid (unlikeNot hlt (.inr (.inl (by omega))))
        go_wp2_with fail
        go_ret
        exact ⟨by rw [HS.out]; rfl, rfl⟩
      have HT := Lib.hid (HV.out.take k (by omega))
      cases hb : hasI (ns.take k) ns[k] with
      | true =>
        have HS := Lib.hid (unlikeNot hlt (.inr (.inr hb)))
        have HB := Lib.hid hb
        clear hb
        go_wp2_with fail
        refine (has6_any _ _ _ _ HT.out).mono ?_
        rw [HB.out]
        rintro e w' ⟨rfl, rfl⟩
        go_wp2_with fail
        go_ret
        exact ⟨by rw [HS.out]; rfl, rfl⟩
      | false =>
        have HS := Lib.hid (unlikeSucc hlt hr.out (by omega) (by omega) hb)
        have HB := Lib.hid hb
        clear hb
        go_wp2_with fail
        refine (has6_any _ _ _ _ HT.out).mono ?_
        rw [HB.out]
        rintro e w' ⟨rfl, rfl⟩
        go_wp2_with fail
        go_round
        case rel => exact ⟨k + 1, by omega, by go_num, HS.out⟩
        case measure => simp [intOf]; omega
    · have hs := Lib.hid (unlikeEnd hk hlt hr.out)
      clear hr
      go_wp2_with fail
      go_ret
      exact ⟨by rw [hs.out]; rfl, rfl⟩

set_option maxHeartbeats 4000000 in
theorem refUnlike6_any (v : Value) (ns : List Int) (w : World) (hv : Ints w v ns) :
    Calls Try.prog 24 #[v] w fun e w' => e = .returned (.bool (Term.unlike ns)) ∧ Ext w w' := by
  have HV := Lib.hid hv
  obtain ⟨a, cap, rfl, hcap, hmax, _, hc⟩ := hv.open
  unfold maxLen at hmax
  clear hv hc
  have hsl := fun (k : Nat) (hk : k ≤ cap) wy => to6 wy a ns.length cap k hk
  have HSL := Lib.hid hsl
  clear hsl
  go_enter Try.func24, Try.ntmps24
  go_wp2_with fail
  go_loopw [3] (fun i wr => ∃ k : Nat, k ≤ ns.length ∧ i = .int .i64 k ∧ Hid (Term.unlike (ns.take k) = true) ∧ Ext w wr) (fun i _ => ns.length - (intOf i).toNat)
  case atStart => exact ⟨0, by omega, rfl, by simp [Hid, Term.unlike], Ext.refl _⟩
  case round =>
    obtain ⟨k, hk, rfl, hr, hE⟩ := hrel
    by_cases hlt : k < ns.length
    · obtain ⟨a', cap', e', _, _, _, hc⟩ := (HV.out.below hE).open
      obtain ⟨b, off, rfl, hcell⟩ := hc k hlt
      have hcelld : wr.drew.cell? ⟨b, off + k, none⟩ = some (.int .i64 ns[k]) := hcell
      injection e' with e1 e2 e3
      subst e1
      clear hc e2 e3
      have hs1 := HSL.out k (by omega)
      by_cases h0 : ns[k] < 0
      · have HS := Lib.hid (unlikeNot hlt (.inl h0))
        go_wp2_with fail
        go_quiet (fail)
        go_wp2_with fail
        go_ret
        exact ⟨by rw [HS.out]; rfl, hE.trans (Ext.drewN _ _)⟩
      by_cases h2 : 15 < ns[k]
      · have HS := Lib.hid (unlikeNot hlt (.inr (.inl (by omega))))
        go_wp2_with fail
        go_quiet (fail)
        go_wp2_with fail
        go_ret
        exact ⟨by rw [HS.out]; rfl, hE.trans (Ext.drewN _ _)⟩
      have HQ : Hid (∀ q : Nat, Calls Try.prog 49 #[.slice (some ⟨b, off, none⟩) k cap, .int .i64 ns[k]] (wr.drewN q) fun e w' => e = .returned (.bool (hasI (ns.take k) ns[k])) ∧ w' = wr.drewN q) := by
        intro q
        refine (refHas6_any _ _ _ _ (((HV.out.below hE).below (Ext.drewN wr q)).take k (by omega))).mono ?_
        rintro e w' ⟨rfl, rfl⟩
        exact ⟨rfl, rfl⟩
      cases hb : hasI (ns.take k) ns[k] with
      | true =>
        have HS := Lib.hid (unlikeNot hlt (.inr (.inr hb)))
        rw [hb] at HQ
        clear hb
        go_wp2_with fail
        go_quiet (first | (go_at_call 49; exact Calls.quiet_of_same (HQ.out _)))
        go_wp2_with fail
        go_ret
        exact ⟨by rw [HS.out]; rfl, hE.trans (Ext.drewN _ _)⟩
      | false =>
        have HS := Lib.hid (unlikeSucc hlt hr.out (by omega) (by omega) hb)
        rw [hb] at HQ
        clear hb
        go_wp2_with fail
        go_quiet (first | (go_at_call 49; exact Calls.quiet_of_same (HQ.out _)))
        go_wp2_with fail
        go_roundw
        case rel => exact ⟨k + 1, by omega, by go_num, HS.out, hE.trans (Ext.drewN _ _)⟩
        case measure => simp [intOf]; omega
    · have hs := Lib.hid (unlikeEnd hk hlt hr.out)
      clear hr
      go_wp2_with fail
      go_ret
      exact ⟨by rw [hs.out]; rfl, hE⟩
/- Layer 6, the program: configurations by value; which may be. -/
/-- A configuration, by value: its two slices, and what they hold. -/
def confV (n : Int) (s d : Value) : Value := .agg #[.int .i64 n, s, d]
def IsConf (w : World) (v : Value) (c : Term.C) : Prop := ∃ s d, v = confV c.term s d ∧ Ints w s c.seqs ∧ IRows w d c.shards
theorem IsConf.below {w w' : World} {v : Value} {c : Term.C} (h : IsConf w v c) (hb : Below w.heap.size w w') : IsConf w' v c := by
  obtain ⟨s, d, rfl, h1, h2⟩ := h
  exact ⟨s, d, rfl, h1.below hb, h2.below hb⟩
/-- A configuration's value, opened. -/
theorem IsConf.shape {w : World} {v : Value} {c : Term.C} (h : IsConf w v c) : ∃ a n p b m q, v = .agg #[.int .i64 c.term, .slice a n p, .slice b m q] := by
  obtain ⟨s, d, rfl, h1, h2⟩ := h
  obtain ⟨a, p, rfl, _⟩ := h1.open
  obtain ⟨b, q, rfl, _⟩ := h2.open
  exact ⟨_, _, _, _, _, _, rfl⟩
/-- Block p is a configuration (of the program's type, or of the document's). -/
def ConfAt (T : TypeId) (w : World) (p : Nat) (n : Int) (s d : Value) : Prop := w.heap[p]? = some (.cells #[.int .i64 n, s, d] T (0, 0))
theorem ConfAt.new (T : TypeId) (w : World) (n : Int) (s d : Value) : ConfAt T (w.alloc (.cells #[.int .i64 n, s, d] T)) w.heap.size n s d := heap_alloc_new w _
theorem ConfAt.lt {T : TypeId} {w : World} {p : Nat} {n : Int} {s d : Value} (h : ConfAt T w p n s d) : p < w.heap.size := (Array.getElem?_eq_some_iff.1 h).1
theorem ConfAt.ext {T : TypeId} {w w' : World} {p : Nat} {n : Int} {s d : Value} (h : ConfAt T w p n s d) (hE : Ext w w') : ConfAt T w' p n s d := (hE.block p h.lt).trans h
theorem ConfAt.but {T : TypeId} {w w' : World} {p q : Nat} {n : Int} {s d : Value} (h : ConfAt T w p n s d) (hB : But q w w') (hne : p ≠ q) : ConfAt T w' p n s d := (hB.block p h.lt hne).trans h
theorem ConfAt.cells {T : TypeId} {w : World} {p : Nat} {n : Int} {s d : Value} (h : ConfAt T w p n s d) : w.cell? ⟨p, 0, none⟩ = some (.int .i64 n) ∧ w.cell? ⟨p, 1, none⟩ = some s ∧ w.cell? ⟨p, 2, none⟩ = some d :=
  ⟨cell_of_heap h 0, cell_of_heap h 1, cell_of_heap h 2⟩

theorem box_conf (w : World) (n : Int) (s d : Value) : (Instr.box 33 (.agg #[.int .i64 n, s, d])).run Try.prog w = .ok (.pointer (some ⟨w.heap.size, 0, none⟩)) (w.alloc (.cells #[.int .i64 n, s, d] 33)) := by kernel_rfl
theorem box_confR (w : World) (n : Int) (s d : Value) : (Instr.box 25 (.agg #[.int .i64 n, s, d])).run Try.prog w = .ok (.pointer (some ⟨w.heap.size, 0, none⟩)) (w.alloc (.cells #[.int .i64 n, s, d] 25)) := by kernel_rfl

set_option maxHeartbeats 1000000 in
theorem isEven6_any (v : Value) (ns : List Int) (w : World) (hv : Ints w v ns) :
    Calls Try.prog 43 #[v] w fun e w' => e = .returned (.bool (decide (ns.length % 2 = 0))) ∧ w = w' := by
  obtain ⟨a, cap, rfl, hcap, hmax, _, _⟩ := hv.open
  unfold maxLen at hmax
  clear hv
  by_cases h : ns.length % 2 = 0
  · have g : (Int.tmod (ns.length : Int) 2 == 0) = true := by
      have : Int.tmod (ns.length : Int) 2 = ((ns.length % 2 : Nat) : Int) := rfl
      rw [this, h]; rfl
    have g2 : ((ns.length : Int) % 2 == 0) = true := by rw [beq_iff_eq]; omega
    rw [decide_eq_true h]
    clear h
    generalize hn : (ns.length : Int) = n at *
    go_enter Try.func43, Try.ntmps43
    go_wp2_with fail
    go_ret
    exact ⟨by first | rfl | (simp only [g2]; rfl), rfl⟩
  · have g : (Int.tmod (ns.length : Int) 2 == 0) = false := by
      have : Int.tmod (ns.length : Int) 2 = ((ns.length % 2 : Nat) : Int) := rfl
      rw [this, show ns.length % 2 = 1 by omega]; rfl
    have g2 : ((ns.length : Int) % 2 == 0) = false := by rw [beq_eq_false_iff_ne]; omega
    rw [decide_eq_false h]
    clear h
    generalize hn : (ns.length : Int) = n at *
    go_enter Try.func43, Try.ntmps43
    go_wp2_with fail
    go_ret
    exact ⟨by first | rfl | (simp only [g2]; rfl), rfl⟩

set_option maxHeartbeats 1000000 in
theorem notShard6_any (v : Value) (ns : List Int) (w : World) (hv : Ints w v ns) :
    Calls Try.prog 46 #[v] w fun e w' => e = .returned (.bool (!Term.okShard ns)) ∧ w = w' := by
  have HV := Lib.hid hv
  clear hv
  cases hb : Term.okShard ns with
  | true =>
    have HB := Lib.hid hb
    clear hb
    go_enter Try.func46, Try.ntmps46
    go_wp2_with fail
    refine (areNodes6_any v ns 3 _ HV.out (by omega)).mono ?_
    rw [show (decide (1 ≤ ns.length ∧ ns.length ≤ 3) && Term.unlike ns) = true from HB.out]
    rintro e w' ⟨rfl, rfl⟩
    go_wp2_with fail
    go_ret
    exact ⟨rfl, rfl⟩
  | false =>
    have HB := Lib.hid hb
    clear hb
    go_enter Try.func46, Try.ntmps46
    go_wp2_with fail
    refine (areNodes6_any v ns 3 _ HV.out (by omega)).mono ?_
    rw [show (decide (1 ≤ ns.length ∧ ns.length ≤ 3) && Term.unlike ns) = false from HB.out]
    rintro e w' ⟨rfl, rfl⟩
    go_wp2_with fail
    go_ret
    exact ⟨rfl, rfl⟩

theorem allSucc {ls : List (List Int)} {f : List Int → Bool} {k : Nat} (h : k < ls.length) (h1 : (ls.take k).all f = true) (h2 : f ls[k] = true) : (ls.take (k + 1)).all f = true := by
  rw [take_succ_getD ls k h, List.all_append, h1]; simp [h2]
theorem allNot {ls : List (List Int)} {f : List Int → Bool} {k : Nat} (h : k < ls.length) (h2 : f ls[k] = false) : ls.all f = false := by
  rw [List.all_eq_false]
  exact ⟨ls[k], List.getElem_mem _, by rw [h2]; simp⟩
theorem allEnd {ls : List (List Int)} {f : List Int → Bool} {k : Nat} (hk : k ≤ ls.length) (hlt : ¬ k < ls.length) (h : (ls.take k).all f = true) : ls.all f = true := by
  rw [List.take_of_length_le (by omega)] at h; exact h

set_option maxHeartbeats 1000000 in
theorem idxShard6_any (v : Value) (ls : List (List Int)) (w : World) (hv : IRows w v ls) :
    Calls Try.prog 61 #[v, .func (.func 46) #[] #[]] w fun e w' => (∃ i : Int, e = .returned (.int .i64 i) ∧ (decide (0 ≤ i)) = !(ls.all Term.okShard)) ∧ w = w' := by
  obtain ⟨a, cap, rfl, hcap, hmax, hc⟩ := hv.open
  unfold maxLen at hmax
  have HC := Lib.hid hc
  clear hv hc
  go_enter Try.func61, Try.ntmps61
  go_wp2
  go_loop [5, 8] (fun _ i => ∃ k : Nat, k ≤ ls.length ∧ i = .int .i64 k ∧ Hid ((ls.take k).all Term.okShard = true)) (fun _ i => ls.length - (intOf i).toNat)
  case atStart => exact ⟨0, by omega, rfl, by simp [Hid]⟩
  case round =>
    obtain ⟨k, hk, rfl, hr⟩ := hrel
    by_cases hlt : k < ls.length
    · obtain ⟨b, off, x, rfl, hcell, hx⟩ := HC.out k hlt
      have HX := Lib.hid hx
      obtain ⟨ax, cx, rfl, _⟩ := hx.open
      clear hx
      cases hb : Term.okShard ls[k] with
      | true =>
        have HB := Lib.hid hb
        clear hb
        go_wp2_with fail
        refine (notShard6_any _ ls[k] _ HX.out).mono ?_
        rw [HB.out]
        rintro e w' ⟨rfl, rfl⟩
        go_wp2_with fail
        go_round
        case rel => exact ⟨k + 1, by omega, by go_num, allSucc hlt hr.out HB.out⟩
        case measure => simp [intOf]; omega
      | false =>
        have HB := Lib.hid hb
        clear hb
        go_wp2_with fail
        refine (notShard6_any _ ls[k] _ HX.out).mono ?_
        rw [HB.out]
        rintro e w' ⟨rfl, rfl⟩
        go_wp2_with fail
        go_ret
        exact ⟨⟨k, rfl, by rw [allNot hlt HB.out]; simp⟩, rfl⟩
    · have hs := Lib.hid (allEnd hk hlt hr.out)
      clear hr
      go_wp2_with fail
      go_ret
      exact ⟨⟨-1, rfl, by rw [hs.out]; simp⟩, rfl⟩

set_option maxHeartbeats 1000000 in
theorem hasShard6_any (v : Value) (ls : List (List Int)) (w : World) (hv : IRows w v ls) :
    Calls Try.prog 45 #[v, .func (.func 46) #[] #[]] w fun e w' => e = .returned (.bool (!(ls.all Term.okShard))) ∧ w = w' := by
  have HV := Lib.hid hv
  clear hv
  go_enter Try.func45, Try.ntmps45
  go_wp2_with fail
  refine (idxShard6_any v ls _ HV.out).mono ?_
  rintro e w' ⟨⟨i, rfl, hi⟩, rfl⟩
  go_wp2_with fail
  go_ret
  exact ⟨by rw [← hi]; rfl, rfl⟩

theorem rightNo {c : Term.C} (h : c.term < 1 ∨ 64 < c.term ∨ (c.shards.length : Int) < 1 ∨ 8 < (c.shards.length : Int)) : Term.right c = false := by
  rw [← Bool.not_eq_true]
  intro g
  have := Term.right_ok g
  omega
theorem rightYes {c : Term.C} (h1 : ¬ c.term < 1) (h2 : ¬ 64 < c.term) (h3 : ¬ (c.shards.length : Int) < 1) (h4 : ¬ 8 < (c.shards.length : Int)) :
    Term.right c = (c.shards.all Term.okShard && (decide (c.seqs.length = 1 ∨ c.seqs.length = 3 ∨ c.seqs.length = 5 ∨ c.seqs.length = 7) && Term.unlike c.seqs)) := by
  unfold Term.right
  rw [decide_eq_true (by omega), Bool.true_and]
theorem rightEven {c : Term.C} (h : decide (c.seqs.length % 2 = 0) = true) : Term.right c = false := by
  rw [← Bool.not_eq_true]
  intro g
  have := (Term.right_ok g).2.2.2.1
  rw [decide_eq_true_eq] at h
  omega
theorem rightOdd {c : Term.C} (h : decide (c.seqs.length % 2 = 0) = false) : decide (c.seqs.length = 1 ∨ c.seqs.length = 3 ∨ c.seqs.length = 5 ∨ c.seqs.length = 7) = decide (1 ≤ c.seqs.length ∧ c.seqs.length ≤ 7) := by
  rw [decide_eq_false_iff_not] at h
  rw [decide_eq_decide]
  omega

set_option maxHeartbeats 4000000 in
theorem right6_any (v : Value) (c : Term.C) (w : World) (hv : IsConf w v c) :
    Calls Try.prog 22 #[v] w fun x w' => x = .returned (.bool (Term.right c)) ∧ Ext w w' := by
  have hbx := box_conf
  obtain ⟨s, d, rfl, hs, hd⟩ := hv
  obtain ⟨t, S, D⟩ := c
  unfold confV
  simp only at hs hd ⊢
  have HS := Lib.hid hs
  have HD := Lib.hid hd
  obtain ⟨a, cap, rfl, hcap, hmax, _, _⟩ := hs.open
  obtain ⟨a2, cap2, rfl, hcap2, hmax2, _⟩ := hd.open
  unfold maxLen at hmax hmax2
  clear hs hd
  have hE0 : Ext w (w.alloc (.cells #[.int .i64 t, .slice a S.length cap, .slice a2 D.length cap2] 33)) := Ext.alloc _ _
  by_cases g1 : t < 1
  · have HR := Lib.hid (rightNo (c := ⟨t, S, D⟩) (.inl g1))
    go_enter Try.func22, Try.ntmps22
    go_wp2_with fail
    go_ret
    exact ⟨by rw [HR.out]; rfl, hE0⟩
  by_cases g2 : 64 < t
  · have HR := Lib.hid (rightNo (c := ⟨t, S, D⟩) (.inr (.inl g2)))
    go_enter Try.func22, Try.ntmps22
    go_wp2_with fail
    go_ret
    exact ⟨by rw [HR.out]; rfl, hE0⟩
  by_cases g3 : (D.length : Int) < 1
  · have HR := Lib.hid (rightNo (c := ⟨t, S, D⟩) (.inr (.inr (.inl g3))))
    go_enter Try.func22, Try.ntmps22
    go_wp2_with fail
    go_ret
    exact ⟨by rw [HR.out]; rfl, hE0⟩
  by_cases g4 : 8 < (D.length : Int)
  · have HR := Lib.hid (rightNo (c := ⟨t, S, D⟩) (.inr (.inr (.inr g4))))
    go_enter Try.func22, Try.ntmps22
    go_wp2_with fail
    go_ret
    exact ⟨by rw [HR.out]; rfl, hE0⟩
  have HY := Lib.hid (rightYes (c := ⟨t, S, D⟩) g1 g2 g3 g4)
  cases he : decide (S.length % 2 = 0) with
  | true =>
    have HR := Lib.hid (rightEven (c := ⟨t, S, D⟩) he)
    have HE := Lib.hid he
    clear he
    go_enter Try.func22, Try.ntmps22
    go_wp2_with fail
    refine (isEven6_any _ S _ (HS.out.below hE0)).mono ?_
    rw [HE.out]
    rintro e w' ⟨rfl, rfl⟩
    go_wp2_with fail
    go_ret
    exact ⟨by rw [HR.out]; rfl, hE0⟩
  | false =>
    have HO := Lib.hid (rightOdd (c := ⟨t, S, D⟩) he)
    have HE := Lib.hid he
    clear he
    cases hn : (decide (1 ≤ S.length ∧ S.length ≤ 7) && Term.unlike S) with
    | false =>
      have HN := Lib.hid hn
      have HR := Lib.hid (show Term.right ⟨t, S, D⟩ = false by rw [HY.out, HO.out, HN.out, Bool.and_false])
      clear hn
      go_enter Try.func22, Try.ntmps22
      go_wp2_with fail
      refine (isEven6_any _ S _ (HS.out.below hE0)).mono ?_
      rw [HE.out]
      rintro e w' ⟨rfl, rfl⟩
      go_wp2_with fail
      refine (areNodes6_any _ S 7 _ (HS.out.below hE0) (by omega)).mono ?_
      rw [HN.out]
      rintro e w' ⟨rfl, rfl⟩
      go_wp2_with fail
      go_ret
      exact ⟨by rw [HR.out]; rfl, hE0⟩
    | true =>
      have HN := Lib.hid hn
      have HR := Lib.hid (show Term.right ⟨t, S, D⟩ = D.all Term.okShard by rw [HY.out, HO.out, HN.out, Bool.and_true])
      clear hn
      go_enter Try.func22, Try.ntmps22
      go_wp2_with fail
      refine (isEven6_any _ S _ (HS.out.below hE0)).mono ?_
      rw [HE.out]
      rintro e w' ⟨rfl, rfl⟩
      go_wp2_with fail
      refine (areNodes6_any _ S 7 _ (HS.out.below hE0) (by omega)).mono ?_
      rw [HN.out]
      rintro e w' ⟨rfl, rfl⟩
      go_wp2_with fail
      refine (hasShard6_any _ D _ (HD.out.below hE0)).mono ?_
      rintro e w' ⟨rfl, rfl⟩
      go_wp2_with fail
      go_ret
      exact ⟨by rw [HR.out]; cases D.all Term.okShard <;> rfl, hE0⟩
/- Layer 6: which configurations may be: the document's own answer. -/
theorem shardNot {l : List Int} (h : (l.length : Int) < 1 ∨ 3 < (l.length : Int) ∨ Term.unlike l = false) : Term.okShard l = false := by
  rw [← Bool.not_eq_true]
  intro g
  have := Term.shard_ok g
  rcases h with h | h | h
  · omega
  · omega
  · rw [this.2.2] at h; cases h
theorem shardYes {l : List Int} (h1 : ¬ (l.length : Int) < 1) (h2 : ¬ 3 < (l.length : Int)) (h3 : Term.unlike l = true) : Term.okShard l = true := by
  unfold Term.okShard
  rw [h3, Bool.and_true, decide_eq_true_eq]
  omega
/-- How many there may be, as the document asks it. -/
def odd7 (n : Int) : Bool := (n == 1 || n == 3) || (n == 5 || n == 7)
theorem odd7_eq (n : Nat) : decide (n = 1 ∨ n = 3 ∨ n = 5 ∨ n = 7) = odd7 n := by
  unfold odd7
  rw [Bool.eq_iff_iff, decide_eq_true_eq]
  simp only [Bool.or_eq_true, beq_iff_eq]
  omega

set_option maxHeartbeats 8000000 in
theorem refRight6_any (v : Value) (c : Term.C) (w : World) (hv : IsConf w v c) :
    Calls Try.prog 10 #[v] w fun x w' => x = .returned (.bool (Term.right c)) ∧ Ext w w' := by
  have hbx := box_confR
  obtain ⟨s, d, rfl, hs, hd⟩ := hv
  obtain ⟨t, S, D⟩ := c
  unfold confV
  simp only at hs hd ⊢
  have HS := Lib.hid hs
  have HD := Lib.hid hd
  obtain ⟨a, cap, rfl, hcap, hmax, _, _⟩ := hs.open
  obtain ⟨a2, cap2, rfl, hcap2, hmax2, _⟩ := hd.open
  unfold maxLen at hmax hmax2
  clear hs hd
  have hE0 : Ext w (w.alloc (.cells #[.int .i64 t, .slice a S.length cap, .slice a2 D.length cap2] 25)) := Ext.alloc _ _
  have HA0 := Lib.hid (ConfAt.new 25 w t (.slice a S.length cap) (.slice a2 D.length cap2))
  by_cases g1 : t < 1
  · have HR := Lib.hid (rightNo (c := ⟨t, S, D⟩) (.inl g1))
    go_enter Try.func10, Try.ntmps10
    go_wp2_with fail
    go_ret
    exact ⟨by rw [HR.out]; rfl, hE0⟩
  by_cases g2 : 64 < t
  · have HR := Lib.hid (rightNo (c := ⟨t, S, D⟩) (.inr (.inl g2)))
    go_enter Try.func10, Try.ntmps10
    go_wp2_with fail
    go_ret
    exact ⟨by rw [HR.out]; rfl, hE0⟩
  by_cases g3 : (D.length : Int) < 1
  · have HR := Lib.hid (rightNo (c := ⟨t, S, D⟩) (.inr (.inr (.inl g3))))
    go_enter Try.func10, Try.ntmps10
    go_wp2_with fail
    go_ret
    exact ⟨by rw [HR.out]; rfl, hE0⟩
  by_cases g4 : 8 < (D.length : Int)
  · have HR := Lib.hid (rightNo (c := ⟨t, S, D⟩) (.inr (.inr (.inr g4))))
    go_enter Try.func10, Try.ntmps10
    go_wp2_with fail
    go_ret
    exact ⟨by rw [HR.out]; rfl, hE0⟩
  have HY := Lib.hid (rightYes (c := ⟨t, S, D⟩) g1 g2 g3 g4)
  go_enter Try.func10, Try.ntmps10
  go_wp2_with fail
  generalize hw0 : w.alloc (.cells #[.int .i64 t, .slice a S.length cap, .slice a2 D.length cap2] 25) = w0 at *
  generalize hq : w.heap.size = q at *
  have HQ := Lib.hid hq
  have HW0 := Lib.hid hw0
  clear hq hw0
  go_loopw [3] (fun i wr => ∃ k : Nat, k ≤ D.length ∧ i = .int .i64 k ∧ Hid ((D.take k).all Term.okShard = true) ∧ Ext w0 wr) (fun i _ => D.length - (intOf i).toNat)
  case atStart => exact ⟨0, by omega, rfl, by simp [Hid], Ext.refl _⟩
  case round =>
    obtain ⟨k, hk, rfl, hr, hE⟩ := hrel
    obtain ⟨c0, c1, c2⟩ := (HA0.out.ext hE).cells
    by_cases hlt : k < D.length
    · obtain ⟨a', cap', e', _, _, hc⟩ := ((HD.out.below hE0).below hE).open
      obtain ⟨b, off, x, rfl, hcell, hx⟩ := hc k hlt
      injection e' with e1 e2 e3
      subst e1
      clear hc e2 e3
      have HX := Lib.hid hx
      obtain ⟨ax, cx, rfl, hcx, hmx, _⟩ := hx.open
      unfold maxLen at hmx
      clear hx
      by_cases s1 : (D[k].length : Int) < 1
      · have HB := Lib.hid (shardNot (.inl s1))
        have HR := Lib.hid (show Term.right ⟨t, S, D⟩ = false by rw [HY.out, allNot hlt HB.out, Bool.false_and])
        go_wp2_with fail
        go_ret
        exact ⟨by rw [HR.out]; rfl, hE0.trans hE⟩
      by_cases s2 : 3 < (D[k].length : Int)
      · have HB := Lib.hid (shardNot (.inr (.inl s2)))
        have HR := Lib.hid (show Term.right ⟨t, S, D⟩ = false by rw [HY.out, allNot hlt HB.out, Bool.false_and])
        go_wp2_with fail
        go_ret
        exact ⟨by rw [HR.out]; rfl, hE0.trans hE⟩
      cases hu : Term.unlike D[k] with
      | false =>
        have HU := Lib.hid hu
        have HB := Lib.hid (shardNot (.inr (.inr hu)))
        have HR := Lib.hid (show Term.right ⟨t, S, D⟩ = false by rw [HY.out, allNot hlt HB.out, Bool.false_and])
        clear hu
        go_wp2_with fail
        refine (refUnlike6_any _ D[k] _ HX.out).mono ?_
        rw [HU.out]
        rintro e w' ⟨rfl, hE2⟩
        go_wp2_with fail
        go_ret
        exact ⟨by rw [HR.out]; rfl, (hE0.trans hE).trans hE2⟩
      | true =>
        have HU := Lib.hid hu
        have HB := Lib.hid (shardYes s1 s2 hu)
        clear hu
        go_wp2_with fail
        refine (refUnlike6_any _ D[k] _ HX.out).mono ?_
        rw [HU.out]
        rintro e w' ⟨rfl, hE2⟩
        go_wp2_with fail
        go_roundw
        case rel => exact ⟨k + 1, by omega, by go_num, allSucc hlt hr.out HB.out, hE.trans hE2⟩
        case measure => simp [intOf]; omega
    · have hs := Lib.hid (allEnd hk hlt hr.out)
      have HY2 := Lib.hid (show Term.right ⟨t, S, D⟩ = (odd7 S.length && Term.unlike S) by rw [HY.out, hs.out, Bool.true_and, odd7_eq])
      clear hr
      have hE1 := hE0.trans hE
      have HS1 := Lib.hid (HS.out.below hE1)
      go_wp2_with fail
      all_goals first
        | (refine (refUnlike6_any _ S _ HS1.out).mono ?_
           rintro e w' ⟨rfl, hE2⟩
           go_wp2_with fail
           go_ret
           exact ⟨by rw [HY2.out, show odd7 (S.length : Int) = true from by rw [← odd7_eq, decide_eq_true_eq]; omega, Bool.true_and]; rfl, hE1.trans hE2⟩)
        | (go_ret
           exact ⟨by rw [HY2.out, show odd7 (S.length : Int) = false from by rw [← odd7_eq, decide_eq_false_iff_not]; omega, Bool.false_and]; rfl, hE1⟩)
/- Layer 6, the program: configurations as bytes. -/
theorem okOne {n : Int} (h : 0 ≤ n ∧ n ≤ 4611686018427387904) : [n].all okNum = true := by
  simp only [List.all_cons, List.all_nil, Bool.and_true]
  exact okNumOf h
/- Layer 6: configurations as bytes: the document's own answer. -/
/- Layer 6: are two configurations the same: the program's answer, and the document's. -/
theorem rowsNe {a b : List (List Int)} (k : Nat) (h1 : k < a.length) (h2 : k < b.length) (h : (a[k] == b[k]) = false) : (a == b) = false := by
  rw [beq_eq_false_iff_ne] at h ⊢
  rintro rfl
  exact h rfl
theorem rowsSame {a b : List (List Int)} (hl : a.length = b.length) (h : ∀ i, i < a.length → ∀ (h1 : i < a.length) (h2 : i < b.length), (a[i] == b[i]) = true) : (a == b) = true := by
  rw [beq_iff_eq]
  exact List.ext_getElem hl fun i h1 h2 => by have := h i h1 h1 h2; rwa [beq_iff_eq] at this
theorem rowsOther {a b : List (List Int)} (h : a.length ≠ b.length) : (a == b) = false := by
  rw [beq_eq_false_iff_ne]
  rintro rfl
  exact h rfl

theorem cellExt {w w' : World} {b o : Nat} {v : Value} (h : Ext w w') (hc : w.cell? ⟨b, o, none⟩ = some v) : w'.cell? ⟨b, o, none⟩ = some v := (h.cell (p := ⟨b, o, none⟩) (World.block_lt_of_cell? w _ hc)).trans hc

set_option maxHeartbeats 4000000 in
theorem equalRows6_any (v u : Value) (ns ms : List (List Int)) (w : World) (hv : IRows w v ns) (hu : IRows w u ms) :
    Calls Try.prog 42 #[v, u, .func (.func 41) #[] #[]] w fun e w' => e = .returned (.bool (ns == ms)) ∧ Ext w w' := by
  have HV := Lib.hid hv
  have HU := Lib.hid hu
  obtain ⟨a, cap, rfl, hcap, hmax, hc⟩ := hv.open
  obtain ⟨a2, cap2, rfl, hcap2, hmax2, hc2⟩ := hu.open
  unfold maxLen at hmax hmax2
  clear hv hu hc hc2
  by_cases hl : ns.length = ms.length
  · have h1' : ((ns.length : Int) != (ms.length : Int)) = false := by rw [hl]; simp
    have HL := Lib.hid hl
    clear hl
    go_enter Try.func42, Try.ntmps42
    go_wp2_with fail
    go_loopw [7, 8, 9, 17] (fun _ _ _ i wr => ∃ k : Nat, k ≤ ns.length ∧ i = .int .i64 k ∧ Hid (∀ i, i < k → ∀ (h1 : i < ns.length) (h2 : i < ms.length), (ns[i] == ms[i]) = true) ∧ Ext w wr) (fun _ _ _ i _ => ns.length - (intOf i).toNat)
    case atStart => exact ⟨0, by omega, rfl, fun i hi => absurd hi (by omega), Ext.refl _⟩
    case round =>
      obtain ⟨k, hk, rfl, hr, hE⟩ := hrel
      by_cases hlt : k < ns.length
      · have hlt2 : k < ms.length := by have := HL.out; omega
        obtain ⟨a', cap', e', _, _, hc⟩ := (HV.out.below hE).open
        obtain ⟨b, off, x, rfl, hcell, hx⟩ := hc k hlt
        injection e' with e1 e2 e3
        subst e1
        obtain ⟨a3, cap3, e', _, _, hc2⟩ := (HU.out.below hE).open
        obtain ⟨b2, off2, y, rfl, hcell2, hy⟩ := hc2 k hlt2
        injection e' with e4 e5 e6
        subst e4
        clear hc hc2 e2 e3 e5 e6
        have HX := Lib.hid hx
        have HY := Lib.hid hy
        obtain ⟨ax, cx, rfl, _⟩ := hx.open
        obtain ⟨ay, cy, rfl, _⟩ := hy.open
        clear hx hy
        cases h0 : (ns[k] == ms[k]) with
        | true =>
          have H0 := Lib.hid h0
          clear h0
          go_wp2_with fail
          refine (equalS_any _ _ ns[k] ms[k] _ HX.out HY.out).mono ?_
          rw [H0.out]
          rintro e w2 ⟨rfl, hE2⟩
          go_wp2_with fail
          go_roundw
          case rel =>
            refine ⟨k + 1, by omega, by go_num, fun i hi h1 h2 => ?_, hE.trans hE2⟩
            rcases Nat.lt_or_ge i k with h | h
            · exact hr.out i h h1 h2
            · obtain rfl : i = k := by omega
              exact H0.out
          case measure => simp [intOf]; omega
        | false =>
          have H0 := Lib.hid h0
          clear h0
          go_wp2_with fail
          refine (equalS_any _ _ ns[k] ms[k] _ HX.out HY.out).mono ?_
          rw [H0.out]
          rintro e w2 ⟨rfl, hE2⟩
          go_wp2_with fail
          go_ret
          exact ⟨by rw [rowsNe k hlt hlt2 H0.out]; rfl, hE.trans hE2⟩
      · have hs := Lib.hid (rowsSame HL.out (fun i h => hr.out i (by omega)))
        clear hr
        go_wp2_with fail
        go_ret
        exact ⟨by rw [hs.out]; rfl, hE⟩
  · have h1' : ((ns.length : Int) != (ms.length : Int)) = true := by rw [bne_iff_ne]; omega
    have HL := Lib.hid (rowsOther hl)
    clear hl
    go_enter Try.func42, Try.ntmps42
    go_wp2_with fail
    go_ret
    exact ⟨by rw [HL.out]; rfl, Ext.refl _⟩

theorem alikeTerm {a b : Term.C} (h : (a.term == b.term) = false) : Term.alike a b = false := by unfold Term.alike; rw [h]; rfl
theorem alikeSeqs {a b : Term.C} (h : (a.seqs == b.seqs) = false) : Term.alike a b = false := by unfold Term.alike; rw [h]; simp
theorem alikeRest {a b : Term.C} (h1 : (a.term == b.term) = true) (h2 : (a.seqs == b.seqs) = true) : Term.alike a b = (a.shards == b.shards) := by unfold Term.alike; rw [h1, h2]; rfl

set_option maxHeartbeats 4000000 in
theorem same6_any (v u : Value) (a b : Term.C) (w : World) (hv : IsConf w v a) (hu : IsConf w u b) :
    Calls Try.prog 19 #[v, u] w fun e w' => e = .returned (.bool (Term.alike a b)) ∧ Ext w w' := by
  have hbx := box_conf
  have HCV := Lib.hid hv
  have HCU := Lib.hid hu
  obtain ⟨s, d, rfl, hs, hd⟩ := hv
  obtain ⟨s2, d2, rfl, hs2, hd2⟩ := hu
  obtain ⟨t, S, D⟩ := a
  obtain ⟨t2, S2, D2⟩ := b
  unfold confV
  simp only at hs hd hs2 hd2 ⊢
  have HS := Lib.hid hs
  have HD := Lib.hid hd
  have HS2 := Lib.hid hs2
  have HD2 := Lib.hid hd2
  obtain ⟨a1, cap1, rfl, hcap1, hmax1, _, _⟩ := hs.open
  obtain ⟨a2, cap2, rfl, hcap2, hmax2, _⟩ := hd.open
  obtain ⟨a3, cap3, rfl, hcap3, hmax3, _, _⟩ := hs2.open
  obtain ⟨a4, cap4, rfl, hcap4, hmax4, _⟩ := hd2.open
  unfold maxLen at hmax1 hmax2 hmax3 hmax4
  clear hs hd hs2 hd2
  have hE0 : Ext w ((w.alloc (.cells #[.int .i64 t, .slice a1 S.length cap1, .slice a2 D.length cap2] 33)).alloc (.cells #[.int .i64 t2, .slice a3 S2.length cap3, .slice a4 D2.length cap4] 33)) := ext_two _ _ _
  have HH := Lib.hid (heap_two w (.cells #[.int .i64 t, .slice a1 S.length cap1, .slice a2 D.length cap2] 33) (.cells #[.int .i64 t2, .slice a3 S2.length cap3, .slice a4 D2.length cap4] 33))
  cases ht : (t == t2) with
  | false =>
    have HR := Lib.hid (alikeTerm (a := ⟨t, S, D⟩) (b := ⟨t2, S2, D2⟩) ht)
    go_enter Try.func19, Try.ntmps19
    go_wp2_with fail
    go_ret
    exact ⟨by rw [HR.out]; rfl, hE0⟩
  | true =>
    cases hsq : (S == S2) with
    | false =>
      have HR := Lib.hid (alikeSeqs (a := ⟨t, S, D⟩) (b := ⟨t2, S2, D2⟩) hsq)
      have HQ := Lib.hid hsq
      clear hsq
      go_enter Try.func19, Try.ntmps19
      go_wp2_with fail
      refine (equalS_any _ _ S S2 _ (HS.out.below hE0) (HS2.out.below hE0)).mono ?_
      rw [HQ.out]
      rintro e w2 ⟨rfl, hE2⟩
      go_wp2_with fail
      go_ret
      exact ⟨by rw [HR.out]; rfl, hE0.trans hE2⟩
    | true =>
      have HR := Lib.hid (alikeRest (a := ⟨t, S, D⟩) (b := ⟨t2, S2, D2⟩) ht hsq)
      have HQ := Lib.hid hsq
      clear hsq
      go_enter Try.func19, Try.ntmps19
      go_wp2_with fail
      refine (equalS_any _ _ S S2 _ (HS.out.below hE0) (HS2.out.below hE0)).mono ?_
      rw [HQ.out]
      rintro e w2 ⟨rfl, hE2⟩
      have e2 := hE0.trans hE2
      obtain ⟨c0, c1, c2⟩ := ConfAt.cells (heap_ext HH.out.1 hE2)
      obtain ⟨d0, d1, d2⟩ := ConfAt.cells (heap_ext HH.out.2 hE2)
      go_wp2_with fail
      refine (equalRows6_any _ _ D D2 _ (HD.out.below e2) (HD2.out.below e2)).mono ?_
      rintro e w3 ⟨rfl, hE3⟩
      obtain ⟨r, hr⟩ : ∃ r, (D == D2) = r := ⟨_, rfl⟩
      rw [hr] at HR ⊢
      clear hr
      go_wp2_with fail
      go_ret
      exact ⟨by rw [HR.out]; rfl, e2.trans hE3⟩

set_option maxHeartbeats 8000000 in
theorem refSame6_any (v u : Value) (a b : Term.C) (w : World) (hv : IsConf w v a) (hu : IsConf w u b) :
    Calls Try.prog 27 #[v, u] w fun e w' => e = .returned (.bool (Term.alike a b)) ∧ Ext w w' := by
  have hbx := box_confR
  have HCV := Lib.hid hv
  have HCU := Lib.hid hu
  obtain ⟨s, d, rfl, hs, hd⟩ := hv
  obtain ⟨s2, d2, rfl, hs2, hd2⟩ := hu
  obtain ⟨t, S, D⟩ := a
  obtain ⟨t2, S2, D2⟩ := b
  unfold confV
  simp only at hs hd hs2 hd2 ⊢
  have HS := Lib.hid hs
  have HD := Lib.hid hd
  have HS2 := Lib.hid hs2
  have HD2 := Lib.hid hd2
  obtain ⟨a1, cap1, rfl, hcap1, hmax1, _, _⟩ := hs.open
  obtain ⟨a2, cap2, rfl, hcap2, hmax2, _⟩ := hd.open
  obtain ⟨a3, cap3, rfl, hcap3, hmax3, _, _⟩ := hs2.open
  obtain ⟨a4, cap4, rfl, hcap4, hmax4, _⟩ := hd2.open
  unfold maxLen at hmax1 hmax2 hmax3 hmax4
  clear hs hd hs2 hd2
  have hE0 : Ext w ((w.alloc (.cells #[.int .i64 t, .slice a1 S.length cap1, .slice a2 D.length cap2] 25)).alloc (.cells #[.int .i64 t2, .slice a3 S2.length cap3, .slice a4 D2.length cap4] 25)) := ext_two _ _ _
  have HH := Lib.hid (heap_two w (.cells #[.int .i64 t, .slice a1 S.length cap1, .slice a2 D.length cap2] 25) (.cells #[.int .i64 t2, .slice a3 S2.length cap3, .slice a4 D2.length cap4] 25))
  cases ht : (t == t2) with
  | false =>
    have HR := Lib.hid (alikeTerm (a := ⟨t, S, D⟩) (b := ⟨t2, S2, D2⟩) ht)
    have ht' : (t != t2) = true := by unfold bne; rw [ht]; rfl
    go_enter Try.func27, Try.ntmps27
    go_wp2_with fail
    go_ret
    exact ⟨by rw [HR.out]; rfl, hE0⟩
  | true =>
    have ht' : (t != t2) = false := by unfold bne; rw [ht]; rfl
    cases hsq : (S == S2) with
    | false =>
      have HR := Lib.hid (alikeSeqs (a := ⟨t, S, D⟩) (b := ⟨t2, S2, D2⟩) hsq)
      have HQ := Lib.hid hsq
      clear hsq
      go_enter Try.func27, Try.ntmps27
      go_wp2_with fail
      refine (equal3_any _ _ S S2 _ (HS.out.below hE0) (HS2.out.below hE0)).mono ?_
      rw [HQ.out]
      rintro e w2 ⟨rfl, hE2⟩
      go_wp2_with fail
      go_ret
      exact ⟨by rw [HR.out]; rfl, hE0.trans hE2⟩
    | true =>
      have HR := Lib.hid (alikeRest (a := ⟨t, S, D⟩) (b := ⟨t2, S2, D2⟩) ht hsq)
      have HQ := Lib.hid hsq
      clear hsq
      by_cases hl : D.length = D2.length
      · have hl' : ((D.length : Int) != (D2.length : Int)) = false := by rw [hl]; simp
        have HL := Lib.hid hl
        clear hl
        go_enter Try.func27, Try.ntmps27
        go_wp2_with fail
        refine (equal3_any _ _ S S2 _ (HS.out.below hE0) (HS2.out.below hE0)).mono ?_
        rw [HQ.out]
        rintro e w2 ⟨rfl, hE2⟩
        have e2 := hE0.trans hE2
        have A2 := Lib.hid (show ConfAt 25 w2 w.heap.size t (.slice a1 S.length cap1) (.slice a2 D.length cap2) from heap_ext HH.out.1 hE2)
        have B2 := Lib.hid (show ConfAt 25 w2 (w.heap.size + 1) t2 (.slice a3 S2.length cap3) (.slice a4 D2.length cap4) from heap_ext HH.out.2 hE2)
        obtain ⟨c0, c1, c2⟩ := A2.out.cells
        obtain ⟨d0, d1, d2⟩ := B2.out.cells
        go_wp2_with fail
        generalize hqq : w.heap.size = q at *
        have HQQ := Lib.hid hqq
        clear hqq c0 c1 c2 d0 d1 d2
        go_loopw [5] (fun i wr => ∃ k : Nat, k ≤ D.length ∧ i = .int .i64 k ∧ Hid (∀ i, i < k → ∀ (h1 : i < D.length) (h2 : i < D2.length), (D[i] == D2[i]) = true) ∧ Ext w2 wr) (fun i _ => D.length - (intOf i).toNat)
        case atStart => exact ⟨0, by omega, rfl, fun i hi => absurd hi (by omega), Ext.refl _⟩
        case round =>
          obtain ⟨k, hk, rfl, hr, hE⟩ := hrel
          have A3 := Lib.hid (A2.out.ext hE)
          have B3 := Lib.hid (B2.out.ext hE)
          obtain ⟨c0, c1, c2⟩ := A3.out.cells
          obtain ⟨d0, d1, d2⟩ := B3.out.cells
          by_cases hlt : k < D.length
          · have hlt2 : k < D2.length := by have := HL.out; omega
            obtain ⟨a', cap', e', _, _, hc⟩ := ((HD.out.below e2).below hE).open
            obtain ⟨b, off, x, rfl, hcell, hx⟩ := hc k hlt
            injection e' with e4 e5 e6
            subst e4
            obtain ⟨a7, cap7, e', _, _, hc2⟩ := ((HD2.out.below e2).below hE).open
            obtain ⟨b2, off2, y, rfl, hcell2, hy⟩ := hc2 k hlt2
            injection e' with e7 e8 e9
            subst e7
            clear hc hc2 e5 e6 e8 e9
            have HX := Lib.hid hx
            have HY := Lib.hid hy
            obtain ⟨ax, cx, rfl, _⟩ := hx.open
            obtain ⟨ay, cy, rfl, _⟩ := hy.open
            have HC1 := Lib.hid (fun (wy : World) (h : Ext wr wy) => (cellExt h hcell : wy.cell? ⟨b, off + k, none⟩ = some (.slice ax D[k].length cx)))
            have HC2 := Lib.hid (fun (wy : World) (h : Ext wr wy) => (cellExt h hcell2 : wy.cell? ⟨b2, off2 + k, none⟩ = some (.slice ay D2[k].length cy)))
            clear hx hy hcell hcell2
            cases h0 : (D[k] == D2[k]) with
            | true =>
              have H0 := Lib.hid h0
              have HEQ := Lib.hid (fun (wy : World) (h : Ext wr wy) => h0 ▸ equal3_any _ _ D[k] D2[k] wy (HX.out.below h) (HY.out.below h))
              clear h0
              go_wp2_with fail
              refine wp_region_facts (by kernel_rfl) Ext (fun iop v w => match iop with
                  | 0 => v = .pointer (some ⟨q, 2, none⟩)
                  | 1 => v = .slice (some ⟨b, off, none⟩) D.length cap2
                  | 2 => v = .int .i64 (k : Int)
                  | 3 => v = .pointer (some ⟨b, off + k, none⟩)
                  | 4 => v = .slice ax D[k].length cx
                  | 5 => v = .pointer (some ⟨q + 1, 2, none⟩)
                  | 6 => v = .slice (some ⟨b2, off2, none⟩) D2.length cap4
                  | 7 => v = .int .i64 (k : Int)
                  | 8 => v = .pointer (some ⟨b2, off2 + k, none⟩)
                  | 9 => v = .slice ay D2[k].length cy
                  | 10 => v = .bool true
                  | _ => v = .bool false
                  ) (by kernel_rfl) (fun _ _ _ h k => Ext.trans h k) (fun a => Ext.refl a) (Ext.drew _) ?_ ?_ ?_
              · intro iop v wa wb hF hL
                iterate 11 (rcases iop with _ | iop; exact hF)
                exact hF
              · refine Obls.cons ?_ (Obls.cons ?_ (Obls.cons ?_ (Obls.cons ?_ (Obls.cons ?_ (Obls.cons ?_ (Obls.cons ?_ (Obls.cons ?_ (Obls.cons ?_ (Obls.cons ?_ (Obls.cons ?_ (Obls.cons ?_ (Obls.nil))))))))))))
                · intro ev wy hp hl hk hd
                  have e2 : ev _ = .pointer (some ⟨q, 0, none⟩) := hk 2 (by decide)
                  exact Yield.oq (by simp [execOp, go_sem, e2])
                · intro ev wy hp hl hk hd
                  have e35 : ev _ = _ := hk 35 (by decide)
                  exact Yield.load rfl e35 (by simp [go_sem, (A3.out.ext hl).cells.2.2]) ⟨Ext.refl _, rfl⟩
                · intro ev wy hp hl hk hd
                  have e5 : ev _ = .int .i64 (k : Int) := hk 5 (by decide)
                  exact Yield.mv rfl ⟨Ext.refl _, e5⟩
                · intro ev wy hp hl hk hd
                  have e36 : ev _ = _ := hk 36 (by decide)
                  have e37 : ev _ = _ := hk 37 (by decide)
                  exact Yield.op (w' := wy) (by simp [execOp, go_sem, e36, e37]; omega) ⟨Ext.refl _, rfl⟩
                · intro ev wy hp hl hk hd
                  have e38 : ev _ = _ := hk 38 (by decide)
                  exact Yield.load rfl e38 (by simp [go_sem, HC1.out wy hl]) ⟨Ext.refl _, rfl⟩
                · intro ev wy hp hl hk hd
                  have e3 : ev _ = .pointer (some ⟨q + 1, 0, none⟩) := hk 3 (by decide)
                  exact Yield.oq (by simp [execOp, go_sem, e3])
                · intro ev wy hp hl hk hd
                  have e40 : ev _ = _ := hk 40 (by decide)
                  exact Yield.load rfl e40 (by simp [go_sem, (B3.out.ext hl).cells.2.2]) ⟨Ext.refl _, rfl⟩
                · intro ev wy hp hl hk hd
                  have e5 : ev _ = .int .i64 (k : Int) := hk 5 (by decide)
                  exact Yield.mv rfl ⟨Ext.refl _, e5⟩
                · intro ev wy hp hl hk hd
                  have e41 : ev _ = _ := hk 41 (by decide)
                  have e42 : ev _ = _ := hk 42 (by decide)
                  exact Yield.op (w' := wy) (by simp [execOp, go_sem, e41, e42]; omega) ⟨Ext.refl _, rfl⟩
                · intro ev wy hp hl hk hd
                  have e43 : ev _ = _ := hk 43 (by decide)
                  exact Yield.load rfl e43 (by simp [go_sem, HC2.out wy hl]) ⟨Ext.refl _, rfl⟩
                · intro ev wy hp hl hk hd
                  have e39 : ev _ = _ := hk 39 (by decide)
                  have e44 : ev _ = _ := hk 44 (by decide)
                  refine Yield.call rfl hp Try.func51 rfl (by kernel_rfl) ?_
                  simp only [List.map_toArray, List.map_cons, List.map_nil, e39, e44]
                  exact ((HEQ.out wy hl)).mono fun _ _ ⟨he, hb⟩ => ⟨_, he, hb, by first | rfl | simp⟩
                · intro ev wy hp hl hk hd
                  have e45 : ev _ = _ := hk 45 (by decide)
                  exact Yield.oq (by simp [execOp, go_sem, e45])
              · intro vals wz hz hv
                have g35 : vals 0 = _ := hv 0 (by decide)
                have g36 : vals 1 = _ := hv 1 (by decide)
                have g37 : vals 2 = _ := hv 2 (by decide)
                have g38 : vals 3 = _ := hv 3 (by decide)
                have g39 : vals 4 = _ := hv 4 (by decide)
                have g40 : vals 5 = _ := hv 5 (by decide)
                have g41 : vals 6 = _ := hv 6 (by decide)
                have g42 : vals 7 = _ := hv 7 (by decide)
                have g43 : vals 8 = _ := hv 8 (by decide)
                have g44 : vals 9 = _ := hv 9 (by decide)
                have g45 : vals 10 = _ := hv 10 (by decide)
                have g46 : vals 11 = _ := hv 11 (by decide)
                clear hv
                simp only [putAll, Act.put, List.setIfInBounds_toArray, List.set_cons_zero, List.set_cons_succ, g35, g36, g37, g38, g39, g40, g41, g42, g43, g44, g45, g46]
                clear g35 g36 g37 g38 g39 g40 g41 g42 g43 g44 g45 g46
                go_wp2_with fail
                go_roundw
                case rel =>
                  refine ⟨k + 1, by omega, by go_num, fun i hi h1 h2 => ?_, hE.trans hz⟩
                  rcases Nat.lt_or_ge i k with h | h
                  · exact hr.out i h h1 h2
                  · obtain rfl : i = k := by omega
                    exact H0.out
                case measure => simp [intOf]; omega
            | false =>
              have H0 := Lib.hid h0
              have HEQ := Lib.hid (fun (wy : World) (h : Ext wr wy) => h0 ▸ equal3_any _ _ D[k] D2[k] wy (HX.out.below h) (HY.out.below h))
              clear h0
              go_wp2_with fail
              refine wp_region_facts (by kernel_rfl) Ext (fun iop v w => match iop with
                  | 0 => v = .pointer (some ⟨q, 2, none⟩)
                  | 1 => v = .slice (some ⟨b, off, none⟩) D.length cap2
                  | 2 => v = .int .i64 (k : Int)
                  | 3 => v = .pointer (some ⟨b, off + k, none⟩)
                  | 4 => v = .slice ax D[k].length cx
                  | 5 => v = .pointer (some ⟨q + 1, 2, none⟩)
                  | 6 => v = .slice (some ⟨b2, off2, none⟩) D2.length cap4
                  | 7 => v = .int .i64 (k : Int)
                  | 8 => v = .pointer (some ⟨b2, off2 + k, none⟩)
                  | 9 => v = .slice ay D2[k].length cy
                  | 10 => v = .bool false
                  | _ => v = .bool true
                  ) (by kernel_rfl) (fun _ _ _ h k => Ext.trans h k) (fun a => Ext.refl a) (Ext.drew _) ?_ ?_ ?_
              · intro iop v wa wb hF hL
                iterate 11 (rcases iop with _ | iop; exact hF)
                exact hF
              · refine Obls.cons ?_ (Obls.cons ?_ (Obls.cons ?_ (Obls.cons ?_ (Obls.cons ?_ (Obls.cons ?_ (Obls.cons ?_ (Obls.cons ?_ (Obls.cons ?_ (Obls.cons ?_ (Obls.cons ?_ (Obls.cons ?_ (Obls.nil))))))))))))
                · intro ev wy hp hl hk hd
                  have e2 : ev _ = .pointer (some ⟨q, 0, none⟩) := hk 2 (by decide)
                  exact Yield.oq (by simp [execOp, go_sem, e2])
                · intro ev wy hp hl hk hd
                  have e35 : ev _ = _ := hk 35 (by decide)
                  exact Yield.load rfl e35 (by simp [go_sem, (A3.out.ext hl).cells.2.2]) ⟨Ext.refl _, rfl⟩
                · intro ev wy hp hl hk hd
                  have e5 : ev _ = .int .i64 (k : Int) := hk 5 (by decide)
                  exact Yield.mv rfl ⟨Ext.refl _, e5⟩
                · intro ev wy hp hl hk hd
                  have e36 : ev _ = _ := hk 36 (by decide)
                  have e37 : ev _ = _ := hk 37 (by decide)
                  exact Yield.op (w' := wy) (by simp [execOp, go_sem, e36, e37]; omega) ⟨Ext.refl _, rfl⟩
                · intro ev wy hp hl hk hd
                  have e38 : ev _ = _ := hk 38 (by decide)
                  exact Yield.load rfl e38 (by simp [go_sem, HC1.out wy hl]) ⟨Ext.refl _, rfl⟩
                · intro ev wy hp hl hk hd
                  have e3 : ev _ = .pointer (some ⟨q + 1, 0, none⟩) := hk 3 (by decide)
                  exact Yield.oq (by simp [execOp, go_sem, e3])
                · intro ev wy hp hl hk hd
                  have e40 : ev _ = _ := hk 40 (by decide)
                  exact Yield.load rfl e40 (by simp [go_sem, (B3.out.ext hl).cells.2.2]) ⟨Ext.refl _, rfl⟩
                · intro ev wy hp hl hk hd
                  have e5 : ev _ = .int .i64 (k : Int) := hk 5 (by decide)
                  exact Yield.mv rfl ⟨Ext.refl _, e5⟩
                · intro ev wy hp hl hk hd
                  have e41 : ev _ = _ := hk 41 (by decide)
                  have e42 : ev _ = _ := hk 42 (by decide)
                  exact Yield.op (w' := wy) (by simp [execOp, go_sem, e41, e42]; omega) ⟨Ext.refl _, rfl⟩
                · intro ev wy hp hl hk hd
                  have e43 : ev _ = _ := hk 43 (by decide)
                  exact Yield.load rfl e43 (by simp [go_sem, HC2.out wy hl]) ⟨Ext.refl _, rfl⟩
                · intro ev wy hp hl hk hd
                  have e39 : ev _ = _ := hk 39 (by decide)
                  have e44 : ev _ = _ := hk 44 (by decide)
                  refine Yield.call rfl hp Try.func51 rfl (by kernel_rfl) ?_
                  simp only [List.map_toArray, List.map_cons, List.map_nil, e39, e44]
                  exact ((HEQ.out wy hl)).mono fun _ _ ⟨he, hb⟩ => ⟨_, he, hb, by first | rfl | simp⟩
                · intro ev wy hp hl hk hd
                  have e45 : ev _ = _ := hk 45 (by decide)
                  exact Yield.oq (by simp [execOp, go_sem, e45])
              · intro vals wz hz hv
                have g35 : vals 0 = _ := hv 0 (by decide)
                have g36 : vals 1 = _ := hv 1 (by decide)
                have g37 : vals 2 = _ := hv 2 (by decide)
                have g38 : vals 3 = _ := hv 3 (by decide)
                have g39 : vals 4 = _ := hv 4 (by decide)
                have g40 : vals 5 = _ := hv 5 (by decide)
                have g41 : vals 6 = _ := hv 6 (by decide)
                have g42 : vals 7 = _ := hv 7 (by decide)
                have g43 : vals 8 = _ := hv 8 (by decide)
                have g44 : vals 9 = _ := hv 9 (by decide)
                have g45 : vals 10 = _ := hv 10 (by decide)
                have g46 : vals 11 = _ := hv 11 (by decide)
                clear hv
                simp only [putAll, Act.put, List.setIfInBounds_toArray, List.set_cons_zero, List.set_cons_succ, g35, g36, g37, g38, g39, g40, g41, g42, g43, g44, g45, g46]
                clear g35 g36 g37 g38 g39 g40 g41 g42 g43 g44 g45 g46
                go_wp2_with fail
                go_ret
                exact ⟨by rw [HR.out, rowsNe k hlt hlt2 H0.out]; rfl, (e2.trans hE).trans hz⟩
          · have hs := Lib.hid (rowsSame HL.out (fun i h => hr.out i (by omega)))
            clear hr
            go_wp2_with fail
            go_ret
            exact ⟨by rw [HR.out, hs.out]; rfl, e2.trans hE⟩
      · have hl' : ((D.length : Int) != (D2.length : Int)) = true := by rw [bne_iff_ne]; omega
        have HL := Lib.hid (rowsOther hl)
        clear hl
        go_enter Try.func27, Try.ntmps27
        go_wp2_with fail
        refine (equal3_any _ _ S S2 _ (HS.out.below hE0) (HS2.out.below hE0)).mono ?_
        rw [HQ.out]
        rintro e w2 ⟨rfl, hE2⟩
        have e2 := hE0.trans hE2
        obtain ⟨c0, c1, c2⟩ := ConfAt.cells (heap_ext HH.out.1 hE2)
        obtain ⟨d0, d1, d2⟩ := ConfAt.cells (heap_ext HH.out.2 hE2)
        go_wp2_with fail
        go_ret
        exact ⟨by rw [HR.out, HL.out]; rfl, e2⟩
end Go.Proofs.Ytkpcmedmiiohnaa

namespace Go.Proofs.Ytkpcmedmiiohnaa
set_option linter.unusedSimpArgs false
set_option linter.unusedVariables false
set_option maxRecDepth 100000
open Go.ChangeShapes Go.WideShapes Go.ChangeAt Go.RowKit
/- Layer 6: configurations, and rows of numbers, out of what comes in. -/
section
variable {H : Type} {enc : TypeId × Value → H} {w : World} {base : Nat} {spare : Nat → Bool} {held : Bool}

theorem intsFull {fuel : Nat} {cs : List Value} {x : DataW H × List MemPlace} (h : DataW.trod enc Try.prog w base spare held fuel 22 cs = some x) :
    ∃ v l, cs = [v] ∧ Ints w v l ∧ (∀ y ∈ l, Wf64 y) ∧ l.length ≤ Rows.uptoBulk x.1 := by
  obtain ⟨v, xs, rfl, hs, hx⟩ := sl_of_raw Try.underlying22 (by kernel_rfl) h
  have each : ∀ i (hi : i < xs.length), ∃ y : Int, xs[i] = .int .i64 y ∧ Wf64 y := by
    intro i hi
    obtain ⟨f, y, hy⟩ := hx i hi
    obtain ⟨n, e1, _, hw⟩ := DataW.trod_int Try.underlying3 hy
    injection e1 with e1 _
    exact ⟨n, e1, hw⟩
  have key : ∀ l : List Value, (∀ i (hi : i < l.length), ∃ y : Int, l[i] = .int .i64 y ∧ Wf64 y) → ∃ m : List Int, l = i64s m ∧ ∀ y ∈ m, Wf64 y := by
    intro l
    induction l with
    | nil => intro _; exact ⟨[], rfl, by simp⟩
    | cons a l ih =>
      intro hl
      obtain ⟨m, rfl, hm⟩ := ih (fun i hi => by have := hl (i + 1) (by simpa using hi); simpa using this)
      obtain ⟨z, hz, hzw⟩ := hl 0 (by simp)
      refine ⟨z :: m, by simp only [List.getElem_cons_zero] at hz; rw [hz]; rfl, ?_⟩
      intro y hy
      rcases List.mem_cons.1 hy with rfl | hy
      · exact hzw
      · exact hm y hy
  obtain ⟨m, rfl, hm⟩ := key xs each
  obtain ⟨a, cap, rfl, _⟩ := (show Ints w v m from hs).open
  exact ⟨_, m, rfl, hs, hm, bulk_of_raw Try.underlying22 h⟩

theorem irowsFull {fuel : Nat} {cs : List Value} {x : DataW H × List MemPlace} (h : DataW.trod enc Try.prog w base spare held fuel 23 cs = some x) :
    ∃ v ls, cs = [v] ∧ IRows w v ls ∧ (∀ y ∈ ls.flatten, Wf64 y) ∧ ls.flatten.length ≤ Rows.uptoBulk x.1 ∧ ls.length ≤ Rows.uptoBulk x.1 := by
  have hc : Try.prog.cellsOf 22 = 1 := by kernel_rfl
  have hb := h
  rcases DataW.trod_slice Try.underlying23 h with ⟨rfl, _⟩ | ⟨a, len, cap, elems, rest, n, _, rfl, rfl, _, hl, hm, hlen, hel, _, _⟩
  · exact ⟨_, [], rfl, irows0 _, by simp, by simp, by simp⟩
  · rw [hc] at hel
    have each : ∀ i, i < elems.length → ∃ c l, w.cell? (a.add i) = some c ∧ Ints w c l ∧ (∀ y ∈ l, Wf64 y) ∧ ∀ hi : i < elems.length, l.length ≤ Rows.uptoBulk elems[i].1 := by
      intro i hi
      have h1 := hel i (by omega)
      rw [Nat.mul_one, List.getElem?_eq_getElem hi, Option.bind_eq_some_iff] at h1
      obtain ⟨ds, hds, hy⟩ := h1
      have hlen1 := (World.cells?_some hds).2.1
      obtain ⟨v, l, hv, h2, h3, h4⟩ := intsFull hy
      subst hv
      exact ⟨v, l, cell_of_cells?_one hds, h2, h3, fun _ => h4⟩
    obtain ⟨f, hf⟩ : ∃ f : Nat → Value × List Int, ∀ i (hi : i < elems.length), w.cell? (a.add i) = some (f i).1 ∧ Ints w (f i).1 (f i).2 ∧ (∀ y ∈ (f i).2, Wf64 y) ∧ (f i).2.length ≤ Rows.uptoBulk elems[i].1 := by
      have : ∀ i, ∃ p : Value × List Int, ∀ (hi : i < elems.length), w.cell? (a.add i) = some p.1 ∧ Ints w p.1 p.2 ∧ (∀ y ∈ p.2, Wf64 y) ∧ p.2.length ≤ Rows.uptoBulk elems[i].1 := by
        intro i
        by_cases hi : i < elems.length
        · obtain ⟨c, l, h1, h2, h3, h4⟩ := each i hi
          exact ⟨(c, l), fun hi => ⟨h1, h2, h3, h4 hi⟩⟩
        · exact ⟨(undef, []), fun h => absurd h hi⟩
      exact ⟨fun i => (this i).choose, fun i => (this i).choose_spec⟩
    have hls : ((List.range elems.length).map fun i => (f i).2).length = elems.length := by simp
    refine ⟨_, (List.range elems.length).map fun i => (f i).2, rfl, ⟨(List.range elems.length).map fun i => (f i).1, ⟨some a, cap, by simp [hlen], by simp; omega, hm, fun e => by simp at e, fun i hi => ?_⟩, by simp, fun i hi hi' => ?_⟩, ?_, ?_, ?_⟩
    · have hi' : i < elems.length := by simpa using hi
      have h1 := (hf i hi').1
      have h0 := (hf 0 (by omega)).1
      have hs : a.spot = none := by
        have e0 : a.add 0 = a := by simp [Addr.add]
        rw [e0] at h0
        obtain ⟨_, _, he, _⟩ := (hf 0 (by omega)).2.1.open
        rw [he] at h0
        unfold World.cell? at h0
        cases hsp : a.spot with
        | none => rfl
        | some s =>
          exfalso
          rw [hsp] at h0
          split at h0 <;> simp at h0
      obtain ⟨b, off, spot⟩ := a
      simp only at hs
      subst hs
      rw [Addr.add_lit] at h1
      exact ⟨b, off, rfl, by simpa using h1⟩
    · have hi2 : i < elems.length := by simpa using hi
      simpa using (hf i hi2).2.1
    · intro y hy
      obtain ⟨l, hl1, hy1⟩ := List.mem_flatten.1 hy
      obtain ⟨i, hi, rfl⟩ := List.mem_map.1 hl1
      exact (hf i (List.mem_range.1 hi)).2.2.1 y hy1
    · have key : ∀ (es : List (DataW H × List MemPlace)) (g : Nat → List Int), (∀ i (hi : i < es.length), (g i).length ≤ Rows.uptoBulk es[i].1) → (((List.range es.length).map g).flatten).length ≤ Rows.uptoBulkAll (es.map (·.1)) := by
        intro es
        induction es with
        | nil => intro g _; simp
        | cons e es ih =>
          intro g hg
          have h1 := ih (fun i => g (i + 1)) (fun i hi => by have := hg (i + 1) (by simpa using hi); simpa using this)
          have h0 := hg 0 (by simp)
          rw [List.length_cons, List.range_succ_eq_map, List.map_cons, List.map_map, List.flatten_cons, List.length_append]
          simp only [List.map_cons, Rows.uptoBulkAll, List.getElem_cons_zero] at h0 ⊢
          have e1 : ((List.range es.length).map (g ∘ Nat.succ)) = ((List.range es.length).map fun i => g (i + 1)) := rfl
          rw [e1]
          omega
      have := key elems (fun i => (f i).2) (fun i hi => (hf i hi).2.2.2)
      simp only [Rows.uptoBulk]
      omega
    · have := bulk_of_raw Try.underlying23 hb
      rw [hls]
      omega

theorem threeOf {α : Type} {l : List α} (h : l.length = 3) : ∃ a b c, l = [a, b, c] := by
  match l, h with
  | [a, b, c], _ => exact ⟨a, b, c, rfl⟩
theorem confFull {fuel : Nat} {cs : List Value} {x : DataW H × List MemPlace} (h : DataW.trod enc Try.prog w base spare held fuel 25 cs = some x) :
    ∃ (s d : Value) (c : Term.C), cs = [.int .i64 c.term, s, d] ∧ Ints w s c.seqs ∧ IRows w d c.shards ∧ (∀ y ∈ Term.all c, Wf64 y) ∧ (Term.all c).length ≤ Rows.uptoBulk x.1 ∧ c.shards.length ≤ Rows.uptoBulk x.1 := by
  obtain ⟨xs, n, _, rfl, hl, hlen, hf⟩ := DataW.trod_struct Try.underlying25 h
  have hc : Try.prog.cellsOf 25 = 3 := by kernel_rfl
  have hi : Try.prog.cellsOf 3 = 1 := by kernel_rfl
  have hii : Try.prog.cellsOf 22 = 1 := by kernel_rfl
  have hiii : Try.prog.cellsOf 23 = 1 := by kernel_rfl
  rw [hc] at hl
  obtain ⟨c0, c1, c2, rfl⟩ := threeOf hl
  obtain ⟨y0, y1, y2, rfl⟩ := threeOf hlen
  have f0 := hf 0 _ rfl
  have f1 := hf 1 _ rfl
  have f2 := hf 2 _ rfl
  simp only [hi, hii, hiii, List.drop_zero, List.drop_succ_cons, List.take_succ_cons, List.take_zero, List.getElem?_cons_zero, List.getElem?_cons_succ] at f0 f1 f2
  obtain ⟨n0, e0, _, _⟩ := DataW.trod_int Try.underlying3 f0
  obtain ⟨v1, l1, e1, i1, w1, b1⟩ := intsFull f1
  obtain ⟨v2, l2, e2, i2, w2, b2, b3⟩ := irowsFull f2
  injection e0 with e0 _
  injection e1 with e1 _
  injection e2 with e2 _
  subst e0 e1 e2
  refine ⟨_, _, ⟨n0, l1, l2⟩, rfl, i1, i2, ?_, ?_, ?_⟩
  · intro y hy
    rcases List.mem_append.1 hy with hy | hy
    · exact w1 y hy
    · exact w2 y hy
  · show (l1 ++ l2.flatten).length ≤ _
    rw [List.length_append]
    simp only [List.map_cons, List.map_nil, Rows.uptoBulk, Rows.uptoBulkAll]
    omega
  · show l2.length ≤ _
    simp only [List.map_cons, List.map_nil, Rows.uptoBulk, Rows.uptoBulkAll]
    omega
theorem conf_full {r : Reach} {b0 : Nat} {v : Value} {d : DataW H} {p : List MemPlace} (hv : Value.okWide Try.prog w r b0 25 v) (h : DataW.Trod enc Try.prog w base spare held 25 v d p) :
    ∃ c, IsConf w v c ∧ (∀ y ∈ Term.all c, Wf64 y) ∧ (Term.all c).length ≤ Rows.uptoBulk d ∧ c.shards.length ≤ Rows.uptoBulk d := by
  obtain ⟨cs, rfl, hsz⟩ := okWide_struct Try.underlying25 hv
  obtain ⟨fuel, hf⟩ := h
  obtain ⟨s, d, c, hcs, h1, h2, h3, h4, h5⟩ := confFull hf
  obtain ⟨l⟩ := cs
  have e1 : l = [.int .i64 c.term, s, d] := hcs
  subst e1
  exact ⟨c, ⟨s, d, rfl, h1, h2⟩, h3, h4, h5⟩
theorem conf_arg {r : Reach} {b0 : Nat} {v : Value} {d : DataW H} {p : List MemPlace} (hv : Value.okWide Try.prog w r b0 25 v) (h : DataW.Trod enc Try.prog w base spare held 25 v d p) : ∃ c, IsConf w v c := by
  obtain ⟨c, hc, _⟩ := conf_full hv h
  exact ⟨c, hc⟩
end
end Go.Proofs.Ytkpcmedmiiohnaa
