/-
  Merged: Layer 6, the program: has a row a number; Layer 6, the program: configurations by value; Layer 6: which configurations may be: the document's own answer; Layer 6, the program: configurations as bytes; Layer 6: configurations as bytes: the document's own answer; Layer 6: are two configurations the same: the program's answer, and the document's; Layer 6: rows of nodes are read: by the program, and by the document; Layer 6, the program: bytes as configurations; Layer 6: configurations, and rows of numbers, out of what comes in.
-/
import Derived.Test.YtldfpklgbedgjaaGreatRows
import Derived.Test.YtldfpklgbedgjaaGreatChecked
import Derived.SizedLaws
import Derived.Test.YtldfpklgbedgjaaGreatByCrc
import Derived.Test.YtldfpklgbedgjaaGreatByMath
import Derived.Test.YtldfpklgbedgjaaGreatByPack
import Derived.Test.YtldfpklgbedgjaaGreatByPack2
import Derived.Test.YtldfpklgbedgjaaGreatByRest
import Derived.Test.YtldfpklgbedgjaaGreatByVec

namespace Go.Proofs.YtldfpklgbedgjaaGreat
set_option linter.unusedSimpArgs false
set_option linter.unusedVariables false
set_option maxRecDepth 100000
open Go.RowKit
/- Layer 6, the program: has a row a number; may these be a row's nodes. -/
/-- Has a row a number? -/
def hasI (ns : List Int) (x : Int) : Bool := ns.contains x
theorem hasSucc (ns : List Int) (x : Int) (k : Nat) (h : k < ns.length) (h1 : hasI (ns.take k) x = false) (h2 : ns[k] ≠ x) : hasI (ns.take (k + 1)) x = false := by
  rw [take_succ_getD ns k h]
  simp only [hasI, List.contains_eq_mem, decide_eq_false_iff_not, List.mem_append, List.mem_singleton, not_or] at h1 ⊢
  exact ⟨h1, fun e => h2 e.symm⟩
theorem hasHere (ns : List Int) (x : Int) (k : Nat) (h : k < ns.length) (h2 : ns[k] = x) : hasI ns x = true := by
  rw [hasI, List.contains_eq_mem, decide_eq_true_eq, ← h2]
  exact List.getElem_mem h
theorem hasEnd {ns : List Int} {x : Int} {k : Nat} (hk : k ≤ ns.length) (hlt : ¬ k < ns.length) {b : Bool} (h : hasI (ns.take k) x = b) : hasI ns x = b := by
  rw [List.take_of_length_le (by omega)] at h; exact h
theorem Ints.take {w : World} {a : Option Addr} {n cap : Nat} {ns : List Int} (h : Ints w (.slice a n cap) ns) (k : Nat) (hk : k ≤ n) : Ints w (.slice a k cap) (ns.take k) := by
  have := Sl.take h k hk
  have e : (i64s ns).take k = i64s (ns.take k) := by simp [i64s]
  rw [e] at this
  exact this

set_option maxHeartbeats 1000000 in
theorem idx6_any (v : Value) (ns : List Int) (x : Int) (w : World) (hv : Ints w v ns) :
    Calls Tryz.prog 139 #[v, .int .i64 x] w fun e w' => (∃ i : Int, e = .returned (.int .i64 i) ∧ (decide (0 ≤ i)) = hasI ns x) ∧ w = w' := by
  obtain ⟨a, cap, rfl, hcap, hmax, _, hc⟩ := hv.open
  unfold maxLen at hmax
  clear hv
  go_enter Tryz.func139, Tryz.ntmps139
  go_wp2
  go_loop [5, 8] (fun _ i => ∃ k : Nat, k ≤ ns.length ∧ i = .int .i64 k ∧ Hid (hasI (ns.take k) x = false)) (fun _ i => ns.length - (intOf i).toNat)
  case atStart => exact ⟨0, by omega, rfl, by simp [Hid, hasI]⟩
  case round =>
    obtain ⟨k, hk, rfl, hr⟩ := hrel
    by_cases hlt : k < ns.length
    · obtain ⟨b, off, rfl, hcell⟩ := hc k hlt
      clear hc
      by_cases h0 : ns[k] = x
      · have HS := Lib.hid (hasHere ns x k hlt h0)
        have g0 : (x == ns[k]) = true := by rw [h0]; simp
        clear h0
        go_wp2
        go_ret
        exact ⟨⟨k, rfl, by rw [HS.out]; simp⟩, rfl⟩
      · have HS := Lib.hid (hasSucc ns x k hlt hr.out h0)
        have g0 : (x == ns[k]) = false := by rw [beq_eq_false_iff_ne]; exact fun e => h0 e.symm
        clear h0
        go_wp2
        go_round
        case rel => exact ⟨k + 1, by omega, by go_num, HS.out⟩
        case measure => simp [intOf]; omega
    · have hs := Lib.hid (hasEnd hk hlt hr.out)
      clear hr hc
      go_wp2
      go_ret
      exact ⟨⟨-1, rfl, by rw [hs.out]; simp⟩, rfl⟩

set_option maxHeartbeats 1000000 in
theorem has6_any (v : Value) (ns : List Int) (x : Int) (w : World) (hv : Ints w v ns) :
    Calls Tryz.prog 125 #[v, .int .i64 x] w fun e w' => e = .returned (.bool (hasI ns x)) ∧ w = w' := by
  have HV := Lib.hid hv
  clear hv
  go_enter Tryz.func125, Tryz.ntmps125
  go_wp2_with fail
  refine (idx6_any v ns x _ HV.out).mono ?_
  rintro e w' ⟨⟨i, rfl, hi⟩, rfl⟩
  go_wp2_with fail
  go_ret
  exact ⟨by rw [← hi]; rfl, rfl⟩

theorem unlikeSucc {ns : List Int} {k : Nat} (h : k < ns.length) (h1 : Term.unlike (ns.take k) = true) (a : 0 ≤ ns[k]) (b : ns[k] ≤ 15) (c : hasI (ns.take k) ns[k] = false) : Term.unlike (ns.take (k + 1)) = true := by
  unfold hasI at c
  rw [take_succ_getD ns k h, Term.unlike_snoc, h1, c]
  simp [Term.okNode, a, b]
theorem unlikeNot {ns : List Int} {k : Nat} (h : k < ns.length) (c : ns[k] < 0 ∨ 15 < ns[k] ∨ hasI (ns.take k) ns[k] = true) : Term.unlike ns = false := by
  rw [← Bool.not_eq_true]
  intro hu
  have := Term.unlike_take (k + 1) hu
  rw [take_succ_getD ns k h, Term.unlike_snoc] at this
  simp only [Bool.and_eq_true, Term.okNode, decide_eq_true_eq, Bool.not_eq_true'] at this
  rcases c with c | c | c
  · omega
  · omega
  · unfold hasI at c; rw [this.2.2] at c; cases c
theorem unlikeEnd {ns : List Int} {k : Nat} (hk : k ≤ ns.length) (hlt : ¬ k < ns.length) (h : Term.unlike (ns.take k) = true) : Term.unlike ns = true := by
  rw [List.take_of_length_le (by omega)] at h; exact h
theorem to6 (w : World) (a : Option Addr) (n cap k : Nat) (hk : k ≤ cap) : (Instr.sliceAt 24 (.slice a n cap) none (some (.int .i64 (k : Int))) none).run Tryz.prog w = .ok (.slice a k cap) w :=
  run_sl_to Tryz.underlying24 (by kernel_rfl) k hk .i64

set_option maxHeartbeats 4000000 in
theorem areNodes6_any (v : Value) (ns : List Int) (m : Nat) (w : World) (hv : Ints w v ns) (hm : m ≤ 100) :
    Calls Tryz.prog 84 #[v, .int .i64 m] w fun e w' => e = .returned (.bool (decide (1 ≤ ns.length ∧ ns.length ≤ m) && Term.unlike ns)) ∧ w = w' := by
  have HV := Lib.hid hv
  obtain ⟨a, cap, rfl, hcap, hmax, _, hc⟩ := hv.open
  unfold maxLen at hmax
  have HC := Lib.hid hc
  clear hv hc
  by_cases g1 : (ns.length : Int) < 1
  · have e : decide (1 ≤ ns.length ∧ ns.length ≤ m) = false := by rw [decide_eq_false_iff_not]; omega
    rw [e]
    clear e
    go_enter Tryz.func84, Tryz.ntmps84
    go_wp2
    go_ret
    exact ⟨rfl, rfl⟩
  by_cases g2 : (m : Int) < (ns.length : Int)
  · have e : decide (1 ≤ ns.length ∧ ns.length ≤ m) = false := by rw [decide_eq_false_iff_not]; omega
    rw [e]
    clear e
    go_enter Tryz.func84, Tryz.ntmps84
    go_wp2
    go_ret
    exact ⟨rfl, rfl⟩
  have e : decide (1 ≤ ns.length ∧ ns.length ≤ m) = true := by rw [decide_eq_true_eq]; omega
  rw [e, Bool.true_and]
  clear e
  have hsl := fun (k : Nat) (hk : k ≤ cap) wy => to6 wy a ns.length cap k hk
  have HSL := Lib.hid hsl
  clear hsl
  go_enter Tryz.func84, Tryz.ntmps84
  go_wp2_with fail
  go_loop [5, 6, 18] (fun _ _ i => ∃ k : Nat, k ≤ ns.length ∧ i = .int .i64 k ∧ Hid (Term.unlike (ns.take k) = true)) (fun _ _ i => ns.length - (intOf i).toNat)
  case atStart => exact ⟨0, by omega, rfl, by simp [Hid, Term.unlike]⟩
  case round =>
    obtain ⟨k, hk, rfl, hr⟩ := hrel
    by_cases hlt : k < ns.length
    · obtain ⟨b, off, rfl, hcell⟩ := HC.out k hlt
      have hs1 := HSL.out k (by omega) w
      by_cases h0 : ns[k] < 0
      · have HS := Lib.hid (unlikeNot hlt (.inl h0))
        go_wp2_with fail
        go_ret
        exact ⟨by rw [HS.out]; rfl, rfl⟩
      by_cases h2 : 16 ≤ ns[k]
      · have HS := Lib.hid (unlikeNot hlt (.inr (.inl (by omega))))
        go_wp2_with fail
        go_ret
        exact ⟨by rw [HS.out]; rfl, rfl⟩
      have HT := Lib.hid (HV.out.take k (by omega))
      cases hb : hasI (ns.take k) ns[k] with
      | true =>
        have HS := Lib.hid (unlikeNot hlt (.inr (.inr hb)))
        have HB := Lib.hid hb
        clear hb
        go_wp2_with fail
        refine (has6_any _ _ _ _ HT.out).mono ?_
        rw [HB.out]
        rintro e w' ⟨rfl, rfl⟩
        go_wp2_with fail
        go_ret
        exact ⟨by rw [HS.out]; rfl, rfl⟩
      | false =>
        have HS := Lib.hid (unlikeSucc hlt hr.out (by omega) (by omega) hb)
        have HB := Lib.hid hb
        clear hb
        go_wp2_with fail
        refine (has6_any _ _ _ _ HT.out).mono ?_
        rw [HB.out]
        rintro e w' ⟨rfl, rfl⟩
        go_wp2_with fail
        go_round
        case rel => exact ⟨k + 1, by omega, by go_num, HS.out⟩
        case measure => simp [intOf]; omega
    · have hs := Lib.hid (unlikeEnd hk hlt hr.out)
      clear hr
      go_wp2_with fail
      go_ret
      exact ⟨by rw [hs.out]; rfl, rfl⟩

/- Layer 6, the program: configurations by value; which may be. -/
/-- A configuration, by value: its two slices, and what they hold. -/
def confV (n : Int) (s d : Value) : Value := .agg #[.int .i64 n, s, d]
def IsConf (w : World) (v : Value) (c : Term.C) : Prop := ∃ s d, v = confV c.term s d ∧ Ints w s c.seqs ∧ IRows w d c.shards
theorem IsConf.below {w w' : World} {v : Value} {c : Term.C} (h : IsConf w v c) (hb : Below w.heap.size w w') : IsConf w' v c := by
  obtain ⟨s, d, rfl, h1, h2⟩ := h
  exact ⟨s, d, rfl, h1.below hb, h2.below hb⟩
/-- Block p is a configuration (of the program's type, or of the document's). -/
def ConfAt (T : TypeId) (w : World) (p : Nat) (n : Int) (s d : Value) : Prop := w.heap[p]? = some (.cells #[.int .i64 n, s, d] T (0, 0))
theorem ConfAt.new (T : TypeId) (w : World) (n : Int) (s d : Value) : ConfAt T (w.alloc (.cells #[.int .i64 n, s, d] T)) w.heap.size n s d := heap_alloc_new w _
theorem ConfAt.lt {T : TypeId} {w : World} {p : Nat} {n : Int} {s d : Value} (h : ConfAt T w p n s d) : p < w.heap.size := (Array.getElem?_eq_some_iff.1 h).1
theorem ConfAt.ext {T : TypeId} {w w' : World} {p : Nat} {n : Int} {s d : Value} (h : ConfAt T w p n s d) (hE : Ext w w') : ConfAt T w' p n s d := (hE.block p h.lt).trans h
theorem ConfAt.but {T : TypeId} {w w' : World} {p q : Nat} {n : Int} {s d : Value} (h : ConfAt T w p n s d) (hB : But q w w') (hne : p ≠ q) : ConfAt T w' p n s d := (hB.block p h.lt hne).trans h
theorem ConfAt.cells {T : TypeId} {w : World} {p : Nat} {n : Int} {s d : Value} (h : ConfAt T w p n s d) : w.cell? ⟨p, 0, none⟩ = some (.int .i64 n) ∧ w.cell? ⟨p, 1, none⟩ = some s ∧ w.cell? ⟨p, 2, none⟩ = some d :=
  ⟨cell_of_heap h 0, cell_of_heap h 1, cell_of_heap h 2⟩

theorem box_conf (w : World) (n : Int) (s d : Value) : (Instr.box 43 (.agg #[.int .i64 n, s, d])).run Tryz.prog w = .ok (.pointer (some ⟨w.heap.size, 0, none⟩)) (w.alloc (.cells #[.int .i64 n, s, d] 43)) := by kernel_rfl
theorem box_confR (w : World) (n : Int) (s d : Value) : (Instr.box 33 (.agg #[.int .i64 n, s, d])).run Tryz.prog w = .ok (.pointer (some ⟨w.heap.size, 0, none⟩)) (w.alloc (.cells #[.int .i64 n, s, d] 33)) := by kernel_rfl

set_option maxHeartbeats 1000000 in
theorem isEven6_any (v : Value) (ns : List Int) (w : World) (hv : Ints w v ns) :
    Calls Tryz.prog 83 #[v] w fun e w' => e = .returned (.bool (decide (ns.length % 2 = 0))) ∧ w = w' := by
  obtain ⟨a, cap, rfl, hcap, hmax, _, _⟩ := hv.open
  unfold maxLen at hmax
  clear hv
  by_cases h : ns.length % 2 = 0
  · have g : (Int.tmod (ns.length : Int) 2 == 0) = true := by
      have : Int.tmod (ns.length : Int) 2 = ((ns.length % 2 : Nat) : Int) := rfl
      rw [this, h]; rfl
    have g2 : ((ns.length : Int) % 2 == 0) = true := by rw [beq_iff_eq]; omega
    rw [decide_eq_true h]
    clear h
    generalize hn : (ns.length : Int) = n at *
    go_enter Tryz.func83, Tryz.ntmps83
    go_wp2_with fail
    go_ret
    exact ⟨by first | rfl | (simp only [g2]; rfl), rfl⟩
  · have g : (Int.tmod (ns.length : Int) 2 == 0) = false := by
      have : Int.tmod (ns.length : Int) 2 = ((ns.length % 2 : Nat) : Int) := rfl
      rw [this, show ns.length % 2 = 1 by omega]; rfl
    have g2 : ((ns.length : Int) % 2 == 0) = false := by rw [beq_eq_false_iff_ne]; omega
    rw [decide_eq_false h]
    clear h
    generalize hn : (ns.length : Int) = n at *
    go_enter Tryz.func83, Tryz.ntmps83
    go_wp2_with fail
    go_ret
    exact ⟨by first | rfl | (simp only [g2]; rfl), rfl⟩

set_option maxHeartbeats 1000000 in
theorem notShard6_any (v : Value) (ns : List Int) (w : World) (hv : Ints w v ns) :
    Calls Tryz.prog 86 #[v] w fun e w' => e = .returned (.bool (!Term.okShard ns)) ∧ w = w' := by
  have HV := Lib.hid hv
  clear hv
  cases hb : Term.okShard ns with
  | true =>
    have HB := Lib.hid hb
    clear hb
    go_enter Tryz.func86, Tryz.ntmps86
    go_wp2_with fail
    refine (areNodes6_any v ns 3 _ HV.out (by omega)).mono ?_
    rw [show (decide (1 ≤ ns.length ∧ ns.length ≤ 3) && Term.unlike ns) = true from HB.out]
    rintro e w' ⟨rfl, rfl⟩
    go_wp2_with fail
    go_ret
    exact ⟨rfl, rfl⟩
  | false =>
    have HB := Lib.hid hb
    clear hb
    go_enter Tryz.func86, Tryz.ntmps86
    go_wp2_with fail
    refine (areNodes6_any v ns 3 _ HV.out (by omega)).mono ?_
    rw [show (decide (1 ≤ ns.length ∧ ns.length ≤ 3) && Term.unlike ns) = false from HB.out]
    rintro e w' ⟨rfl, rfl⟩
    go_wp2_with fail
    go_ret
    exact ⟨rfl, rfl⟩

theorem allSucc {ls : List (List Int)} {f : List Int → Bool} {k : Nat} (h : k < ls.length) (h1 : (ls.take k).all f = true) (h2 : f ls[k] = true) : (ls.take (k + 1)).all f = true := by
  rw [take_succ_getD ls k h, List.all_append, h1]; simp [h2]
theorem allNot {ls : List (List Int)} {f : List Int → Bool} {k : Nat} (h : k < ls.length) (h2 : f ls[k] = false) : ls.all f = false := by
  rw [List.all_eq_false]
  exact ⟨ls[k], List.getElem_mem _, by rw [h2]; simp⟩
theorem allEnd {ls : List (List Int)} {f : List Int → Bool} {k : Nat} (hk : k ≤ ls.length) (hlt : ¬ k < ls.length) (h : (ls.take k).all f = true) : ls.all f = true := by
  rw [List.take_of_length_le (by omega)] at h; exact h

set_option maxHeartbeats 1000000 in
theorem idxShard6_any (v : Value) (ls : List (List Int)) (w : World) (hv : IRows w v ls) :
    Calls Tryz.prog 126 #[v, .func (.func 86) #[] #[]] w fun e w' => (∃ i : Int, e = .returned (.int .i64 i) ∧ (decide (0 ≤ i)) = !(ls.all Term.okShard)) ∧ w = w' := by
  obtain ⟨a, cap, rfl, hcap, hmax, hc⟩ := hv.open
  unfold maxLen at hmax
  have HC := Lib.hid hc
  clear hv hc
  go_enter Tryz.func126, Tryz.ntmps126
  go_wp2
  go_loop [5, 8] (fun _ i => ∃ k : Nat, k ≤ ls.length ∧ i = .int .i64 k ∧ Hid ((ls.take k).all Term.okShard = true)) (fun _ i => ls.length - (intOf i).toNat)
  case atStart => exact ⟨0, by omega, rfl, by simp [Hid]⟩
  case round =>
    obtain ⟨k, hk, rfl, hr⟩ := hrel
    by_cases hlt : k < ls.length
    · obtain ⟨b, off, x, rfl, hcell, hx⟩ := HC.out k hlt
      have HX := Lib.hid hx
      obtain ⟨ax, cx, rfl, _⟩ := hx.open
      clear hx
      cases hb : Term.okShard ls[k] with
      | true =>
        have HB := Lib.hid hb
        clear hb
        go_wp2_with fail
        refine (notShard6_any _ ls[k] _ HX.out).mono ?_
        rw [HB.out]
        rintro e w' ⟨rfl, rfl⟩
        go_wp2_with fail
        go_round
        case rel => exact ⟨k + 1, by omega, by go_num, allSucc hlt hr.out HB.out⟩
        case measure => simp [intOf]; omega
      | false =>
        have HB := Lib.hid hb
        clear hb
        go_wp2_with fail
        refine (notShard6_any _ ls[k] _ HX.out).mono ?_
        rw [HB.out]
        rintro e w' ⟨rfl, rfl⟩
        go_wp2_with fail
        go_ret
        exact ⟨⟨k, rfl, by rw [allNot hlt HB.out]; simp⟩, rfl⟩
    · have hs := Lib.hid (allEnd hk hlt hr.out)
      clear hr
      go_wp2_with fail
      go_ret
      exact ⟨⟨-1, rfl, by rw [hs.out]; simp⟩, rfl⟩

set_option maxHeartbeats 1000000 in
theorem hasShard6_any (v : Value) (ls : List (List Int)) (w : World) (hv : IRows w v ls) :
    Calls Tryz.prog 85 #[v, .func (.func 86) #[] #[]] w fun e w' => e = .returned (.bool (!(ls.all Term.okShard))) ∧ w = w' := by
  have HV := Lib.hid hv
  clear hv
  go_enter Tryz.func85, Tryz.ntmps85
  go_wp2_with fail
  refine (idxShard6_any v ls _ HV.out).mono ?_
  rintro e w' ⟨⟨i, rfl, hi⟩, rfl⟩
  go_wp2_with fail
  go_ret
  exact ⟨by rw [← hi]; rfl, rfl⟩

theorem rightNo {c : Term.C} (h : c.term < 1 ∨ 64 < c.term ∨ (c.shards.length : Int) < 1 ∨ 8 < (c.shards.length : Int)) : Term.right c = false := by
  rw [← Bool.not_eq_true]
  intro g
  have := Term.right_ok g
  omega
theorem rightYes {c : Term.C} (h1 : ¬ c.term < 1) (h2 : ¬ 64 < c.term) (h3 : ¬ (c.shards.length : Int) < 1) (h4 : ¬ 8 < (c.shards.length : Int)) :
    Term.right c = (c.shards.all Term.okShard && (decide (c.seqs.length = 1 ∨ c.seqs.length = 3 ∨ c.seqs.length = 5 ∨ c.seqs.length = 7) && Term.unlike c.seqs)) := by
  unfold Term.right
  rw [decide_eq_true (by omega), Bool.true_and]
theorem rightEven {c : Term.C} (h : decide (c.seqs.length % 2 = 0) = true) : Term.right c = false := by
  rw [← Bool.not_eq_true]
  intro g
  have := (Term.right_ok g).2.2.2.1
  rw [decide_eq_true_eq] at h
  omega
theorem rightOdd {c : Term.C} (h : decide (c.seqs.length % 2 = 0) = false) : decide (c.seqs.length = 1 ∨ c.seqs.length = 3 ∨ c.seqs.length = 5 ∨ c.seqs.length = 7) = decide (1 ≤ c.seqs.length ∧ c.seqs.length ≤ 7) := by
  rw [decide_eq_false_iff_not] at h
  rw [decide_eq_decide]
  omega

set_option maxHeartbeats 4000000 in
theorem right6_any (v : Value) (c : Term.C) (w : World) (hv : IsConf w v c) :
    Calls Tryz.prog 36 #[v] w fun x w' => x = .returned (.bool (Term.right c)) ∧ Ext w w' := by
  have hbx := box_conf
  obtain ⟨s, d, rfl, hs, hd⟩ := hv
  obtain ⟨t, S, D⟩ := c
  unfold confV
  simp only at hs hd ⊢
  have HS := Lib.hid hs
  have HD := Lib.hid hd
  obtain ⟨a, cap, rfl, hcap, hmax, _, _⟩ := hs.open
  obtain ⟨a2, cap2, rfl, hcap2, hmax2, _⟩ := hd.open
  unfold maxLen at hmax hmax2
  clear hs hd
  have hE0 : Ext w (w.alloc (.cells #[.int .i64 t, .slice a S.length cap, .slice a2 D.length cap2] 43)) := Ext.alloc _ _
  by_cases g1 : t < 1
  · have HR := Lib.hid (rightNo (c := ⟨t, S, D⟩) (.inl g1))
    go_enter Tryz.func36, Tryz.ntmps36
    go_wp2_with fail
    go_ret
    exact ⟨by rw [HR.out]; rfl, hE0⟩
  by_cases g2 : 64 < t
  · have HR := Lib.hid (rightNo (c := ⟨t, S, D⟩) (.inr (.inl g2)))
    go_enter Tryz.func36, Tryz.ntmps36
    go_wp2_with fail
    go_ret
    exact ⟨by rw [HR.out]; rfl, hE0⟩
  by_cases g3 : (D.length : Int) < 1
  · have HR := Lib.hid (rightNo (c := ⟨t, S, D⟩) (.inr (.inr (.inl g3))))
    go_enter Tryz.func36, Tryz.ntmps36
    go_wp2_with fail
    go_ret
    exact ⟨by rw [HR.out]; rfl, hE0⟩
  by_cases g4 : 8 < (D.length : Int)
  · have HR := Lib.hid (rightNo (c := ⟨t, S, D⟩) (.inr (.inr (.inr g4))))
    go_enter Tryz.func36, Tryz.ntmps36
    go_wp2_with fail
    go_ret
    exact ⟨by rw [HR.out]; rfl, hE0⟩
  have HY := Lib.hid (rightYes (c := ⟨t, S, D⟩) g1 g2 g3 g4)
  cases he : decide (S.length % 2 = 0) with
  | true =>
    have HR := Lib.hid (rightEven (c := ⟨t, S, D⟩) he)
    have HE := Lib.hid he
    clear he
    go_enter Tryz.func36, Tryz.ntmps36
    go_wp2_with fail
    refine (isEven6_any _ S _ (HS.out.below hE0)).mono ?_
    rw [HE.out]
    rintro e w' ⟨rfl, rfl⟩
    go_wp2_with fail
    go_ret
    exact ⟨by rw [HR.out]; rfl, hE0⟩
  | false =>
    have HO := Lib.hid (rightOdd (c := ⟨t, S, D⟩) he)
    have HE := Lib.hid he
    clear he
    cases hn : (decide (1 ≤ S.length ∧ S.length ≤ 7) && Term.unlike S) with
    | false =>
      have HN := Lib.hid hn
      have HR := Lib.hid (show Term.right ⟨t, S, D⟩ = false by rw [HY.out, HO.out, HN.out, Bool.and_false])
      clear hn
      go_enter Tryz.func36, Tryz.ntmps36
      go_wp2_with fail
      refine (isEven6_any _ S _ (HS.out.below hE0)).mono ?_
      rw [HE.out]
      rintro e w' ⟨rfl, rfl⟩
      go_wp2_with fail
      refine (areNodes6_any _ S 7 _ (HS.out.below hE0) (by omega)).mono ?_
      rw [HN.out]
      rintro e w' ⟨rfl, rfl⟩
      go_wp2_with fail
      go_ret
      exact ⟨by rw [HR.out]; rfl, hE0⟩
    | true =>
      have HN := Lib.hid hn
      have HR := Lib.hid (show Term.right ⟨t, S, D⟩ = D.all Term.okShard by rw [HY.out, HO.out, HN.out, Bool.and_true])
      clear hn
      go_enter Tryz.func36, Tryz.ntmps36
      go_wp2_with fail
      refine (isEven6_any _ S _ (HS.out.below hE0)).mono ?_
      rw [HE.out]
      rintro e w' ⟨rfl, rfl⟩
      go_wp2_with fail
      refine (areNodes6_any _ S 7 _ (HS.out.below hE0) (by omega)).mono ?_
      rw [HN.out]
      rintro e w' ⟨rfl, rfl⟩
      go_wp2_with fail
      refine (hasShard6_any _ D _ (HD.out.below hE0)).mono ?_
      rintro e w' ⟨rfl, rfl⟩
      go_wp2_with fail
      go_ret
      exact ⟨by rw [HR.out]; cases D.all Term.okShard <;> rfl, hE0⟩
/- Layer 6: which configurations may be: the document's own answer. -/
/- Layer 6, the program: configurations as bytes. -/
/-- The same, and what is handed back is the call's own. -/
def OwnsEnc6 (w : World) (c : Term.C) (x : Ending) (w' : World) : Prop := ∃ u, x = .returned (.tuple #[u, .int .i64 0]) ∧ w'.ownsRow w.heap.size 5 1 u (Term.enc c).length (u8s (Term.enc c)) ∧ Ext w w'

theorem row6 (ns : List Int) : Term.row ns = nums [(ns.length : Int)] ++ nums ns := by unfold Term.row; simp [nums, Rec.numsOf]
theorem okRow {ns : List Int} (h : ∀ x ∈ ns, 0 ≤ x ∧ x ≤ 15) : ns.all okNum = true := by
  rw [List.all_eq_true]
  intro x hx
  exact okNumOf (by have := h x hx; omega)
theorem okOne {n : Int} (h : 0 ≤ n ∧ n ≤ 4611686018427387904) : [n].all okNum = true := by
  simp only [List.all_cons, List.all_nil, Bool.and_true]
  exact okNumOf h
theorem oneLen {n : Int} (h : 0 ≤ n ∧ n ≤ 4611686018427387904) : (nums [n]).length ≤ 9 := by
  have := nums_le [n] (okOne h)
  simpa using this

set_option maxHeartbeats 4000000 in
theorem addRow6_any (v u : Value) (l : List UInt8) (ns : List Int) (w : World) (hv : Bytes w v l) (hu : Ints w u ns) (hl : l.length ≤ 10000) (hn : ns.length ≤ 100) (hok : ∀ x ∈ ns, 0 ≤ x ∧ x ≤ 15) :
    Calls Tryz.prog 118 #[v, u] w (GivesOwn w.heap.size w (l ++ Term.row ns)) := by
  have HV := Lib.hid hv
  have HU := Lib.hid hu
  obtain ⟨a, cap, rfl, hcap, hmax, _, _⟩ := hu.open
  unfold maxLen at hmax
  have HO1 := Lib.hid (okOne (n := (ns.length : Int)) (by omega))
  have HO2 := Lib.hid (okRow hok)
  have HL1 := Lib.hid (oneLen (n := (ns.length : Int)) (by omega))
  have HR := Lib.hid (row6 ns)
  clear hv hu hok
  go_enter Tryz.func118, Tryz.ntmps118
  go_wp2_with fail
  refine (packNum_any v _ l [(ns.length : Int)] _ (HV.out.below (Ext.alloc _ _)) (Ints.one w _) (by omega) (by simp)).mono ?_
  rw [HO1.out, if_pos rfl]
  rintro e w1 ⟨v1, rfl, ho1, hE1⟩
  have hE1' : Ext w w1 := (Ext.alloc _ _).trans hE1
  go_wp2_with fail
  refine (packNum_any v1 _ _ ns _ ho1.bytes (HU.out.below hE1') (by rw [List.length_append]; have := HL1.out; omega) (by omega)).mono ?_
  rw [HO2.out, if_pos rfl]
  rintro e w2 ⟨v2, rfl, ho2, hE2⟩
  go_wp2_with fail
  go_ret
  refine ⟨v2, rfl, ?_, hE1'.trans hE2⟩
  rw [HR.out, ← List.append_assoc]
  exact rowLower ho2 hE1'.size

theorem rowSmall {l : List Int} (h : Term.unlike l = true) (h7 : l.length ≤ 7) : (∀ x ∈ l, 0 ≤ x ∧ x ≤ 15) ∧ (Term.row l).length ≤ 72 := by
  have h1 := (Term.unlike_ok h).1
  exact ⟨h1, by have := Term.row_le h1 (by omega); omega⟩

set_option maxHeartbeats 4000000 in
/-- A right one is written; what is handed back is the call's own. -/
theorem encode6_own (v : Value) (c : Term.C) (w : World) (hv : IsConf w v c) (hr : Term.right c = true) : Calls Tryz.prog 71 #[v] w (OwnsEnc6 w c) := by
  have hbx := box_conf
  have hr5 := fun w1 hv => right6_any v c w1 hv
  have HV := Lib.hid hv
  obtain ⟨s, d, rfl, hs, hd⟩ := hv
  obtain ⟨t, S, D⟩ := c
  unfold confV at *
  simp only at hs hd hr5 ⊢
  have HS := Lib.hid hs
  have HD := Lib.hid hd
  obtain ⟨a, cap, rfl, hcap, hmax, _, _⟩ := hs.open
  obtain ⟨a2, cap2, rfl, hcap2, hmax2, _⟩ := hd.open
  unfold maxLen at hmax hmax2
  clear hs hd
  have hE0 : Ext w (w.alloc (.cells #[.int .i64 t, .slice a S.length cap, .slice a2 D.length cap2] 43)) := Ext.alloc _ _
  have HA0 := Lib.hid (ConfAt.new 43 w t (.slice a S.length cap) (.slice a2 D.length cap2))
  unfold OwnsEnc6
  have HR := Lib.hid hr
  obtain ⟨q1, q2, q3, q4, q5⟩ := Term.right_ok hr
  simp only at q1 q2 q3 q4 q5
  have HQ3 := Lib.hid q3
  obtain ⟨s1, s2⟩ := rowSmall q5 (by omega)
  have HO1 := Lib.hid (okOne (n := t) (by omega))
  have HO2 := Lib.hid (okOne (n := (D.length : Int)) (by omega))
  have HL1 := Lib.hid (oneLen (n := t) (by omega))
  have HL2 := Lib.hid (oneLen (n := (D.length : Int)) (by omega))
  have HS1 := Lib.hid s1
  have HS2 := Lib.hid s2
  have HT := Lib.hid (show Term.text ⟨t, S, D⟩ = ((nums [t] ++ Term.row S) ++ nums [(D.length : Int)]) ++ Term.rowsOf D by unfold Term.text; simp [nums])
  have HLE := Lib.hid (Term.enc_le hr)
  have hSl : S.length ≤ 7 := by omega
  clear hr q3 q4 q5 s1 s2
  go_enter Tryz.func71, Tryz.ntmps71
  go_wp2_with fail
  refine (hr5 _ (HV.out.below hE0)).mono ?_
  rw [HR.out]
  rintro e w1 ⟨rfl, hE1⟩
  have a1 := Lib.hid (HA0.out.ext hE1)
  obtain ⟨c0, c1, c2⟩ := a1.out.cells
  have e1 := hE0.trans hE1
  go_wp2_with fail
  refine (packNum_any (.slice none 0 0) _ [] [t] _ (bytes_none _) (Ints.one w1 _) (by simp) (by simp)).mono ?_
  rw [HO1.out, if_pos rfl, List.nil_append]
  rintro e w2 ⟨v2, rfl, ho2, hE2⟩
  have hE2' : Ext w1 w2 := (Ext.alloc _ _).trans hE2
  have a2 := Lib.hid (a1.out.ext hE2')
  clear c0 c1 c2
  obtain ⟨c0, c1, c2⟩ := a2.out.cells
  have e2 := e1.trans hE2'
  go_wp2_with fail
  refine (addRow6_any v2 _ _ S _ ho2.bytes (HS.out.below e2) (by have := HL1.out; omega) (by omega) HS1.out).mono ?_
  rintro e w3 ⟨v3, rfl, ho3, hE3⟩
  have e3 := e2.trans hE3
  have a3 := Lib.hid (a2.out.ext hE3)
  clear c0 c1 c2
  obtain ⟨c0, c1, c2⟩ := a3.out.cells
  have hL3 := Lib.hid (show (nums [t] ++ Term.row S).length ≤ 100 by rw [List.length_append]; have := HL1.out; have := HS2.out; omega)
  go_wp2_with fail
  refine (packNum_any v3 _ _ [(D.length : Int)] _ (ho3.bytes.below (Ext.alloc _ _)) (Ints.one w3 _) (by have := hL3.out; omega) (by simp)).mono ?_
  rw [HO2.out, if_pos rfl]
  rintro e w4 ⟨v4, rfl, ho4, hE4⟩
  have hE4' : Ext w3 w4 := (Ext.alloc _ _).trans hE4
  have e4 := e3.trans hE4'
  have a4 := Lib.hid (a3.out.ext hE4')
  clear c0 c1 c2
  obtain ⟨c0, c1, c2⟩ := a4.out.cells
  obtain ⟨B, hB⟩ : ∃ B, (nums [t] ++ Term.row S) ++ nums [(D.length : Int)] = B := ⟨_, rfl⟩
  have hBl : B.length ≤ 109 := by rw [← hB, List.length_append]; have := hL3.out; have := HL2.out; omega
  rw [hB] at ho4 HT
  have hO4 := Lib.hid (show Own w4 w.heap.size v4 (B ++ Term.rowsOf (D.take 0)) by
    rw [List.take_zero, show Term.rowsOf [] = [] from rfl, List.append_nil]; exact rowLower ho4 (Nat.le_trans e3.size (Ext.alloc w3 _).size))
  clear hB ho4 ho3 ho2 hE0 HA0 hE1
  go_wp2_with fail
  go_loopw [4, 7, 34] (fun b _ i wr => ∃ k : Nat, k ≤ D.length ∧ i = .int .i64 k ∧ Hid (Own wr w.heap.size b (B ++ Term.rowsOf (D.take k))) ∧ Ext w4 wr) (fun _ _ i _ => D.length - (intOf i).toNat)
  case atStart => exact ⟨0, by omega, rfl, hO4.out, Ext.refl _⟩
  case round =>
    obtain ⟨k, hk, rfl, ho, hE⟩ := hrel
    clear c0 c1 c2
    have HLk := Lib.hid (show (Term.rowsOf (D.take k)).length ≤ 288 by
      have := Term.rowsOf_le (D.take k) (fun l hl => HQ3.out l (List.mem_of_mem_take hl))
      rw [List.length_take] at this
      omega)
    by_cases hlt : k < D.length
    · obtain ⟨a', cap', e', _, _, hc⟩ := ((HD.out.below e4).below hE).open
      obtain ⟨b, off, x, rfl, hcell, hx⟩ := hc k hlt
      injection e' with e1 e2 e3
      subst e1
      clear hc e2 e3
      have HX := Lib.hid hx
      obtain ⟨ax, cx, rfl, hcx, hmx, _⟩ := hx.open
      unfold maxLen at hmx
      clear hx
      obtain ⟨p1, p2, p3⟩ := Term.shard_ok (HQ3.out _ (List.getElem_mem hlt))
      have HP := Lib.hid (Term.unlike_ok p3).1
      have HTK := Lib.hid (show D.take (k + 1) = D.take k ++ [D[k]] from take_succ_getD D k hlt)
      clear p3
      go_wp2_with fail
      refine (addRow6_any _ _ _ D[k] _ ho.out.bytes HX.out (by rw [List.length_append]; have := HLk.out; omega) (by omega) HP.out).mono ?_
      rintro e w5 ⟨v5, rfl, ho5, hE5⟩
      go_wp2_with fail
      go_roundw
      case rel =>
        refine ⟨k + 1, by omega, by go_num, ?_, hE.trans hE5⟩
        show Own _ _ _ _
        rw [HTK.out, Term.rowsOf_snoc, ← List.append_assoc]
        exact rowLower ho5 (Nat.le_trans e4.size hE.size)
      case measure => simp [intOf]; omega
    · have HK := Lib.hid (show D.take k = D from List.take_of_length_le (by omega))
      rw [HK.out] at ho HLk
      have e5 := e4.trans hE
      go_wp2_with fail
      refine (new_any _).mono ?_
      rintro e w6 ⟨rfl, ht6, hE6⟩
      have e6 := e5.trans hE6
      go_wp2_with fail
      refine (put_own _ 0 0 _ _ _ ht6 (.inl rfl) (ho.out.bytes.below hE6) (by rw [List.length_append]; have := HLk.out; omega)).mono ?_
      rintro e w7 ⟨v7, d7, rfl, ho7, hB7, hd7, ht7⟩
      have e7 : Ext w w7 := Below.trans (B := w.heap.size) e6 (hB7.below e5.size (Nat.le_trans e5.size hE6.size))
      go_wp2_with fail
      go_ret2
      refine ⟨_, rfl, ?_, e7⟩
      unfold Term.enc
      rw [HT.out]
      exact rowLower ho7 e6.size

/- Layer 6: configurations as bytes: the document's own answer. -/
/- Layer 6: are two configurations the same: the program's answer, and the document's. -/
theorem rowsNe {a b : List (List Int)} (k : Nat) (h1 : k < a.length) (h2 : k < b.length) (h : (a[k] == b[k]) = false) : (a == b) = false := by
  rw [beq_eq_false_iff_ne] at h ⊢
  rintro rfl
  exact h rfl
theorem rowsSame {a b : List (List Int)} (hl : a.length = b.length) (h : ∀ i, i < a.length → ∀ (h1 : i < a.length) (h2 : i < b.length), (a[i] == b[i]) = true) : (a == b) = true := by
  rw [beq_iff_eq]
  exact List.ext_getElem hl fun i h1 h2 => by have := h i h1 h1 h2; rwa [beq_iff_eq] at this
theorem rowsOther {a b : List (List Int)} (h : a.length ≠ b.length) : (a == b) = false := by
  rw [beq_eq_false_iff_ne]
  rintro rfl
  exact h rfl

theorem cellExt {w w' : World} {b o : Nat} {v : Value} (h : Ext w w') (hc : w.cell? ⟨b, o, none⟩ = some v) : w'.cell? ⟨b, o, none⟩ = some v := (h.cell (p := ⟨b, o, none⟩) (World.block_lt_of_cell? w _ hc)).trans hc

set_option maxHeartbeats 4000000 in
theorem equalRows6_any (v u : Value) (ns ms : List (List Int)) (w : World) (hv : IRows w v ns) (hu : IRows w u ms) :
    Calls Tryz.prog 87 #[v, u, .func (.func 80) #[] #[]] w fun e w' => e = .returned (.bool (ns == ms)) ∧ Ext w w' := by
  have HV := Lib.hid hv
  have HU := Lib.hid hu
  obtain ⟨a, cap, rfl, hcap, hmax, hc⟩ := hv.open
  obtain ⟨a2, cap2, rfl, hcap2, hmax2, hc2⟩ := hu.open
  unfold maxLen at hmax hmax2
  clear hv hu hc hc2
  by_cases hl : ns.length = ms.length
  · have h1' : ((ns.length : Int) != (ms.length : Int)) = false := by rw [hl]; simp
    have HL := Lib.hid hl
    clear hl
    go_enter Tryz.func87, Tryz.ntmps87
    go_wp2_with fail
    go_loopw [7, 8, 9, 17] (fun _ _ _ i wr => ∃ k : Nat, k ≤ ns.length ∧ i = .int .i64 k ∧ Hid (∀ i, i < k → ∀ (h1 : i < ns.length) (h2 : i < ms.length), (ns[i] == ms[i]) = true) ∧ Ext w wr) (fun _ _ _ i _ => ns.length - (intOf i).toNat)
    case atStart => exact ⟨0, by omega, rfl, fun i hi => absurd hi (by omega), Ext.refl _⟩
    case round =>
      obtain ⟨k, hk, rfl, hr, hE⟩ := hrel
      by_cases hlt : k < ns.length
      · have hlt2 : k < ms.length := by have := HL.out; omega
        obtain ⟨a', cap', e', _, _, hc⟩ := (HV.out.below hE).open
        obtain ⟨b, off, x, rfl, hcell, hx⟩ := hc k hlt
        injection e' with e1 e2 e3
        subst e1
        obtain ⟨a3, cap3, e', _, _, hc2⟩ := (HU.out.below hE).open
        obtain ⟨b2, off2, y, rfl, hcell2, hy⟩ := hc2 k hlt2
        injection e' with e4 e5 e6
        subst e4
        clear hc hc2 e2 e3 e5 e6
        have HX := Lib.hid hx
        have HY := Lib.hid hy
        obtain ⟨ax, cx, rfl, _⟩ := hx.open
        obtain ⟨ay, cy, rfl, _⟩ := hy.open
        clear hx hy
        cases h0 : (ns[k] == ms[k]) with
        | true =>
          have H0 := Lib.hid h0
          clear h0
          go_wp2_with fail
          refine (equalS_any _ _ ns[k] ms[k] _ HX.out HY.out).mono ?_
          rw [H0.out]
          rintro e w2 ⟨rfl, hE2⟩
          go_wp2_with fail
          go_roundw
          case rel =>
            refine ⟨k + 1, by omega, by go_num, fun i hi h1 h2 => ?_, hE.trans hE2⟩
            rcases Nat.lt_or_ge i k with h | h
            · exact hr.out i h h1 h2
            · obtain rfl : i = k := by omega
              exact H0.out
          case measure => simp [intOf]; omega
        | false =>
          have H0 := Lib.hid h0
          clear h0
          go_wp2_with fail
          refine (equalS_any _ _ ns[k] ms[k] _ HX.out HY.out).mono ?_
          rw [H0.out]
          rintro e w2 ⟨rfl, hE2⟩
          go_wp2_with fail
          go_ret
          exact ⟨by rw [rowsNe k hlt hlt2 H0.out]; rfl, hE.trans hE2⟩
      · have hs := Lib.hid (rowsSame HL.out (fun i h => hr.out i (by omega)))
        clear hr
        go_wp2_with fail
        go_ret
        exact ⟨by rw [hs.out]; rfl, hE⟩
  · have h1' : ((ns.length : Int) != (ms.length : Int)) = true := by rw [bne_iff_ne]; omega
    have HL := Lib.hid (rowsOther hl)
    clear hl
    go_enter Tryz.func87, Tryz.ntmps87
    go_wp2_with fail
    go_ret
    exact ⟨by rw [HL.out]; rfl, Ext.refl _⟩

theorem alikeTerm {a b : Term.C} (h : (a.term == b.term) = false) : Term.alike a b = false := by unfold Term.alike; rw [h]; rfl
theorem alikeSeqs {a b : Term.C} (h : (a.seqs == b.seqs) = false) : Term.alike a b = false := by unfold Term.alike; rw [h]; simp
theorem alikeRest {a b : Term.C} (h1 : (a.term == b.term) = true) (h2 : (a.seqs == b.seqs) = true) : Term.alike a b = (a.shards == b.shards) := by unfold Term.alike; rw [h1, h2]; rfl

set_option maxHeartbeats 4000000 in
theorem same6_any (v u : Value) (a b : Term.C) (w : World) (hv : IsConf w v a) (hu : IsConf w u b) :
    Calls Tryz.prog 37 #[v, u] w fun e w' => e = .returned (.bool (Term.alike a b)) ∧ Ext w w' := by
  have hbx := box_conf
  have HCV := Lib.hid hv
  have HCU := Lib.hid hu
  obtain ⟨s, d, rfl, hs, hd⟩ := hv
  obtain ⟨s2, d2, rfl, hs2, hd2⟩ := hu
  obtain ⟨t, S, D⟩ := a
  obtain ⟨t2, S2, D2⟩ := b
  unfold confV
  simp only at hs hd hs2 hd2 ⊢
  have HS := Lib.hid hs
  have HD := Lib.hid hd
  have HS2 := Lib.hid hs2
  have HD2 := Lib.hid hd2
  obtain ⟨a1, cap1, rfl, hcap1, hmax1, _, _⟩ := hs.open
  obtain ⟨a2, cap2, rfl, hcap2, hmax2, _⟩ := hd.open
  obtain ⟨a3, cap3, rfl, hcap3, hmax3, _, _⟩ := hs2.open
  obtain ⟨a4, cap4, rfl, hcap4, hmax4, _⟩ := hd2.open
  unfold maxLen at hmax1 hmax2 hmax3 hmax4
  clear hs hd hs2 hd2
  have hE0 : Ext w ((w.alloc (.cells #[.int .i64 t, .slice a1 S.length cap1, .slice a2 D.length cap2] 43)).alloc (.cells #[.int .i64 t2, .slice a3 S2.length cap3, .slice a4 D2.length cap4] 43)) := ext_two _ _ _
  have HH := Lib.hid (heap_two w (.cells #[.int .i64 t, .slice a1 S.length cap1, .slice a2 D.length cap2] 43) (.cells #[.int .i64 t2, .slice a3 S2.length cap3, .slice a4 D2.length cap4] 43))
  cases ht : (t == t2) with
  | false =>
    have HR := Lib.hid (alikeTerm (a := ⟨t, S, D⟩) (b := ⟨t2, S2, D2⟩) ht)
    go_enter Tryz.func37, Tryz.ntmps37
    go_wp2_with fail
    go_ret
    exact ⟨by rw [HR.out]; rfl, hE0⟩
  | true =>
    cases hsq : (S == S2) with
    | false =>
      have HR := Lib.hid (alikeSeqs (a := ⟨t, S, D⟩) (b := ⟨t2, S2, D2⟩) hsq)
      have HQ := Lib.hid hsq
      clear hsq
      go_enter Tryz.func37, Tryz.ntmps37
      go_wp2_with fail
      refine (equalS_any _ _ S S2 _ (HS.out.below hE0) (HS2.out.below hE0)).mono ?_
      rw [HQ.out]
      rintro e w2 ⟨rfl, hE2⟩
      go_wp2_with fail
      go_ret
      exact ⟨by rw [HR.out]; rfl, hE0.trans hE2⟩
    | true =>
      have HR := Lib.hid (alikeRest (a := ⟨t, S, D⟩) (b := ⟨t2, S2, D2⟩) ht hsq)
      have HQ := Lib.hid hsq
      clear hsq
      go_enter Tryz.func37, Tryz.ntmps37
      go_wp2_with fail
      refine (equalS_any _ _ S S2 _ (HS.out.below hE0) (HS2.out.below hE0)).mono ?_
      rw [HQ.out]
      rintro e w2 ⟨rfl, hE2⟩
      have e2 := hE0.trans hE2
      obtain ⟨c0, c1, c2⟩ := ConfAt.cells (heap_ext HH.out.1 hE2)
      obtain ⟨d0, d1, d2⟩ := ConfAt.cells (heap_ext HH.out.2 hE2)
      go_wp2_with fail
      refine (equalRows6_any _ _ D D2 _ (HD.out.below e2) (HD2.out.below e2)).mono ?_
      rintro e w3 ⟨rfl, hE3⟩
      obtain ⟨r, hr⟩ : ∃ r, (D == D2) = r := ⟨_, rfl⟩
      rw [hr] at HR ⊢
      clear hr
      go_wp2_with fail
      go_ret
      exact ⟨by rw [HR.out]; rfl, e2.trans hE3⟩

set_option maxHeartbeats 8000000 in
theorem refSame6_any (v u : Value) (a b : Term.C) (w : World) (hv : IsConf w v a) (hu : IsConf w u b) :
    Calls Tryz.prog 55 #[v, u] w fun e w' => e = .returned (.bool (Term.alike a b)) ∧ Ext w w' := by
  have hbx := box_confR
  have HCV := Lib.hid hv
  have HCU := Lib.hid hu
  obtain ⟨s, d, rfl, hs, hd⟩ := hv
  obtain ⟨s2, d2, rfl, hs2, hd2⟩ := hu
  obtain ⟨t, S, D⟩ := a
  obtain ⟨t2, S2, D2⟩ := b
  unfold confV
  simp only at hs hd hs2 hd2 ⊢
  have HS := Lib.hid hs
  have HD := Lib.hid hd
  have HS2 := Lib.hid hs2
  have HD2 := Lib.hid hd2
  obtain ⟨a1, cap1, rfl, hcap1, hmax1, _, _⟩ := hs.open
  obtain ⟨a2, cap2, rfl, hcap2, hmax2, _⟩ := hd.open
  obtain ⟨a3, cap3, rfl, hcap3, hmax3, _, _⟩ := hs2.open
  obtain ⟨a4, cap4, rfl, hcap4, hmax4, _⟩ := hd2.open
  unfold maxLen at hmax1 hmax2 hmax3 hmax4
  clear hs hd hs2 hd2
  have hE0 : Ext w ((w.alloc (.cells #[.int .i64 t, .slice a1 S.length cap1, .slice a2 D.length cap2] 33)).alloc (.cells #[.int .i64 t2, .slice a3 S2.length cap3, .slice a4 D2.length cap4] 33)) := ext_two _ _ _
  have HH := Lib.hid (heap_two w (.cells #[.int .i64 t, .slice a1 S.length cap1, .slice a2 D.length cap2] 33) (.cells #[.int .i64 t2, .slice a3 S2.length cap3, .slice a4 D2.length cap4] 33))
  cases ht : (t == t2) with
  | false =>
    have HR := Lib.hid (alikeTerm (a := ⟨t, S, D⟩) (b := ⟨t2, S2, D2⟩) ht)
    have ht' : (t != t2) = true := by unfold bne; rw [ht]; rfl
    go_enter Tryz.func55, Tryz.ntmps55
    go_wp2_with fail
    go_ret
    exact ⟨by rw [HR.out]; rfl, hE0⟩
  | true =>
    have ht' : (t != t2) = false := by unfold bne; rw [ht]; rfl
    cases hsq : (S == S2) with
    | false =>
      have HR := Lib.hid (alikeSeqs (a := ⟨t, S, D⟩) (b := ⟨t2, S2, D2⟩) hsq)
      have HQ := Lib.hid hsq
      clear hsq
      go_enter Tryz.func55, Tryz.ntmps55
      go_wp2_with fail
      refine (equal3_any _ _ S S2 _ (HS.out.below hE0) (HS2.out.below hE0)).mono ?_
      rw [HQ.out]
      rintro e w2 ⟨rfl, hE2⟩
      go_wp2_with fail
      go_ret
      exact ⟨by rw [HR.out]; rfl, hE0.trans hE2⟩
    | true =>
      have HR := Lib.hid (alikeRest (a := ⟨t, S, D⟩) (b := ⟨t2, S2, D2⟩) ht hsq)
      have HQ := Lib.hid hsq
      clear hsq
      by_cases hl : D.length = D2.length
      · have hl' : ((D.length : Int) != (D2.length : Int)) = false := by rw [hl]; simp
        have HL := Lib.hid hl
        clear hl
        go_enter Tryz.func55, Tryz.ntmps55
        go_wp2_with fail
        refine (equal3_any _ _ S S2 _ (HS.out.below hE0) (HS2.out.below hE0)).mono ?_
        rw [HQ.out]
        rintro e w2 ⟨rfl, hE2⟩
        have e2 := hE0.trans hE2
        have A2 := Lib.hid (show ConfAt 33 w2 w.heap.size t (.slice a1 S.length cap1) (.slice a2 D.length cap2) from heap_ext HH.out.1 hE2)
        have B2 := Lib.hid (show ConfAt 33 w2 (w.heap.size + 1) t2 (.slice a3 S2.length cap3) (.slice a4 D2.length cap4) from heap_ext HH.out.2 hE2)
        obtain ⟨c0, c1, c2⟩ := A2.out.cells
        obtain ⟨d0, d1, d2⟩ := B2.out.cells
        go_wp2_with fail
        generalize hqq : w.heap.size = q at *
        have HQQ := Lib.hid hqq
        clear hqq c0 c1 c2 d0 d1 d2
        go_loopw [5] (fun i wr => ∃ k : Nat, k ≤ D.length ∧ i = .int .i64 k ∧ Hid (∀ i, i < k → ∀ (h1 : i < D.length) (h2 : i < D2.length), (D[i] == D2[i]) = true) ∧ Ext w2 wr) (fun i _ => D.length - (intOf i).toNat)
        case atStart => exact ⟨0, by omega, rfl, fun i hi => absurd hi (by omega), Ext.refl _⟩
        case round =>
          obtain ⟨k, hk, rfl, hr, hE⟩ := hrel
          have A3 := Lib.hid (A2.out.ext hE)
          have B3 := Lib.hid (B2.out.ext hE)
          obtain ⟨c0, c1, c2⟩ := A3.out.cells
          obtain ⟨d0, d1, d2⟩ := B3.out.cells
          by_cases hlt : k < D.length
          · have hlt2 : k < D2.length := by have := HL.out; omega
            obtain ⟨a', cap', e', _, _, hc⟩ := ((HD.out.below e2).below hE).open
            obtain ⟨b, off, x, rfl, hcell, hx⟩ := hc k hlt
            injection e' with e4 e5 e6
            subst e4
            obtain ⟨a7, cap7, e', _, _, hc2⟩ := ((HD2.out.below e2).below hE).open
            obtain ⟨b2, off2, y, rfl, hcell2, hy⟩ := hc2 k hlt2
            injection e' with e7 e8 e9
            subst e7
            clear hc hc2 e5 e6 e8 e9
            have HX := Lib.hid hx
            have HY := Lib.hid hy
            obtain ⟨ax, cx, rfl, _⟩ := hx.open
            obtain ⟨ay, cy, rfl, _⟩ := hy.open
            have HC1 := Lib.hid (fun (wy : World) (h : Ext wr wy) => (cellExt h hcell : wy.cell? ⟨b, off + k, none⟩ = some (.slice ax D[k].length cx)))
            have HC2 := Lib.hid (fun (wy : World) (h : Ext wr wy) => (cellExt h hcell2 : wy.cell? ⟨b2, off2 + k, none⟩ = some (.slice ay D2[k].length cy)))
            clear hx hy hcell hcell2
            cases h0 : (D[k] == D2[k]) with
            | true =>
              have H0 := Lib.hid h0
              have HEQ := Lib.hid (fun (wy : World) (h : Ext wr wy) => h0 ▸ equal3_any _ _ D[k] D2[k] wy (HX.out.below h) (HY.out.below h))
              clear h0
              go_wp2_with fail
              refine wp_region_facts (by kernel_rfl) Ext (fun iop v w => match iop with
                  | 0 => v = .pointer (some ⟨q, 2, none⟩)
                  | 1 => v = .slice (some ⟨b, off, none⟩) D.length cap2
                  | 2 => v = .int .i64 (k : Int)
                  | 3 => v = .pointer (some ⟨b, off + k, none⟩)
                  | 4 => v = .slice ax D[k].length cx
                  | 5 => v = .pointer (some ⟨q + 1, 2, none⟩)
                  | 6 => v = .slice (some ⟨b2, off2, none⟩) D2.length cap4
                  | 7 => v = .int .i64 (k : Int)
                  | 8 => v = .pointer (some ⟨b2, off2 + k, none⟩)
                  | 9 => v = .slice ay D2[k].length cy
                  | 10 => v = .bool true
                  | _ => v = .bool false
                  ) (by kernel_rfl) (fun _ _ _ h k => Ext.trans h k) (fun a => Ext.refl a) (Ext.drew _) ?_ ?_ ?_
              · intro iop v wa wb hF hL
                iterate 11 (rcases iop with _ | iop; exact hF)
                exact hF
              · refine Obls.cons ?_ (Obls.cons ?_ (Obls.cons ?_ (Obls.cons ?_ (Obls.cons ?_ (Obls.cons ?_ (Obls.cons ?_ (Obls.cons ?_ (Obls.cons ?_ (Obls.cons ?_ (Obls.cons ?_ (Obls.cons ?_ (Obls.nil))))))))))))
                · intro ev wy hp hl hk hd
                  have e2 : ev (.tmp 2) = .pointer (some ⟨q, 0, none⟩) := hk 2 (by decide)
                  clear hk hd
                  exact Yield.op (v := .pointer (some ⟨q, 2, none⟩)) (w' := wy) (by simp [execOp, go_sem, e2]) ⟨Ext.refl _, rfl⟩
                · intro ev wy hp hl hk hd
                  have e35 : ev (.tmp 35) = .pointer (some ⟨q, 2, none⟩) := hk 35 (by decide)
                  clear hk hd
                  exact Yield.load rfl e35 (by simp [go_sem, (A3.out.ext hl).cells.2.2]) ⟨Ext.refl _, rfl⟩
                · intro ev wy hp hl hk hd
                  have e5 : ev (.tmp 5) = .int .i64 (k : Int) := hk 5 (by decide)
                  clear hk hd
                  exact Yield.mv rfl ⟨Ext.refl _, e5⟩
                · intro ev wy hp hl hk hd
                  have e36 : ev (.tmp 36) = .slice (some ⟨b, off, none⟩) D.length cap2 := hk 36 (by decide)
                  have e37 : ev (.tmp 37) = .int .i64 (k : Int) := hk 37 (by decide)
                  clear hk hd
                  exact Yield.op (w' := wy) (by simp [execOp, go_sem, e36, e37]; omega) ⟨Ext.refl _, rfl⟩
                · intro ev wy hp hl hk hd
                  have e38 : ev (.tmp 38) = .pointer (some ⟨b, off + k, none⟩) := hk 38 (by decide)
                  clear hk hd
                  exact Yield.load rfl e38 (by simp [go_sem, HC1.out wy hl]) ⟨Ext.refl _, rfl⟩
                · intro ev wy hp hl hk hd
                  have e3 : ev (.tmp 3) = .pointer (some ⟨q + 1, 0, none⟩) := hk 3 (by decide)
                  clear hk hd
                  exact Yield.op (v := .pointer (some ⟨q + 1, 2, none⟩)) (w' := wy) (by simp [execOp, go_sem, e3]) ⟨Ext.refl _, rfl⟩
                · intro ev wy hp hl hk hd
                  have e40 : ev (.tmp 40) = .pointer (some ⟨q + 1, 2, none⟩) := hk 40 (by decide)
                  clear hk hd
                  exact Yield.load rfl e40 (by simp [go_sem, (B3.out.ext hl).cells.2.2]) ⟨Ext.refl _, rfl⟩
                · intro ev wy hp hl hk hd
                  have e5 : ev (.tmp 5) = .int .i64 (k : Int) := hk 5 (by decide)
                  clear hk hd
                  exact Yield.mv rfl ⟨Ext.refl _, e5⟩
                · intro ev wy hp hl hk hd
                  have e41 : ev (.tmp 41) = .slice (some ⟨b2, off2, none⟩) D2.length cap4 := hk 41 (by decide)
                  have e42 : ev (.tmp 42) = .int .i64 (k : Int) := hk 42 (by decide)
                  clear hk hd
                  exact Yield.op (w' := wy) (by simp [execOp, go_sem, e41, e42]; omega) ⟨Ext.refl _, rfl⟩
                · intro ev wy hp hl hk hd
                  have e43 : ev (.tmp 43) = .pointer (some ⟨b2, off2 + k, none⟩) := hk 43 (by decide)
                  clear hk hd
                  exact Yield.load rfl e43 (by simp [go_sem, HC2.out wy hl]) ⟨Ext.refl _, rfl⟩
                · intro ev wy hp hl hk hd
                  have e39 : ev (.tmp 39) = .slice ax D[k].length cx := hk 39 (by decide)
                  have e44 : ev (.tmp 44) = .slice ay D2[k].length cy := hk 44 (by decide)
                  clear hk hd
                  refine Yield.call rfl hp Tryz.func113 rfl (by kernel_rfl) ?_
                  simp only [List.map_toArray, List.map_cons, List.map_nil, e39, e44]
                  exact ((HEQ.out wy hl)).mono fun _ _ ⟨he, hb⟩ => ⟨_, he, hb, by first | rfl | simp⟩
                · intro ev wy hp hl hk hd
                  have e45 : ev (.tmp 45) = .bool true := hk 45 (by decide)
                  clear hk hd
                  exact Yield.op (v := .bool false) (w' := wy) (by simp [execOp, go_sem, e45]) ⟨Ext.refl _, rfl⟩
              · intro vals wz hz hv
                have g35 : vals 0 = .pointer (some ⟨q, 2, none⟩) := hv 0 (by decide)
                have g36 : vals 1 = .slice (some ⟨b, off, none⟩) D.length cap2 := hv 1 (by decide)
                have g37 : vals 2 = .int .i64 (k : Int) := hv 2 (by decide)
                have g38 : vals 3 = .pointer (some ⟨b, off + k, none⟩) := hv 3 (by decide)
                have g39 : vals 4 = .slice ax D[k].length cx := hv 4 (by decide)
                have g40 : vals 5 = .pointer (some ⟨q + 1, 2, none⟩) := hv 5 (by decide)
                have g41 : vals 6 = .slice (some ⟨b2, off2, none⟩) D2.length cap4 := hv 6 (by decide)
                have g42 : vals 7 = .int .i64 (k : Int) := hv 7 (by decide)
                have g43 : vals 8 = .pointer (some ⟨b2, off2 + k, none⟩) := hv 8 (by decide)
                have g44 : vals 9 = .slice ay D2[k].length cy := hv 9 (by decide)
                have g45 : vals 10 = .bool true := hv 10 (by decide)
                have g46 : vals 11 = .bool false := hv 11 (by decide)
                clear hv
                simp only [putAll, Act.put, List.setIfInBounds_toArray, List.set_cons_zero, List.set_cons_succ, g35, g36, g37, g38, g39, g40, g41, g42, g43, g44, g45, g46]
                clear g35
                clear g36
                clear g37
                clear g38
                clear g39
                clear g40
                clear g41
                clear g42
                clear g43
                clear g44
                clear g45
                clear g46
                go_wp2_with fail
                go_roundw
                case rel =>
                  refine ⟨k + 1, by omega, by go_num, fun i hi h1 h2 => ?_, hE.trans hz⟩
                  rcases Nat.lt_or_ge i k with h | h
                  · exact hr.out i h h1 h2
                  · obtain rfl : i = k := by omega
                    exact H0.out
                case measure => simp [intOf]; omega
            | false =>
              have H0 := Lib.hid h0
              have HEQ := Lib.hid (fun (wy : World) (h : Ext wr wy) => h0 ▸ equal3_any _ _ D[k] D2[k] wy (HX.out.below h) (HY.out.below h))
              clear h0
              go_wp2_with fail
              refine wp_region_facts (by kernel_rfl) Ext (fun iop v w => match iop with
                  | 0 => v = .pointer (some ⟨q, 2, none⟩)
                  | 1 => v = .slice (some ⟨b, off, none⟩) D.length cap2
                  | 2 => v = .int .i64 (k : Int)
                  | 3 => v = .pointer (some ⟨b, off + k, none⟩)
                  | 4 => v = .slice ax D[k].length cx
                  | 5 => v = .pointer (some ⟨q + 1, 2, none⟩)
                  | 6 => v = .slice (some ⟨b2, off2, none⟩) D2.length cap4
                  | 7 => v = .int .i64 (k : Int)
                  | 8 => v = .pointer (some ⟨b2, off2 + k, none⟩)
                  | 9 => v = .slice ay D2[k].length cy
                  | 10 => v = .bool false
                  | _ => v = .bool true
                  ) (by kernel_rfl) (fun _ _ _ h k => Ext.trans h k) (fun a => Ext.refl a) (Ext.drew _) ?_ ?_ ?_
              · intro iop v wa wb hF hL
                iterate 11 (rcases iop with _ | iop; exact hF)
                exact hF
              · refine Obls.cons ?_ (Obls.cons ?_ (Obls.cons ?_ (Obls.cons ?_ (Obls.cons ?_ (Obls.cons ?_ (Obls.cons ?_ (Obls.cons ?_ (Obls.cons ?_ (Obls.cons ?_ (Obls.cons ?_ (Obls.cons ?_ (Obls.nil))))))))))))
                · intro ev wy hp hl hk hd
                  have e2 : ev (.tmp 2) = .pointer (some ⟨q, 0, none⟩) := hk 2 (by decide)
                  clear hk hd
                  exact Yield.op (v := .pointer (some ⟨q, 2, none⟩)) (w' := wy) (by simp [execOp, go_sem, e2]) ⟨Ext.refl _, rfl⟩
                · intro ev wy hp hl hk hd
                  have e35 : ev (.tmp 35) = .pointer (some ⟨q, 2, none⟩) := hk 35 (by decide)
                  clear hk hd
                  exact Yield.load rfl e35 (by simp [go_sem, (A3.out.ext hl).cells.2.2]) ⟨Ext.refl _, rfl⟩
                · intro ev wy hp hl hk hd
                  have e5 : ev (.tmp 5) = .int .i64 (k : Int) := hk 5 (by decide)
                  clear hk hd
                  exact Yield.mv rfl ⟨Ext.refl _, e5⟩
                · intro ev wy hp hl hk hd
                  have e36 : ev (.tmp 36) = .slice (some ⟨b, off, none⟩) D.length cap2 := hk 36 (by decide)
                  have e37 : ev (.tmp 37) = .int .i64 (k : Int) := hk 37 (by decide)
                  clear hk hd
                  exact Yield.op (w' := wy) (by simp [execOp, go_sem, e36, e37]; omega) ⟨Ext.refl _, rfl⟩
                · intro ev wy hp hl hk hd
                  have e38 : ev (.tmp 38) = .pointer (some ⟨b, off + k, none⟩) := hk 38 (by decide)
                  clear hk hd
                  exact Yield.load rfl e38 (by simp [go_sem, HC1.out wy hl]) ⟨Ext.refl _, rfl⟩
                · intro ev wy hp hl hk hd
                  have e3 : ev (.tmp 3) = .pointer (some ⟨q + 1, 0, none⟩) := hk 3 (by decide)
                  clear hk hd
                  exact Yield.op (v := .pointer (some ⟨q + 1, 2, none⟩)) (w' := wy) (by simp [execOp, go_sem, e3]) ⟨Ext.refl _, rfl⟩
                · intro ev wy hp hl hk hd
                  have e40 : ev (.tmp 40) = .pointer (some ⟨q + 1, 2, none⟩) := hk 40 (by decide)
                  clear hk hd
                  exact Yield.load rfl e40 (by simp [go_sem, (B3.out.ext hl).cells.2.2]) ⟨Ext.refl _, rfl⟩
                · intro ev wy hp hl hk hd
                  have e5 : ev (.tmp 5) = .int .i64 (k : Int) := hk 5 (by decide)
                  clear hk hd
                  exact Yield.mv rfl ⟨Ext.refl _, e5⟩
                · intro ev wy hp hl hk hd
                  have e41 : ev (.tmp 41) = .slice (some ⟨b2, off2, none⟩) D2.length cap4 := hk 41 (by decide)
                  have e42 : ev (.tmp 42) = .int .i64 (k : Int) := hk 42 (by decide)
                  clear hk hd
                  exact Yield.op (w' := wy) (by simp [execOp, go_sem, e41, e42]; omega) ⟨Ext.refl _, rfl⟩
                · intro ev wy hp hl hk hd
                  have e43 : ev (.tmp 43) = .pointer (some ⟨b2, off2 + k, none⟩) := hk 43 (by decide)
                  clear hk hd
                  exact Yield.load rfl e43 (by simp [go_sem, HC2.out wy hl]) ⟨Ext.refl _, rfl⟩
                · intro ev wy hp hl hk hd
                  have e39 : ev (.tmp 39) = .slice ax D[k].length cx := hk 39 (by decide)
                  have e44 : ev (.tmp 44) = .slice ay D2[k].length cy := hk 44 (by decide)
                  clear hk hd
                  refine Yield.call rfl hp Tryz.func113 rfl (by kernel_rfl) ?_
                  simp only [List.map_toArray, List.map_cons, List.map_nil, e39, e44]
                  exact ((HEQ.out wy hl)).mono fun _ _ ⟨he, hb⟩ => ⟨_, he, hb, by first | rfl | simp⟩
                · intro ev wy hp hl hk hd
                  have e45 : ev (.tmp 45) = .bool false := hk 45 (by decide)
                  clear hk hd
                  exact Yield.op (v := .bool true) (w' := wy) (by simp [execOp, go_sem, e45]) ⟨Ext.refl _, rfl⟩
              · intro vals wz hz hv
                have g35 : vals 0 = .pointer (some ⟨q, 2, none⟩) := hv 0 (by decide)
                have g36 : vals 1 = .slice (some ⟨b, off, none⟩) D.length cap2 := hv 1 (by decide)
                have g37 : vals 2 = .int .i64 (k : Int) := hv 2 (by decide)
                have g38 : vals 3 = .pointer (some ⟨b, off + k, none⟩) := hv 3 (by decide)
                have g39 : vals 4 = .slice ax D[k].length cx := hv 4 (by decide)
                have g40 : vals 5 = .pointer (some ⟨q + 1, 2, none⟩) := hv 5 (by decide)
                have g41 : vals 6 = .slice (some ⟨b2, off2, none⟩) D2.length cap4 := hv 6 (by decide)
                have g42 : vals 7 = .int .i64 (k : Int) := hv 7 (by decide)
                have g43 : vals 8 = .pointer (some ⟨b2, off2 + k, none⟩) := hv 8 (by decide)
                have g44 : vals 9 = .slice ay D2[k].length cy := hv 9 (by decide)
                have g45 : vals 10 = .bool false := hv 10 (by decide)
                have g46 : vals 11 = .bool true := hv 11 (by decide)
                clear hv
                simp only [putAll, Act.put, List.setIfInBounds_toArray, List.set_cons_zero, List.set_cons_succ, g35, g36, g37, g38, g39, g40, g41, g42, g43, g44, g45, g46]
                clear g35
                clear g36
                clear g37
                clear g38
                clear g39
                clear g40
                clear g41
                clear g42
                clear g43
                clear g44
                clear g45
                clear g46
                go_wp2_with fail
                go_ret
                exact ⟨by rw [HR.out, rowsNe k hlt hlt2 H0.out]; rfl, (e2.trans hE).trans hz⟩
          · have hs := Lib.hid (rowsSame HL.out (fun i h => hr.out i (by omega)))
            clear hr
            go_wp2_with fail
            go_ret
            exact ⟨by rw [HR.out, hs.out]; rfl, e2.trans hE⟩
      · have hl' : ((D.length : Int) != (D2.length : Int)) = true := by rw [bne_iff_ne]; omega
        have HL := Lib.hid (rowsOther hl)
        clear hl
        go_enter Tryz.func55, Tryz.ntmps55
        go_wp2_with fail
        refine (equal3_any _ _ S S2 _ (HS.out.below hE0) (HS2.out.below hE0)).mono ?_
        rw [HQ.out]
        rintro e w2 ⟨rfl, hE2⟩
        have e2 := hE0.trans hE2
        obtain ⟨c0, c1, c2⟩ := ConfAt.cells (heap_ext HH.out.1 hE2)
        obtain ⟨d0, d1, d2⟩ := ConfAt.cells (heap_ext HH.out.2 hE2)
        go_wp2_with fail
        go_ret
        exact ⟨by rw [HR.out, HL.out]; rfl, e2⟩
/- Layer 6: rows of nodes are read: by the program, and by the document. -/
set_option maxHeartbeats 4000000 in
theorem readRow6_any (p m : Nat) (s : Pack.St) (w : World) (h : RD w p s) (hm : m ≤ 100) :
    Calls Tryz.prog 129 #[.pointer (some ⟨p, 0, none⟩), .int .i64 (m : Int)] w fun e w' => ∃ v, e = .returned v ∧ OwnI w' w.heap.size v (Term.gRow m 15 s).2 ∧ But p w w' ∧ RD w' p (Term.gRow m 15 s).1 := by
  obtain ⟨S1, hS1⟩ : ∃ S1, (s.num m).1 = S1 := ⟨_, rfl⟩
  obtain ⟨n, hn⟩ : ∃ n, (s.num m).2 = n := ⟨_, rfl⟩
  have hnm : n ≤ 100 := by have := numMost s m (by omega); rw [hn] at this; omega
  have HG := Lib.hid (show Term.gRow m 15 s = Rec.readsM 15 S1 n by unfold Term.gRow; rw [hS1, hn])
  have HS1 := Lib.hid hS1
  have HN := Lib.hid hn
  have HR := Lib.hid h
  have ti := tI
  clear hS1 hn h
  rw [HG.out]
  go_enter Tryz.func129, Tryz.ntmps129
  go_wp2_with fail
  refine (num_any p s m _ HR.out).mono ?_
  rw [HS1.out, HN.out]
  rintro e w1 ⟨rfl, hB1, hr1⟩
  go_wp2_with fail
  go_loopw [5, 9] (fun tv i wr => ∃ k : Nat, k ≤ n ∧ i = .int .i64 k ∧ wr.ownsRow w.heap.size 3 1 tv k (i64s (Rec.readsM 15 S1 k).2) ∧ RD wr p (Rec.readsM 15 S1 k).1 ∧ But p w wr) (fun _ i _ => n - (intOf i).toNat)
  case atStart => exact ⟨0, by omega, rfl, World.ownsRow_nil _ _ _ _, hr1, hB1⟩
  case round =>
    obtain ⟨k, hk, rfl, ho, hr, hB⟩ := hrel
    by_cases hlt : k < n
    · obtain ⟨N, hN⟩ : ∃ N, (Rec.readsM 15 S1 k).1.num 15 = N := ⟨_, rfl⟩
      have hnx : Rec.readsM 15 S1 (k + 1) = (N.1, (Rec.readsM 15 S1 k).2 ++ [(N.2 : Int)]) := by
        show ((((Rec.readsM 15 S1 k).1.num 15).1, (Rec.readsM 15 S1 k).2 ++ [(((Rec.readsM 15 S1 k).1.num 15).2 : Int)])) = _
        rw [hN]
      obtain ⟨y, hy⟩ : ∃ y : Int, (N.2 : Int) = y := ⟨_, rfl⟩
      rw [hy] at hnx
      have HNX := Lib.hid hnx
      have HY := Lib.hid hy
      have HNN := Lib.hid hN
      obtain ⟨ra, rn, rc, hpp⟩ := hr.heapOf
      have hne := Lib.hid (rowBeside ho hpp (by decide))
      have HO := Lib.hid ho
      have HRR := Lib.hid hr
      have hone := i64s_one [y]
      have hk1 : k + (i64s [y]).length ≤ maxLen := by simp [maxLen]; omega
      have hk2 : (k + (i64s [y]).length) * 8 ≤ 140737488355328 := by simp; omega
      have hplt := HR.out.lt
      clear hN hnx hy hpp ho hr
      go_wp2_with fail
      refine (num_any p _ 15 _ HRR.out).mono ?_
      rw [HNN.out, HY.out]
      rintro e w2 ⟨rfl, hB2, hr2⟩
      have ho2 := (rowBut HO.out hne.out hB2).alloc (.cells #[.int .i64 y] 3)
      have hi2 := Ints.one w2 y
      have hz2 : w.heap.size ≤ (w2.alloc (.cells #[.int .i64 y] 3)).heap.size := Nat.le_trans (Nat.le_trans hB.size hB2.size) (Ext.alloc w2 _).size
      go_wp2_with (at_builtin; refine wpList_app rfl (.tmp 11) (.tmp 14) ti rfl rfl rfl ho2 hi2 hone hk1 hk2 hz2 ?_; intro v3 w3 hown3 hg3)
      have hr3 := (hr2.ext (Ext.alloc w2 (.cells #[.int .i64 y] 3))).grownRow ho2 hg3 hplt
      have hB3 : But p w w3 := ((hB.trans hB2).alloc (.cells #[.int .i64 y] 3)).grown hg3 (fun j hj => (ho2.lt j hj).1)
      have ho4 : w3.ownsRow w.heap.size 3 1 v3 (k + 1) (i64s (Rec.readsM 15 S1 (k + 1)).2) := by
        rw [HNX.out, i64s_append]
        exact hown3
      have hr4 : RD w3 p (Rec.readsM 15 S1 (k + 1)).1 := by rw [HNX.out]; exact hr3
      have HO4 := Lib.hid ho4
      clear hown3 hg3 ho4 ho2 hi2
      go_wp2_with fail
      go_roundw
      case rel => exact ⟨k + 1, by omega, by go_num, HO4.out, hr4, hB3⟩
      case measure => simp [intOf]; omega
    · obtain rfl : k = n := by omega
      have HO := Lib.hid ho
      clear ho
      go_wp2_with fail
      go_ret
      exact ⟨_, rfl, by unfold OwnI; rw [Rec.readsM_len]; exact HO.out, hB, hr⟩

/-! The document's. -/
theorem setTwo6 {w : World} {q : Nat} {x0 x1 : Value} {T : TypeId} (h : w.heap[q]? = some (.cells #[x0, x1] T (0, 0))) (v0 v1 : Value) :
    ((w.setCell ⟨q, 0, none⟩ v0).setCell ⟨q, 1, none⟩ v1).heap[q]? = some (.cells #[v0, v1] T (0, 0)) ∧ But q w ((w.setCell ⟨q, 0, none⟩ v0).setCell ⟨q, 1, none⟩ v1) := by
  refine ⟨?_, ((But.refl _ _).setCell 0 none v0).setCell 1 none v1⟩
  have := heap_setCell (heap_setCell h 0 v0) 1 v1
  simpa using this
/-- Block q is the document's reader in this state. -/
def Ref6 (w : World) (q n : Nat) (s : Pack.St) : Prop := ∃ lk : List UInt8, w.heap[q]? = some (.cells #[.string ⟨lk.toArray⟩, .int .i64 s.err] 88 (0, 0)) ∧ Sim lk s ∧ lk.length ≤ n
theorem Ref6.lt {w : World} {q n : Nat} {s : Pack.St} (h : Ref6 w q n s) : q < w.heap.size := by
  obtain ⟨lk, h, _⟩ := h
  exact (Array.getElem?_eq_some_iff.1 h).1
theorem Ref6.ext {w w' : World} {q n : Nat} {s : Pack.St} (h : Ref6 w q n s) (hE : Ext w w') : Ref6 w' q n s := by
  have hlt := h.lt
  obtain ⟨lk, h1, h2⟩ := h
  exact ⟨lk, (hE.block q hlt).trans h1, h2⟩
theorem Ref6.but {w w' : World} {q p n : Nat} {s : Pack.St} (h : Ref6 w q n s) (hB : But p w w') (hne : q ≠ p) : Ref6 w' q n s := by
  have hlt := h.lt
  obtain ⟨lk, h1, h2⟩ := h
  exact ⟨lk, (hB.block q hlt hne).trans h1, h2⟩
theorem Ref6.set {w : World} {q n : Nat} {s : Pack.St} (h : Ref6 w q n s) {l : List UInt8} {s' : Pack.St} (hs : Sim l s') (hl : l.length ≤ n) :
    Ref6 ((w.setCell ⟨q, 0, none⟩ (.string ⟨l.toArray⟩)).setCell ⟨q, 1, none⟩ (.int .i64 s'.err)) q n s' ∧ But q w ((w.setCell ⟨q, 0, none⟩ (.string ⟨l.toArray⟩)).setCell ⟨q, 1, none⟩ (.int .i64 s'.err)) := by
  obtain ⟨lk, h1, h2⟩ := h
  have := setTwo6 h1 (.string ⟨l.toArray⟩) (.int .i64 s'.err)
  exact ⟨⟨l, this.1, hs, hl⟩, this.2⟩

/- Layer 6, the program: bytes as configurations. -/
def RowConf (w : World) (v : Value) (c : Term.C) : Prop := ∃ s d, v = confV c.term s d ∧ RowI w s c.seqs ∧ RowRR w d c.shards
theorem RowConf.is {w : World} {v : Value} {c : Term.C} (h : RowConf w v c) : IsConf w v c := by
  obtain ⟨s, d, e, h1, h2⟩ := h
  exact ⟨s, d, e, h1.ints, h2.rows⟩
def GivesRow6 (w : World) (l : List UInt8) (x : Ending) (w' : World) : Prop := ∃ v, x = .returned (.tuple #[v, .int .i64 (Term.errOf (Term.dec l))]) ∧ RowConf w' v (Term.confOf (Term.dec l)) ∧ Ext w w'

theorem build_conf0 (w : World) : (Instr.build 43 #[]).run Tryz.prog w = .ok (.agg #[.int .i64 0, .slice none 0 0, .slice none 0 0]) w := by kernel_rfl
theorem build_conf2 (w : World) (n : Int) (a : Option Addr) (m c : Nat) : (Instr.build 43 #[(0, .int .i64 n), (1, .slice a m c)]).run Tryz.prog w = .ok (.agg #[.int .i64 n, .slice a m c, .slice none 0 0]) w := by kernel_rfl
theorem ConfAt.setAll {T : TypeId} {w : World} {p : Nat} {n : Int} {s d : Value} (h : ConfAt T w p n s d) (n' : Int) (s' d' : Value) :
    ConfAt T (((w.setCell ⟨p, 0, none⟩ (.int .i64 n')).setCell ⟨p, 1, none⟩ s').setCell ⟨p, 2, none⟩ d') p n' s' d' ∧ But p w (((w.setCell ⟨p, 0, none⟩ (.int .i64 n')).setCell ⟨p, 1, none⟩ s').setCell ⟨p, 2, none⟩ d') := by
  refine ⟨?_, (((But.refl _ _).setCell 0 none _).setCell 1 none _).setCell 2 none _⟩
  have := heap_setCell (heap_setCell (heap_setCell h 0 (.int .i64 n')) 1 s') 2 d'
  unfold ConfAt
  simpa using this
theorem ConfAt.setD {T : TypeId} {w : World} {p : Nat} {n : Int} {s d : Value} (h : ConfAt T w p n s d) (d' : Value) : ConfAt T (w.setCell ⟨p, 2, none⟩ d') p n s d' := by
  have := heap_setCell h 2 d'
  unfold ConfAt
  simpa using this
theorem ConfAt.later {T : TypeId} {w : World} {p : Nat} {n : Int} {s d : Value} {o : Obj} (h : ConfAt T w p n s d) : p ≤ (w.alloc o).heap.size := by have := h.lt; rw [World.size_alloc]; omega
theorem ConfAt.grown {T : TypeId} {w w' : World} {p : Nat} {n : Int} {s d : Value} {o : Option Nat} (h : ConfAt T w p n s d) (hg : w.grownBy w' o) (hne : some p ≠ o) : ConfAt T w' p n s d := (hg.block p h.lt hne).trans h
theorem confZero (T : TypeId) (w : World) : ConfAt T (w.alloc (.cells #[.int .i64 0, .slice none 0 0, .slice none 0 0] T)) w.heap.size 0 (.slice none 0 0) (.slice none 0 0) := ConfAt.new T w 0 _ _
theorem cutOf_le6 {l t : List UInt8} (h : Crc.cutOf l = some t) : t.length ≤ l.length := by
  unfold Crc.cutOf at h
  split at h
  · cases h
  · split at h
    · injection h with h
      rw [← h, List.length_take]
      omega
    · cases h
theorem Term.gok_eq {m1 m2 nd : Int} {l : List UInt8} {S : Pack.St} {c : Term.C} (h1 : (Term.gD m1 m2 nd l).1 = S) (h2 : Term.gread m1 m2 nd l = c) : Term.gok m1 m2 nd l = ((S.done == 0) && Term.right c) := by unfold Term.gok; rw [h1, h2]

set_option maxHeartbeats 16000000 in
theorem decode6_row (v : Value) (l : List UInt8) (w : World) (hv : Bytes w v l) (hl : l.length ≤ 200000) :
    Calls Tryz.prog 106 #[v] w (GivesRow6 w l) := by
  have hb0 := build_conf0
  have hb1 := build_conf2
  have HV := Lib.hid hv
  obtain ⟨a, cap, rfl, hcap, hmax, hn, hc⟩ := hv.open
  unfold maxLen at hmax
  clear hv hc
  unfold GivesRow6
  have hno := fun h => Term.dec_cut (b := l) h
  have hyes := fun t h1 h2 => Term.dec_gok (m1 := 7) (m2 := 3) (nd := 15) (b := l) (l := t) h1 h2
  have hnot := fun t h1 h2 => Term.dec_gnot (m1 := 7) (m2 := 3) (nd := 15) (by decide) (by decide) (by decide) (b := l) (l := t) h1 h2
  have hlen := fun t h => cutOf_le6 (l := l) (t := t) h
  obtain ⟨D, hD⟩ : ∃ D, Term.dec l = D := ⟨_, rfl⟩
  obtain ⟨C, hC⟩ : ∃ C, Crc.cutOf l = C := ⟨_, rfl⟩
  rw [hC] at hno hyes hnot hlen
  rw [hD] at hno hyes hnot ⊢
  have HC := Lib.hid hC
  have HNO := Lib.hid hno
  have HYES := Lib.hid hyes
  have HNOT := Lib.hid hnot
  have HLEN := Lib.hid hlen
  clear hC hD hno hyes hnot hlen
  have hE0 : Ext w (w.alloc (.cells #[.int .i64 0, .slice none 0 0, .slice none 0 0] 43)) := Ext.alloc _ _
  have HR0 := Lib.hid (confZero 43 w)
  go_enter Tryz.func106, Tryz.ntmps106
  go_wp2_with fail
  refine (new_any _).mono ?_
  rintro e w1 ⟨rfl, ht1, hE1⟩
  rw [World.size_alloc] at ht1 ⊢
  have r1 := Lib.hid (HR0.out.ext hE1)
  have e1 := hE0.trans hE1
  go_wp2_with fail
  have hcall := cut_any _ 0 0 _ l _ ht1 (.inl rfl) (HV.out.below e1) hl
  rw [HC.out] at hcall
  refine hcall.mono ?_
  clear hcall
  intro e w2 hq
  obtain ⟨-, hB2, hcut⟩ := hq
  have e2 : Ext w w2 := Below.trans (B := w.heap.size) e1 (hB2.below (Nat.le_succ _) e1.size)
  have r2 := Lib.hid (r1.out.but hB2 (by simp))
  obtain ⟨c0, c1, c2⟩ := r2.out.cells
  have fr : ∀ i, w2.frozen? ⟨w.heap.size, i, none⟩ = false := fun i => frozen_of_heap r2.out i
  cases C with
  | none =>
    subst hcut
    have hno := HNO.out rfl
    subst hno
    go_wp2_with fail
    have hs := r2.out.setAll 0 (.slice none 0 0) (.slice none 0 0)
    exact bodyPost_ret (v := .tuple #[confV 0 (.slice none 0 0) (.slice none 0 0), .int .i64 60]) (by simp [results, Tryz.results106, go_sem, c0, c1, c2, fr, confV]) rfl
      ⟨_, rfl, ⟨_, _, rfl, RowI.nil _, RowRR.nil _⟩, Below.trans (B := w.heap.size) e2 (hs.2.below (Nat.le_refl _) e2.size)⟩
  | some t =>
    obtain ⟨v2, rfl, hb2⟩ := hcut
    have htl : t.length ≤ l.length := HLEN.out t rfl
    obtain ⟨A1, nA, hA⟩ : ∃ A1 nA, Term.gA t = (A1, nA) := ⟨_, _, rfl⟩
    obtain ⟨B1, nB, hB⟩ : ∃ B1 nB, Term.gB 7 15 t = (B1, nB) := ⟨_, _, rfl⟩
    obtain ⟨C1, m, hC⟩ : ∃ C1 m, Term.gC 7 15 t = (C1, m) := ⟨_, _, rfl⟩
    have hA' : Pack.St.num ⟨t, 0⟩ 64 = (A1, nA) := hA
    have hB' : Term.gRow 7 15 A1 = (B1, nB) := by rw [← hB]; unfold Term.gB; rw [hA]
    have hC' : B1.num 8 = (C1, m) := by rw [← hC]; unfold Term.gC; rw [hB]
    have hm8 : m ≤ 8 := by
      have := numMost B1 8 (by omega)
      rw [hC'] at this
      simp only at this
      omega
    have HGR := Lib.hid (show (Term.gD 7 3 15 t).1 = (Term.gRows 3 15 C1 m).1 ∧ Term.gread 7 3 15 t = ⟨(nA : Int), nB, (Term.gRows 3 15 C1 m).2⟩ by unfold Term.gread Term.gD; rw [hA, hB, hC]; exact ⟨rfl, rfl⟩)
    have HA := Lib.hid hA'
    have HB := Lib.hid hB'
    have HCC := Lib.hid hC'
    clear hA hB hC hA' hB' hC' c0 c1 c2 fr
    obtain ⟨a2, n2, k2, rfl⟩ := hb2.isSlice
    go_wp2_with fail
    refine (newReader_any _ t _ hb2 (by omega)).mono ?_
    rintro e w3 ⟨p, rfl, hp, hr3, hE3⟩
    have e3 := e2.trans hE3
    have r3 := Lib.hid (r2.out.ext hE3)
    have hq0 : w.heap.size ≠ p := by have := r2.out.lt; omega
    have hwp : w.heap.size ≤ p := Nat.le_trans e2.size hp
    go_wp2_with fail
    refine (num_any p _ 64 _ hr3).mono ?_
    rw [HA.out]
    rintro e w4 ⟨rfl, hB4, hr4⟩
    obtain ⟨x, hx⟩ : ∃ x : Int, (nA : Int) = x := ⟨_, rfl⟩
    have HX := Lib.hid hx
    dsimp only
    rw [hx]
    rw [hx] at HGR
    clear hx
    have r4 := Lib.hid (r3.out.but hB4 hq0)
    have e4 : Ext w w4 := Below.trans (B := w.heap.size) e3 (hB4.below hwp e3.size)
    go_wp2_with fail
    refine (readRow6_any p 7 _ _ hr4 (by omega)).mono ?_
    rw [show (((7 : Nat) : Int)) = 7 from rfl, HB.out]
    rintro e w5 ⟨v5, rfl, ho5, hB5, hr5⟩
    obtain ⟨sa, sn, sc, rfl⟩ := ho5.slice
    have r5 := Lib.hid (r4.out.but hB5 hq0)
    have e5 : Ext w w5 := Below.trans (B := w.heap.size) e4 (hB5.below hwp e4.size)
    have O5 := Lib.hid (ho5.lower e4.size)
    have hpq : p < w5.heap.size := hr5.lt
    have hE6 : Ext w5 (w5.alloc (.cells #[.int .i64 x, .slice sa sn sc, .slice none 0 0] 43)) := Ext.alloc _ _
    have x6 := Lib.hid (ConfAt.new 43 w5 x (.slice sa sn sc) (.slice none 0 0))
    have r6 := Lib.hid (r5.out.ext hE6)
    have e6 := e5.trans hE6
    have O6 := Lib.hid (O5.out.ext hE6)
    have R6 := Lib.hid (hr5.ext hE6)
    have hwq : w.heap.size < w5.heap.size := by have := r5.out.lt; omega
    clear ho5 hr5 hr4 hr3
    go_wp2_with fail
    refine (num_any p _ 8 _ R6.out).mono ?_
    rw [HCC.out]
    rintro e w7 ⟨rfl, hB7, hr7⟩
    have hpr6 : ∃ q, w5.heap.size = q := ⟨_, rfl⟩
    obtain ⟨q, hq⟩ := hpr6
    rw [hq] at x6 hpq hwq ⊢
    obtain ⟨ra, rn, rc, hpp⟩ := R6.out.heapOf
    have x7 := Lib.hid (x6.out.but hB7 (by omega))
    have r7 := Lib.hid (r6.out.but hB7 hq0)
    have O7 := Lib.hid (O6.out.but hpp (by decide) hB7)
    have e7 : Ext w w7 := Below.trans (B := w.heap.size) e6 (hB7.below hwp e6.size)
    have R7 := Lib.hid hr7
    clear hq hpp hr7
    go_wp2_with fail
    go_loopw [26] (fun i wr => ∃ k : Nat, k ≤ m ∧ i = .int .i64 k ∧ ∃ dv, Hid (ConfAt 43 wr q x (.slice sa sn sc) dv) ∧ Hid (OwnRR wr q dv (Term.gRows 3 15 C1 k).2) ∧ Hid (OwnI wr w.heap.size (.slice sa sn sc) nB) ∧ Hid (RD wr p (Term.gRows 3 15 C1 k).1) ∧ Hid (ConfAt 43 wr w.heap.size 0 (.slice none 0 0) (.slice none 0 0)) ∧ Ext w wr) (fun i _ => m - (intOf i).toNat)
    case atStart => exact ⟨0, by omega, rfl, _, x7, OwnRR.nil _ _, O7, R7, r7, e7⟩
    case round =>
      obtain ⟨k, hk, rfl, dv, X, O, OS, HR, R, hE⟩ := hrel
      by_cases hlt : k < m
      · obtain ⟨N, hN⟩ : ∃ N, Term.gRow 3 15 (Term.gRows 3 15 C1 k).1 = N := ⟨_, rfl⟩
        have HNX := Lib.hid (show Term.gRows 3 15 C1 (k + 1) = (N.1, (Term.gRows 3 15 C1 k).2 ++ [N.2]) by
          show ((Term.gRow 3 15 (Term.gRows 3 15 C1 k).1).1, (Term.gRows 3 15 C1 k).2 ++ [(Term.gRow 3 15 (Term.gRows 3 15 C1 k).1).2]) = _
          rw [hN])
        have HN := Lib.hid hN
        have HK := Lib.hid (show (Term.gRows 3 15 C1 k).2.length = k from Term.gRows_len _ _ _ _)
        have hqr : q < wr.heap.size := X.out.lt
        obtain ⟨pa, pn, pc, hpp⟩ := HR.out.heapOf
        have HPP := Lib.hid hpp
        obtain ⟨xs, h1, h2, h3⟩ := O.out
        rw [HK.out] at h1
        have H1 := Lib.hid h1
        have H2 := Lib.hid h2
        have H3 := Lib.hid h3
        have hk1 : ∀ u : Value, k + [u].length ≤ maxLen := fun u => by simp [maxLen]; omega
        have hk2 : ∀ u : Value, (k + [u].length) * 24 ≤ 140737488355328 := fun u => by simp; omega
        have HK1 := Lib.hid hk1
        have HK2 := Lib.hid hk2
        have HCL := Lib.hid (fun (w' : World) (h : ConfAt 43 w' q x (.slice sa sn sc) dv) => h.cells.2.2)
        have HOWN1 := Lib.hid (show ∀ (w6 : World) (u : Value), But p wr.drew w6 → (w6.alloc (.cells #[u] 24)).ownsRow q 24 1 dv k xs from fun w6 u hB => (rowBut H1.out.drew (rowBeside H1.out.drew (show wr.drew.heap[p]? = _ from HPP.out) (by decide)) hB).alloc _)
        have HBS := Lib.hid (rowBeside H1.out X.out (by decide))
        have hc1 := X.out.cells.2.2
        clear hN hpp h1 h2 h3 hk1 hk2
        go_wp2_with fail
        go_region_law
          (first
            | (go_simp; go_at_call 129; refine (readRow6_any p 3 _ _ (HR.out.ext (Ext.drew wr)) (by omega)).mono ?_; rw [show (((3 : Nat) : Int)) = 3 from rfl, HN.out]; rintro e w8 ⟨u8, rfl, hu8, hB8, hr8⟩; obtain ⟨ua, un, uc, rfl⟩ := hu8.slice; have U8 := Lib.hid hu8; have R8 := Lib.hid hr8; clear hu8 hr8; have x8 := Lib.hid (ConfAt.but (X.out.ext (Ext.drew wr)) hB8 (by omega)); have hc8 := HCL.out w8 x8.out; have hc8a := HCL.out (w8.alloc (.cells #[.slice ua un uc] 24)) (x8.out.ext (Ext.alloc _ _)); have hq8 := ConfAt.later (o := .cells #[.slice ua un uc] 24) x8.out)
            | (rw [if_pos (by rfl)]; refine wp_app (.tmp 29) (.tmp 32) tRow rfl rfl rfl (HOWN1.out _ _ hB8) (slOne w8 (.slice ua un uc) 24) (oneSlice ⟨_, _, _, rfl⟩) (HK1.out _) (HK2.out _) hq8 ?_; intro v9 w9 hown9 hg9; have hg9 : (w8.alloc (.cells #[.slice ua un uc] 24)).grownBy w9 dv.ownBlock := hg9; obtain ⟨a9, n9, c9, rfl⟩ := ownSlice hown9; have x9 := Lib.hid (ConfAt.grown (x8.out.ext (Ext.alloc _ _)) hg9 HBS.out); have hc9 := HCL.out w9 x9.out; have hf9 := frozen_of_heap x9.out 2))
        all_goals
          have hrow1 := HOWN1.out w8 (.slice ua un uc) hB8
          have x10 := Lib.hid (x9.out.setD (.slice a9 n9 c9))
          have hbs := butSet w9 q 2 (.slice a9 n9 c9)
          have hpd : wr.drew.heap[p]? = some (.cells #[.slice pa pn pc, .int .i64 (Term.gRows 3 15 C1 k).1.err] 140 (0, 0)) := HPP.out
          have rr9 : OwnRR w9 q (.slice a9 n9 c9) ((Term.gRows 3 15 C1 k).2 ++ [N.2]) := by
            refine OwnRR.snoc (w := w8.alloc (.cells #[.slice ua un uc] 24)) (v := dv) (xs := xs) (by rw [HK.out]; exact hrow1) H2.out (fun i hi hi' => (OwnI.but (((H3.out i hi hi').ext (Ext.drew wr))) hpd (by decide) hB8).ext (Ext.alloc _ _)) ((U8.out.ext (Ext.alloc _ _)).lower (Nat.le_of_lt hqr)) hg9 (by rw [HK.out]; exact hown9)
          have rr10 := Lib.hid (rr9.but x9.out (by decide) (by decide) hbs)
          have s9 : OwnI w9 w.heap.size (.slice sa sn sc) nB := ((OwnI.but (OS.out.ext (Ext.drew wr)) hpd (by decide) hB8).ext (Ext.alloc _ _)).grown hrow1 hg9
          have s10 := Lib.hid (s9.but x9.out (by decide) hbs)
          have hr10 := ((R8.out.ext (Ext.alloc w8 (.cells #[.slice ua un uc] 24))).grownRow hrow1 hg9 hpq).setBehind (o := 2) (v := .slice a9 n9 c9) hpq
          have hq0q : some w.heap.size ≠ dv.ownBlock := fun e => by have := (hrow1.lt _ e.symm).1; omega
          have hr0 := (ConfAt.grown ((ConfAt.but (R.out.ext (Ext.drew wr)) hB8 hq0).ext (Ext.alloc w8 (.cells #[.slice ua un uc] 24))) hg9 hq0q)
          have HR0 := Lib.hid (hr0.but hbs (by omega))
          have hE8 : Ext w w8 := Below.trans (B := w.heap.size) (hE.trans (Ext.drew wr)) (hB8.below hwp (hE.trans (Ext.drew wr)).size)
          have hE9 : Ext w w9 := Below.grown (hE8.trans (Ext.alloc w8 (.cells #[.slice ua un uc] 24))) hg9 (hE8.trans (Ext.alloc w8 (.cells #[.slice ua un uc] 24))).size (fun j hj => by have := (hrow1.lt j hj).1; omega)
          have hE10 : Ext w (w9.setCell ⟨q, 2, none⟩ (.slice a9 n9 c9)) := Below.setCell hE9 (p := ⟨q, 2, none⟩) (Nat.le_of_lt hwq) _
          have RD10 := Lib.hid (show RD (w9.setCell ⟨q, 2, none⟩ (.slice a9 n9 c9)) p (Term.gRows 3 15 C1 (k + 1)).1 by rw [HNX.out]; exact hr10)
          rw [← show (Term.gRows 3 15 C1 (k + 1)).2 = (Term.gRows 3 15 C1 k).2 ++ [N.2] by rw [HNX.out]] at rr10
          clear hrow1 hbs hpd rr9 s9 hr10 hr0 hown9 hg9 hc9 hf9 hc8 hc8a hc1
          go_wp2
          go_roundw
          case rel => exact ⟨k + 1, by omega, by go_num, _, x10, rr10, s10, RD10, HR0, hE10⟩
          case measure => simp [intOf]; omega
      · obtain rfl : k = m := by omega
        obtain ⟨S2, hS2⟩ : ∃ S2, (Term.gRows 3 15 C1 k).1 = S2 := ⟨_, rfl⟩
        obtain ⟨L2, hL2⟩ : ∃ L2, (Term.gRows 3 15 C1 k).2 = L2 := ⟨_, rfl⟩
        rw [hS2, hL2] at HGR
        rw [hL2] at O
        rw [hS2] at HR
        have HOK := Lib.hid (Term.gok_eq HGR.out.1 HGR.out.2)
        have HRD := Lib.hid HGR.out.2
        have HXB := Lib.hid (show ∀ w', Ext wr w' → IsConf w' (confV x (.slice sa sn sc) dv) ⟨x, nB, L2⟩ from fun w' h => ⟨_, _, rfl, (OS.out.ext h).ints, (O.out.ext h).rows⟩)
        obtain ⟨da, dn, dc, rfl⟩ := O.out.slice
        clear hS2 hL2 HGR
        go_wp2_with fail
        refine (end_any p _ _ HR.out).mono ?_
        obtain ⟨d, hdd⟩ : ∃ d, S2.done = d := ⟨_, rfl⟩
        rw [hdd] at HOK ⊢
        clear hdd
        rintro e w10 ⟨rfl, rfl⟩
        by_cases hd : d = 0
        · subst hd
          have HOK2 := Lib.hid (show Term.gok 7 3 15 t = Term.right ⟨x, nB, L2⟩ by rw [HOK.out]; rfl)
          obtain ⟨d0, d1, d2⟩ := X.out.cells
          clear HOK
          go_wp2_with fail
          refine (right6_any _ ⟨x, nB, L2⟩ _ (HXB.out _ (Ext.refl _))).mono ?_
          rintro e w11 ⟨rfl, hE11⟩
          have r11 := Lib.hid (R.out.ext hE11)
          have x11 := Lib.hid (X.out.ext hE11)
          have e11 := hE.trans hE11
          clear d0 d1 d2
          obtain ⟨c0, c1, c2⟩ := r11.out.cells
          obtain ⟨d0, d1, d2⟩ := x11.out.cells
          have fr : ∀ i, w11.frozen? ⟨w.heap.size, i, none⟩ = false := fun i => frozen_of_heap r11.out i
          cases hrr : Term.right ⟨x, nB, L2⟩ with
          | false =>
            have hno := HNOT.out t rfl (HOK2.out.trans hrr)
            subst hno
            clear hrr HOK2
            go_wp2_with fail
            have hs := r11.out.setAll 0 (.slice none 0 0) (.slice none 0 0)
            exact bodyPost_ret (v := .tuple #[confV 0 (.slice none 0 0) (.slice none 0 0), .int .i64 60]) (by simp [results, Tryz.results106, go_sem, c0, c1, c2, fr, confV]) rfl
              ⟨_, rfl, ⟨_, _, rfl, RowI.nil _, RowRR.nil _⟩, Below.trans (B := w.heap.size) e11 (hs.2.below (Nat.le_refl _) e11.size)⟩
          | true =>
            have hyes := HYES.out t rfl (HOK2.out.trans hrr)
            rw [HRD.out] at hyes
            subst hyes
            clear hrr HOK2
            go_wp2_with fail
            have hs := r11.out.setAll x (.slice sa sn sc) (.slice da dn dc)
            refine bodyPost_ret (v := .tuple #[confV x (.slice sa sn sc) (.slice da dn dc), .int .i64 0]) (by simp [results, Tryz.results106, go_sem, c0, c1, c2, d0, d1, d2, fr, confV]) rfl
              ⟨_, rfl, ⟨_, _, rfl, ?_, ?_⟩, Below.trans (B := w.heap.size) e11 (hs.2.below (Nat.le_refl _) e11.size)⟩
            · exact ⟨_, _, (OS.out.ext hE11).but r11.out (by decide) hs.2⟩
            · exact ⟨_, (O.out.ext hE11).but r11.out (by decide) (by decide) hs.2⟩
        · have hno := HNOT.out t rfl (by rw [HOK.out, show (d == 0) = false from beq_eq_false_iff_ne.2 hd]; rfl)
          subst hno
          clear HOK
          obtain ⟨c0, c1, c2⟩ := R.out.cells
          have fr : ∀ i, wr.frozen? ⟨w.heap.size, i, none⟩ = false := fun i => frozen_of_heap R.out i
          have hdn : (d != 0) = true := by rw [bne_iff_ne]; exact hd
          clear hd
          go_wp2_with fail
          have hs := R.out.setAll 0 (.slice none 0 0) (.slice none 0 0)
          exact bodyPost_ret (v := .tuple #[confV 0 (.slice none 0 0) (.slice none 0 0), .int .i64 60]) (by simp [results, Tryz.results106, go_sem, c0, c1, c2, fr, confV]) rfl
            ⟨_, rfl, ⟨_, _, rfl, RowI.nil _, RowRR.nil _⟩, Below.trans (B := w.heap.size) hE (hs.2.below (Nat.le_refl _) hE.size)⟩
end Go.Proofs.YtldfpklgbedgjaaGreat

namespace Go.Proofs.YtldfpklgbedgjaaGreat
set_option linter.unusedSimpArgs false
set_option linter.unusedVariables false
set_option maxRecDepth 100000
open Go.ChangeShapes Go.WideShapes Go.ChangeAt Go.RowKit
/- Layer 6: configurations, and rows of numbers, out of what comes in. -/
section
variable {H : Type} {enc : TypeId × Value → H} {w : World} {base : Nat} {spare : Nat → Bool} {held : Bool}

theorem intsFull {fuel : Nat} {cs : List Value} {x : DataW H × List MemPlace} (h : DataW.trod enc Tryz.prog w base spare held fuel 24 cs = some x) :
    ∃ v l, cs = [v] ∧ Ints w v l ∧ (∀ y ∈ l, Wf64 y) ∧ l.length ≤ Rows.uptoBulk x.1 := by
  obtain ⟨v, xs, rfl, hs, hx⟩ := sl_of_raw Tryz.underlying24 (by kernel_rfl) h
  have each : ∀ i (hi : i < xs.length), ∃ y : Int, xs[i] = .int .i64 y ∧ Wf64 y := by
    intro i hi
    obtain ⟨f, y, hy⟩ := hx i hi
    obtain ⟨n, e1, _, hw⟩ := DataW.trod_int Tryz.underlying3 hy
    injection e1 with e1 _
    exact ⟨n, e1, hw⟩
  have key : ∀ l : List Value, (∀ i (hi : i < l.length), ∃ y : Int, l[i] = .int .i64 y ∧ Wf64 y) → ∃ m : List Int, l = i64s m ∧ ∀ y ∈ m, Wf64 y := by
    intro l
    induction l with
    | nil => intro _; exact ⟨[], rfl, by simp⟩
    | cons a l ih =>
      intro hl
      obtain ⟨m, rfl, hm⟩ := ih (fun i hi => by have := hl (i + 1) (by simpa using hi); simpa using this)
      obtain ⟨z, hz, hzw⟩ := hl 0 (by simp)
      refine ⟨z :: m, by simp only [List.getElem_cons_zero] at hz; rw [hz]; rfl, ?_⟩
      intro y hy
      rcases List.mem_cons.1 hy with rfl | hy
      · exact hzw
      · exact hm y hy
  obtain ⟨m, rfl, hm⟩ := key xs each
  obtain ⟨a, cap, rfl, _⟩ := (show Ints w v m from hs).open
  exact ⟨_, m, rfl, hs, hm, bulk_of_raw Tryz.underlying24 h⟩

theorem irowsFull {fuel : Nat} {cs : List Value} {x : DataW H × List MemPlace} (h : DataW.trod enc Tryz.prog w base spare held fuel 31 cs = some x) :
    ∃ v ls, cs = [v] ∧ IRows w v ls ∧ (∀ y ∈ ls.flatten, Wf64 y) ∧ ls.flatten.length ≤ Rows.uptoBulk x.1 ∧ ls.length ≤ Rows.uptoBulk x.1 := by
  have hc : Tryz.prog.cellsOf 24 = 1 := by kernel_rfl
  have hb := h
  rcases DataW.trod_slice Tryz.underlying31 h with ⟨rfl, _⟩ | ⟨a, len, cap, elems, rest, n, _, rfl, rfl, _, hl, hm, hlen, hel, _, _⟩
  · exact ⟨_, [], rfl, irows0 _, by simp, by simp, by simp⟩
  · rw [hc] at hel
    have each : ∀ i, i < elems.length → ∃ c l, w.cell? (a.add i) = some c ∧ Ints w c l ∧ (∀ y ∈ l, Wf64 y) ∧ ∀ hi : i < elems.length, l.length ≤ Rows.uptoBulk elems[i].1 := by
      intro i hi
      have h1 := hel i (by omega)
      rw [Nat.mul_one, List.getElem?_eq_getElem hi, Option.bind_eq_some_iff] at h1
      obtain ⟨ds, hds, hy⟩ := h1
      have hlen1 := (World.cells?_some hds).2.1
      obtain ⟨v, l, hv, h2, h3, h4⟩ := intsFull hy
      subst hv
      exact ⟨v, l, cell_of_cells?_one hds, h2, h3, fun _ => h4⟩
    obtain ⟨f, hf⟩ : ∃ f : Nat → Value × List Int, ∀ i (hi : i < elems.length), w.cell? (a.add i) = some (f i).1 ∧ Ints w (f i).1 (f i).2 ∧ (∀ y ∈ (f i).2, Wf64 y) ∧ (f i).2.length ≤ Rows.uptoBulk elems[i].1 := by
      have : ∀ i, ∃ p : Value × List Int, ∀ (hi : i < elems.length), w.cell? (a.add i) = some p.1 ∧ Ints w p.1 p.2 ∧ (∀ y ∈ p.2, Wf64 y) ∧ p.2.length ≤ Rows.uptoBulk elems[i].1 := by
        intro i
        by_cases hi : i < elems.length
        · obtain ⟨c, l, h1, h2, h3, h4⟩ := each i hi
          exact ⟨(c, l), fun hi => ⟨h1, h2, h3, h4 hi⟩⟩
        · exact ⟨(undef, []), fun h => absurd h hi⟩
      exact ⟨fun i => (this i).choose, fun i => (this i).choose_spec⟩
    have hls : ((List.range elems.length).map fun i => (f i).2).length = elems.length := by simp
    refine ⟨_, (List.range elems.length).map fun i => (f i).2, rfl, ⟨(List.range elems.length).map fun i => (f i).1, ⟨some a, cap, by simp [hlen], by simp; omega, hm, fun e => by simp at e, fun i hi => ?_⟩, by simp, fun i hi hi' => ?_⟩, ?_, ?_, ?_⟩
    · have hi' : i < elems.length := by simpa using hi
      have h1 := (hf i hi').1
      have h0 := (hf 0 (by omega)).1
      have hs : a.spot = none := by
        have e0 : a.add 0 = a := by simp [Addr.add]
        rw [e0] at h0
        obtain ⟨_, _, he, _⟩ := (hf 0 (by omega)).2.1.open
        rw [he] at h0
        unfold World.cell? at h0
        cases hsp : a.spot with
        | none => rfl
        | some s =>
          exfalso
          rw [hsp] at h0
          split at h0 <;> simp at h0
      obtain ⟨b, off, spot⟩ := a
      simp only at hs
      subst hs
      rw [Addr.add_lit] at h1
      exact ⟨b, off, rfl, by simpa using h1⟩
    · have hi2 : i < elems.length := by simpa using hi
      simpa using (hf i hi2).2.1
    · intro y hy
      obtain ⟨l, hl1, hy1⟩ := List.mem_flatten.1 hy
      obtain ⟨i, hi, rfl⟩ := List.mem_map.1 hl1
      exact (hf i (List.mem_range.1 hi)).2.2.1 y hy1
    · have key : ∀ (es : List (DataW H × List MemPlace)) (g : Nat → List Int), (∀ i (hi : i < es.length), (g i).length ≤ Rows.uptoBulk es[i].1) → (((List.range es.length).map g).flatten).length ≤ Rows.uptoBulkAll (es.map (·.1)) := by
        intro es
        induction es with
        | nil => intro g _; simp
        | cons e es ih =>
          intro g hg
          have h1 := ih (fun i => g (i + 1)) (fun i hi => by have := hg (i + 1) (by simpa using hi); simpa using this)
          have h0 := hg 0 (by simp)
          rw [List.length_cons, List.range_succ_eq_map, List.map_cons, List.map_map, List.flatten_cons, List.length_append]
          simp only [List.map_cons, Rows.uptoBulkAll, List.getElem_cons_zero] at h0 ⊢
          have e1 : ((List.range es.length).map (g ∘ Nat.succ)) = ((List.range es.length).map fun i => g (i + 1)) := rfl
          rw [e1]
          omega
      have := key elems (fun i => (f i).2) (fun i hi => (hf i hi).2.2.2)
      simp only [Rows.uptoBulk]
      omega
    · have := bulk_of_raw Tryz.underlying31 hb
      rw [hls]
      omega

theorem threeOf {α : Type} {l : List α} (h : l.length = 3) : ∃ a b c, l = [a, b, c] := by
  match l, h with
  | [a, b, c], _ => exact ⟨a, b, c, rfl⟩
theorem confFull {fuel : Nat} {cs : List Value} {x : DataW H × List MemPlace} (h : DataW.trod enc Tryz.prog w base spare held fuel 33 cs = some x) :
    ∃ (s d : Value) (c : Term.C), cs = [.int .i64 c.term, s, d] ∧ Ints w s c.seqs ∧ IRows w d c.shards ∧ (∀ y ∈ Term.all c, Wf64 y) ∧ (Term.all c).length ≤ Rows.uptoBulk x.1 ∧ c.shards.length ≤ Rows.uptoBulk x.1 := by
  obtain ⟨xs, n, _, rfl, hl, hlen, hf⟩ := DataW.trod_struct Tryz.underlying33 h
  have hc : Tryz.prog.cellsOf 33 = 3 := by kernel_rfl
  have hi : Tryz.prog.cellsOf 3 = 1 := by kernel_rfl
  have hii : Tryz.prog.cellsOf 24 = 1 := by kernel_rfl
  have hiii : Tryz.prog.cellsOf 31 = 1 := by kernel_rfl
  rw [hc] at hl
  obtain ⟨c0, c1, c2, rfl⟩ := threeOf hl
  obtain ⟨y0, y1, y2, rfl⟩ := threeOf hlen
  have f0 := hf 0 _ rfl
  have f1 := hf 1 _ rfl
  have f2 := hf 2 _ rfl
  simp only [hi, hii, hiii, List.drop_zero, List.drop_succ_cons, List.take_succ_cons, List.take_zero, List.getElem?_cons_zero, List.getElem?_cons_succ] at f0 f1 f2
  obtain ⟨n0, e0, _, _⟩ := DataW.trod_int Tryz.underlying3 f0
  obtain ⟨v1, l1, e1, i1, w1, b1⟩ := intsFull f1
  obtain ⟨v2, l2, e2, i2, w2, b2, b3⟩ := irowsFull f2
  injection e0 with e0 _
  injection e1 with e1 _
  injection e2 with e2 _
  subst e0 e1 e2
  refine ⟨_, _, ⟨n0, l1, l2⟩, rfl, i1, i2, ?_, ?_, ?_⟩
  · intro y hy
    rcases List.mem_append.1 hy with hy | hy
    · exact w1 y hy
    · exact w2 y hy
  · show (l1 ++ l2.flatten).length ≤ _
    rw [List.length_append]
    simp only [List.map_cons, List.map_nil, Rows.uptoBulk, Rows.uptoBulkAll]
    omega
  · show l2.length ≤ _
    simp only [List.map_cons, List.map_nil, Rows.uptoBulk, Rows.uptoBulkAll]
    omega
end
end Go.Proofs.YtldfpklgbedgjaaGreat
