/-
 Merged: Layer 6, the program: has a row a number; Layer 6, the program: configurations by value; Layer 6: which configurations may be: the document's own answer; Layer 6, the program: configurations as bytes; Layer 6: configurations as bytes: the document's own answer; Layer 6: are two configurations the same: the program's answer, and the document's; Layer 6: rows of nodes are read: by the program, and by the document; Layer 6, the program: bytes as configurations; Layer 6: configurations, and rows of numbers, out of what comes in; Layer 6: bytes as configurations: the document's own answer.
-/
import Derived.Test.YtldfpklgbedgjaaGreatRows
import Derived.Test.YtldfpklgbedgjaaGreatChecked
import Derived.SizedLaws
import Derived.Test.YtldfpklgbedgjaaGreatBrCrc
import Derived.Test.YtldfpklgbedgjaaGreatBrMath
import Derived.Test.YtldfpklgbedgjaaGreatBrPack
import Derived.Test.YtldfpklgbedgjaaGreatBrPack2
import Derived.Test.YtldfpklgbedgjaaGreatBrRest
import Derived.Test.YtldfpklgbedgjaaGreatBrVec
namespace Go.Proofs.YtldfpklgbedgjaaGreat
set_option linter.unusedSimpArgs false
set_option linter.unusedVariables false
set_option maxRecDepth 100000
open Go.RowKit
def hasI (ns : List Int) (x : Int) : Bool := ns.contains x
theorem hasSucc (ns : List Int) (x : Int) (k : Nat) (h : k < ns.length) (h1 : hasI (ns.take k) x = false) (h2 : ns[k] ≠ x) : hasI (ns.take (k + 1)) x = false := by
 rw [take_succ_getD ns k h]
 simp only [hasI, List.contains_eq_mem, decide_eq_false_iff_not, List.mem_append, List.mem_singleton, not_or] at h1 ⊢
 exact ⟨h1, fun e => h2 e.symm⟩
theorem hasHere (ns : List Int) (x : Int) (k : Nat) (h : k < ns.length) (h2 : ns[k] = x) : hasI ns x = true := by
 rw [hasI, List.contains_eq_mem, decide_eq_true_eq, ← h2]
 exact List.getElem_mem h
theorem hasEnd {ns : List Int} {x : Int} {k : Nat} (hk : k ≤ ns.length) (hlt : ¬ k < ns.length) {b : Bool} (h : hasI (ns.take k) x = b) : hasI ns x = b := by
 rw [List.take_of_length_le (by omega)] at h; exact h
theorem Ints.take {w : World} {a : Option Addr} {n cap : Nat} {ns : List Int} (h : Ints w (.slice a n cap) ns) (k : Nat) (hk : k ≤ n) : Ints w (.slice a k cap) (ns.take k) := by
 have := Sl.take h k hk
 have e : (i64s ns).take k = i64s (ns.take k) := by simp [i64s]
 rw [e] at this
 exact this
set_option maxHeartbeats 1000000 in
theorem idx6_any (v : Value) (ns : List Int) (x : Int) (w : World) (hv : Ints w v ns) :
 Calls Tryz.prog 139 #[v, .int .i64 x] w fun e w' => (∃ i : Int, e = .returned (.int .i64 i) ∧ (decide (0 ≤ i)) = hasI ns x) ∧ w = w' := by
 obtain ⟨a, cap, rfl, hcap, hmax, _, hc⟩ := hv.open
 unfold maxLen at hmax
 clear hv
 go_enter Tryz.func139, Tryz.ntmps139
 go_wp2
 go_loop [5, 8] (fun _ i => ∃ k : Nat, k ≤ ns.length ∧ i = .int .i64 k ∧ Hid (hasI (ns.take k) x = false)) (fun _ i => ns.length - (intOf i).toNat)
 case atStart => exact ⟨0, by omega, rfl, by simp [Hid, hasI]⟩
 case round =>
  obtain ⟨k, hk, rfl, hr⟩ := hrel
  by_cases hlt : k < ns.length
  · obtain ⟨b, off, rfl, hcell⟩ := hc k hlt
    clear hc
    by_cases h0 : ns[k] = x
    · have HS := Lib.hid (hasHere ns x k hlt h0)
      have g0 : (x == ns[k]) = true := by rw [h0]; simp
      clear h0
      go_wp2
      go_ret
      exact ⟨⟨k, rfl, by rw [HS.out]; simp⟩, rfl⟩
    · have HS := Lib.hid (hasSucc ns x k hlt hr.out h0)
      have g0 : (x == ns[k]) = false := by rw [beq_eq_false_iff_ne]; exact fun e => h0 e.symm
      clear h0
      go_wp2
      go_round
      case rel => exact ⟨k + 1, by omega, by go_num, HS.out⟩
      case measure => simp [intOf]; omega
  · have hs := Lib.hid (hasEnd hk hlt hr.out)
    clear hr hc
    go_wp2
    go_ret
    exact ⟨⟨-1, rfl, by rw [hs.out]; simp⟩, rfl⟩
set_option maxHeartbeats 1000000 in
theorem has6_any (v : Value) (ns : List Int) (x : Int) (w : World) (hv : Ints w v ns) :
 Calls Tryz.prog 125 #[v, .int .i64 x] w fun e w' => e = .returned (.bool (hasI ns x)) ∧ w = w' := by
 have HV := Lib.hid hv
 clear hv
 go_enter Tryz.func125, Tryz.ntmps125
 go_wp2_with fail
 refine (idx6_any v ns x _ HV.out).mono ?_
 rintro e w' ⟨⟨i, rfl, hi⟩, rfl⟩
 go_wp2_with fail
 go_ret
 exact ⟨by rw [← hi]; rfl, rfl⟩
set_option maxHeartbeats 1000000 in
theorem refHas6_any (v : Value) (ns : List Int) (x : Int) (w : World) (hv : Ints w v ns) :
 Calls Tryz.prog 140 #[v, .int .i64 x] w fun e w' => e = .returned (.bool (hasI ns x)) ∧ w = w' := by
 obtain ⟨a, cap, rfl, hcap, hmax, _, hc⟩ := hv.open
 unfold maxLen at hmax
 clear hv
 go_enter Tryz.func140, Tryz.ntmps140
 go_wp2
 go_loop [5] (fun i => ∃ k : Nat, k ≤ ns.length ∧ i = .int .i64 k ∧ Hid (hasI (ns.take k) x = false)) (fun i => ns.length - (intOf i).toNat)
 case atStart => exact ⟨0, by omega, rfl, by simp [Hid, hasI]⟩
 case round =>
  obtain ⟨k, hk, rfl, hr⟩ := hrel
  by_cases hlt : k < ns.length
  · obtain ⟨b, off, rfl, hcell⟩ := hc k hlt
    clear hc
    by_cases h0 : ns[k] = x
    · have HS := Lib.hid (hasHere ns x k hlt h0)
      have g0 : (ns[k] == x) = true := by rw [h0]; simp
      clear h0
      go_wp2
      go_ret
      exact ⟨by rw [HS.out]; rfl, rfl⟩
    · have HS := Lib.hid (hasSucc ns x k hlt hr.out h0)
      have g0 : (ns[k] == x) = false := by rw [beq_eq_false_iff_ne]; exact h0
      clear h0
      go_wp2
      go_round
      case rel => exact ⟨k + 1, by omega, by go_num, HS.out⟩
      case measure => simp [intOf]; omega
  · have hs := Lib.hid (hasEnd hk hlt hr.out)
    clear hr hc
    go_wp2
    go_ret
    exact ⟨by rw [hs.out]; rfl, rfl⟩
theorem unlikeSucc {ns : List Int} {k : Nat} (h : k < ns.length) (h1 : Term.unlike (ns.take k) = true) (a : 0 ≤ ns[k]) (b : ns[k] ≤ 15) (c : hasI (ns.take k) ns[k] = false) : Term.unlike (ns.take (k + 1)) = true := by
 unfold hasI at c
 rw [take_succ_getD ns k h, Term.unlike_snoc, h1, c]
 simp [Term.okNode, a, b]
theorem unlikeNot {ns : List Int} {k : Nat} (h : k < ns.length) (c : ns[k] < 0 ∨ 15 < ns[k] ∨ hasI (ns.take k) ns[k] = true) : Term.unlike ns = false := by
 rw [← Bool.not_eq_true]
 intro hu
 have := Term.unlike_take (k + 1) hu
 rw [take_succ_getD ns k h, Term.unlike_snoc] at this
 simp only [Bool.and_eq_true, Term.okNode, decide_eq_true_eq, Bool.not_eq_true'] at this
 rcases c with c | c | c
 · omega
 · omega
 · unfold hasI at c; rw [this.2.2] at c; cases c
theorem unlikeEnd {ns : List Int} {k : Nat} (hk : k ≤ ns.length) (hlt : ¬ k < ns.length) (h : Term.unlike (ns.take k) = true) : Term.unlike ns = true := by
 rw [List.take_of_length_le (by omega)] at h; exact h
theorem to6 (w : World) (a : Option Addr) (n cap k : Nat) (hk : k ≤ cap) : (Instr.sliceAt 24 (.slice a n cap) none (some (.int .i64 (k : Int))) none).run Tryz.prog w = .ok (.slice a k cap) w :=
 run_sl_to Tryz.underlying24 (by kernel_rfl) k hk .i64
set_option maxHeartbeats 4000000 in
theorem areNodes6_any (v : Value) (ns : List Int) (m : Nat) (w : World) (hv : Ints w v ns) (hm : m ≤ 100) :
 Calls Tryz.prog 84 #[v, .int .i64 m] w fun e w' => e = .returned (.bool (decide (1 ≤ ns.length ∧ ns.length ≤ m) && Term.unlike ns)) ∧ w = w' := by
 have HV := Lib.hid hv
 obtain ⟨a, cap, rfl, hcap, hmax, _, hc⟩ := hv.open
 unfold maxLen at hmax
 have HC := Lib.hid hc
 clear hv hc
 by_cases g1 : (ns.length : Int) < 1
 · have e : decide (1 ≤ ns.length ∧ ns.length ≤ m) = false := by rw [decide_eq_false_iff_not]; omega
   rw [e]
   clear e
   go_enter Tryz.func84, Tryz.ntmps84
   go_wp2
   go_ret
   exact ⟨rfl, rfl⟩
 by_cases g2 : (m : Int) < (ns.length : Int)
 · have e : decide (1 ≤ ns.length ∧ ns.length ≤ m) = false := by rw [decide_eq_false_iff_not]; omega
   rw [e]
   clear e
   go_enter Tryz.func84, Tryz.ntmps84
   go_wp2
   go_ret
   exact ⟨rfl, rfl⟩
 have e : decide (1 ≤ ns.length ∧ ns.length ≤ m) = true := by rw [decide_eq_true_eq]; omega
 rw [e, Bool.true_and]
 clear e
 have hsl := fun (k : Nat) (hk : k ≤ cap) wy => to6 wy a ns.length cap k hk
 have HSL := Lib.hid hsl
 clear hsl
 go_enter Tryz.func84, Tryz.ntmps84
 go_wp2_with fail
 go_loop [5, 6, 18] (fun _ _ i => ∃ k : Nat, k ≤ ns.length ∧ i = .int .i64 k ∧ Hid (Term.unlike (ns.take k) = true)) (fun _ _ i => ns.length - (intOf i).toNat)
 case atStart => exact ⟨0, by omega, rfl, by simp [Hid, Term.unlike]⟩
 case round =>
  obtain ⟨k, hk, rfl, hr⟩ := hrel
  by_cases hlt : k < ns.length
  · obtain ⟨b, off, rfl, hcell⟩ := HC.out k hlt
    have hs1 := HSL.out k (by omega) w
    by_cases h0 : ns[k] < 0
    · have HS := Lib.hid (unlikeNot hlt (.inl h0))
      go_wp2_with fail
      go_ret
      exact ⟨by rw [HS.out]; rfl, rfl⟩
    by_cases h2 : 16 ≤ ns[k]
    · have HS := Lib.hid (unlikeNot hlt (.inr (.inl (by omega))))
      go_wp2_with fail
      go_ret
      exact ⟨by rw [HS.out]; rfl, rfl⟩
    have HT := Lib.hid (HV.out.take k (by omega))
    cases hb : hasI (ns.take k) ns[k] with
    | true =>
     have HS := Lib.hid (unlikeNot hlt (.inr (.inr hb)))
     have HB := Lib.hid hb
     clear hb
     go_wp2_with fail
     refine (has6_any _ _ _ _ HT.out).mono ?_
     rw [HB.out]
     rintro e w' ⟨rfl, rfl⟩
     go_wp2_with fail
     go_ret
     exact ⟨by rw [HS.out]; rfl, rfl⟩
    | false =>
     have HS := Lib.hid (unlikeSucc hlt hr.out (by omega) (by omega) hb)
     have HB := Lib.hid hb
     clear hb
     go_wp2_with fail
     refine (has6_any _ _ _ _ HT.out).mono ?_
     rw [HB.out]
     rintro e w' ⟨rfl, rfl⟩
     go_wp2_with fail
     go_round
     case rel => exact ⟨k + 1, by omega, by go_num, HS.out⟩
     case measure => simp [intOf]; omega
  · have hs := Lib.hid (unlikeEnd hk hlt hr.out)
    clear hr
    go_wp2_with fail
    go_ret
    exact ⟨by rw [hs.out]; rfl, rfl⟩
set_option maxHeartbeats 4000000 in
theorem refUnlike6_any (v : Value) (ns : List Int) (w : World) (hv : Ints w v ns) :
 Calls Tryz.prog 127 #[v] w fun e w' => e = .returned (.bool (Term.unlike ns)) ∧ Ext w w' := by
 have HV := Lib.hid hv
 obtain ⟨a, cap, rfl, hcap, hmax, _, hc⟩ := hv.open
 unfold maxLen at hmax
 clear hv hc
 have hsl := fun (k : Nat) (hk : k ≤ cap) wy => to6 wy a ns.length cap k hk
 have HSL := Lib.hid hsl
 clear hsl
 go_enter Tryz.func127, Tryz.ntmps127
 go_wp2_with fail
 go_loopw [3] (fun i wr => ∃ k : Nat, k ≤ ns.length ∧ i = .int .i64 k ∧ Hid (Term.unlike (ns.take k) = true) ∧ Ext w wr) (fun i _ => ns.length - (intOf i).toNat)
 case atStart => exact ⟨0, by omega, rfl, by simp [Hid, Term.unlike], Ext.refl _⟩
 case round =>
  obtain ⟨k, hk, rfl, hr, hE⟩ := hrel
  by_cases hlt : k < ns.length
  · obtain ⟨a', cap', e', _, _, _, hc⟩ := (HV.out.below hE).open
    obtain ⟨b, off, rfl, hcell⟩ := hc k hlt
    have hcelld : wr.drew.cell? ⟨b, off + k, none⟩ = some (.int .i64 ns[k]) := hcell
    injection e' with e1 e2 e3
    subst e1
    clear hc e2 e3
    have hs1 := HSL.out k (by omega)
    by_cases h0 : ns[k] < 0
    · have HS := Lib.hid (unlikeNot hlt (.inl h0))
      go_wp2_with fail
      go_quiet (fail)
      go_wp2_with fail
      go_ret
      exact ⟨by rw [HS.out]; rfl, hE.trans (Ext.drewN _ _)⟩
    by_cases h2 : 15 < ns[k]
    · have HS := Lib.hid (unlikeNot hlt (.inr (.inl (by omega))))
      go_wp2_with fail
      go_quiet (fail)
      go_wp2_with fail
      go_ret
      exact ⟨by rw [HS.out]; rfl, hE.trans (Ext.drewN _ _)⟩
    have HQ : Hid (∀ q : Nat, Calls Tryz.prog 140 #[.slice (some ⟨b, off, none⟩) k cap, .int .i64 ns[k]] (wr.drewN q) fun e w' => e = .returned (.bool (hasI (ns.take k) ns[k])) ∧ w' = wr.drewN q) := by
     intro q
     refine (refHas6_any _ _ _ _ (((HV.out.below hE).below (Ext.drewN wr q)).take k (by omega))).mono ?_
     rintro e w' ⟨rfl, rfl⟩
     exact ⟨rfl, rfl⟩
    cases hb : hasI (ns.take k) ns[k] with
    | true =>
     have HS := Lib.hid (unlikeNot hlt (.inr (.inr hb)))
     rw [hb] at HQ
     clear hb
     go_wp2_with fail
     go_quiet (first | (go_at_call 140; exact Calls.quiet_of_same (HQ.out _)))
     go_wp2_with fail
     go_ret
     exact ⟨by rw [HS.out]; rfl, hE.trans (Ext.drewN _ _)⟩
    | false =>
     have HS := Lib.hid (unlikeSucc hlt hr.out (by omega) (by omega) hb)
     rw [hb] at HQ
     clear hb
     go_wp2_with fail
     go_quiet (first | (go_at_call 140; exact Calls.quiet_of_same (HQ.out _)))
     go_wp2_with fail
     go_roundw
     case rel => exact ⟨k + 1, by omega, by go_num, HS.out, hE.trans (Ext.drewN _ _)⟩
     case measure => simp [intOf]; omega
  · have hs := Lib.hid (unlikeEnd hk hlt hr.out)
    clear hr
    go_wp2_with fail
    go_ret
    exact ⟨by rw [hs.out]; rfl, hE⟩
def confV (n : Int) (s d : Value) : Value := .agg #[.int .i64 n, s, d]
def IsConf (w : World) (v : Value) (c : Term.C) : Prop := ∃ s d, v = confV c.term s d ∧ Ints w s c.seqs ∧ IRows w d c.shards
theorem IsConf.below {w w' : World} {v : Value} {c : Term.C} (h : IsConf w v c) (hb : Below w.heap.size w w') : IsConf w' v c := by
 obtain ⟨s, d, rfl, h1, h2⟩ := h
 exact ⟨s, d, rfl, h1.below hb, h2.below hb⟩
def ConfAt (T : TypeId) (w : World) (p : Nat) (n : Int) (s d : Value) : Prop := w.heap[p]? = some (.cells #[.int .i64 n, s, d] T (0, 0))
theorem ConfAt.new (T : TypeId) (w : World) (n : Int) (s d : Value) : ConfAt T (w.alloc (.cells #[.int .i64 n, s, d] T)) w.heap.size n s d := heap_alloc_new w _
theorem ConfAt.lt {T : TypeId} {w : World} {p : Nat} {n : Int} {s d : Value} (h : ConfAt T w p n s d) : p < w.heap.size := (Array.getElem?_eq_some_iff.1 h).1
theorem ConfAt.ext {T : TypeId} {w w' : World} {p : Nat} {n : Int} {s d : Value} (h : ConfAt T w p n s d) (hE : Ext w w') : ConfAt T w' p n s d := (hE.block p h.lt).trans h
theorem ConfAt.but {T : TypeId} {w w' : World} {p q : Nat} {n : Int} {s d : Value} (h : ConfAt T w p n s d) (hB : But q w w') (hne : p ≠ q) : ConfAt T w' p n s d := (hB.block p h.lt hne).trans h
theorem ConfAt.cells {T : TypeId} {w : World} {p : Nat} {n : Int} {s d : Value} (h : ConfAt T w p n s d) : w.cell? ⟨p, 0, none⟩ = some (.int .i64 n) ∧ w.cell? ⟨p, 1, none⟩ = some s ∧ w.cell? ⟨p, 2, none⟩ = some d :=
 ⟨cell_of_heap h 0, cell_of_heap h 1, cell_of_heap h 2⟩
theorem box_conf (w : World) (n : Int) (s d : Value) : (Instr.box 43 (.agg #[.int .i64 n, s, d])).run Tryz.prog w = .ok (.pointer (some ⟨w.heap.size, 0, none⟩)) (w.alloc (.cells #[.int .i64 n, s, d] 43)) := by kernel_rfl
theorem box_confR (w : World) (n : Int) (s d : Value) : (Instr.box 33 (.agg #[.int .i64 n, s, d])).run Tryz.prog w = .ok (.pointer (some ⟨w.heap.size, 0, none⟩)) (w.alloc (.cells #[.int .i64 n, s, d] 33)) := by kernel_rfl
set_option maxHeartbeats 1000000 in
theorem isEven6_any (v : Value) (ns : List Int) (w : World) (hv : Ints w v ns) :
 Calls Tryz.prog 83 #[v] w fun e w' => e = .returned (.bool (decide (ns.length % 2 = 0))) ∧ w = w' := by
 obtain ⟨a, cap, rfl, hcap, hmax, _, _⟩ := hv.open
 unfold maxLen at hmax
 clear hv
 by_cases h : ns.length % 2 = 0
 · have g : (Int.tmod (ns.length : Int) 2 == 0) = true := by
    have : Int.tmod (ns.length : Int) 2 = ((ns.length % 2 : Nat) : Int) := rfl
    rw [this, h]; rfl
   have g2 : ((ns.length : Int) % 2 == 0) = true := by rw [beq_iff_eq]; omega
   rw [decide_eq_true h]
   clear h
   generalize hn : (ns.length : Int) = n at *
   go_enter Tryz.func83, Tryz.ntmps83
   go_wp2_with fail
   go_ret
   exact ⟨by first | rfl | (simp only [g2]; rfl), rfl⟩
 · have g : (Int.tmod (ns.length : Int) 2 == 0) = false := by
    have : Int.tmod (ns.length : Int) 2 = ((ns.length % 2 : Nat) : Int) := rfl
    rw [this, show ns.length % 2 = 1 by omega]; rfl
   have g2 : ((ns.length : Int) % 2 == 0) = false := by rw [beq_eq_false_iff_ne]; omega
   rw [decide_eq_false h]
   clear h
   generalize hn : (ns.length : Int) = n at *
   go_enter Tryz.func83, Tryz.ntmps83
   go_wp2_with fail
   go_ret
   exact ⟨by first | rfl | (simp only [g2]; rfl), rfl⟩
set_option maxHeartbeats 1000000 in
theorem notShard6_any (v : Value) (ns : List Int) (w : World) (hv : Ints w v ns) :
 Calls Tryz.prog 86 #[v] w fun e w' => e = .returned (.bool (!Term.okShard ns)) ∧ w = w' := by
 have HV := Lib.hid hv
 clear hv
 cases hb : Term.okShard ns with
 | true =>
  have HB := Lib.hid hb
  clear hb
  go_enter Tryz.func86, Tryz.ntmps86
  go_wp2_with fail
  refine (areNodes6_any v ns 3 _ HV.out (by omega)).mono ?_
  rw [show (decide (1 ≤ ns.length ∧ ns.length ≤ 3) && Term.unlike ns) = true from HB.out]
  rintro e w' ⟨rfl, rfl⟩
  go_wp2_with fail
  go_ret
  exact ⟨rfl, rfl⟩
 | false =>
  have HB := Lib.hid hb
  clear hb
  go_enter Tryz.func86, Tryz.ntmps86
  go_wp2_with fail
  refine (areNodes6_any v ns 3 _ HV.out (by omega)).mono ?_
  rw [show (decide (1 ≤ ns.length ∧ ns.length ≤ 3) && Term.unlike ns) = false from HB.out]
  rintro e w' ⟨rfl, rfl⟩
  go_wp2_with fail
  go_ret
  exact ⟨rfl, rfl⟩
theorem allSucc {ls : List (List Int)} {f : List Int → Bool} {k : Nat} (h : k < ls.length) (h1 : (ls.take k).all f = true) (h2 : f ls[k] = true) : (ls.take (k + 1)).all f = true := by
 rw [take_succ_getD ls k h, List.all_append, h1]; simp [h2]
theorem allNot {ls : List (List Int)} {f : List Int → Bool} {k : Nat} (h : k < ls.length) (h2 : f ls[k] = false) : ls.all f = false := by
 rw [List.all_eq_false]
 exact ⟨ls[k], List.getElem_mem _, by rw [h2]; simp⟩
theorem allEnd {ls : List (List Int)} {f : List Int → Bool} {k : Nat} (hk : k ≤ ls.length) (hlt : ¬ k < ls.length) (h : (ls.take k).all f = true) : ls.all f = true := by
 rw [List.take_of_length_le (by omega)] at h; exact h
set_option maxHeartbeats 1000000 in
theorem idxShard6_any (v : Value) (ls : List (List Int)) (w : World) (hv : IRows w v ls) :
 Calls Tryz.prog 126 #[v, .func (.func 86) #[] #[]] w fun e w' => (∃ i : Int, e = .returned (.int .i64 i) ∧ (decide (0 ≤ i)) = !(ls.all Term.okShard)) ∧ w = w' := by
 obtain ⟨a, cap, rfl, hcap, hmax, hc⟩ := hv.open
 unfold maxLen at hmax
 have HC := Lib.hid hc
 clear hv hc
 go_enter Tryz.func126, Tryz.ntmps126
 go_wp2
 go_loop [5, 8] (fun _ i => ∃ k : Nat, k ≤ ls.length ∧ i = .int .i64 k ∧ Hid ((ls.take k).all Term.okShard = true)) (fun _ i => ls.length - (intOf i).toNat)
 case atStart => exact ⟨0, by omega, rfl, by simp [Hid]⟩
 case round =>
  obtain ⟨k, hk, rfl, hr⟩ := hrel
  by_cases hlt : k < ls.length
  · obtain ⟨b, off, x, rfl, hcell, hx⟩ := HC.out k hlt
    have HX := Lib.hid hx
    obtain ⟨ax, cx, rfl, _⟩ := hx.open
    clear hx
    cases hb : Term.okShard ls[k] with
    | true =>
     have HB := Lib.hid hb
     clear hb
     go_wp2_with fail
     refine (notShard6_any _ ls[k] _ HX.out).mono ?_
     rw [HB.out]
     rintro e w' ⟨rfl, rfl⟩
     go_wp2_with fail
     go_round
     case rel => exact ⟨k + 1, by omega, by go_num, allSucc hlt hr.out HB.out⟩
     case measure => simp [intOf]; omega
    | false =>
     have HB := Lib.hid hb
     clear hb
     go_wp2_with fail
     refine (notShard6_any _ ls[k] _ HX.out).mono ?_
     rw [HB.out]
     rintro e w' ⟨rfl, rfl⟩
     go_wp2_with fail
     go_ret
     exact ⟨⟨k, rfl, by rw [allNot hlt HB.out]; simp⟩, rfl⟩
  · have hs := Lib.hid (allEnd hk hlt hr.out)
    clear hr
    go_wp2_with fail
    go_ret
    exact ⟨⟨-1, rfl, by rw [hs.out]; simp⟩, rfl⟩
set_option maxHeartbeats 1000000 in
theorem hasShard6_any (v : Value) (ls : List (List Int)) (w : World) (hv : IRows w v ls) :
 Calls Tryz.prog 85 #[v, .func (.func 86) #[] #[]] w fun e w' => e = .returned (.bool (!(ls.all Term.okShard))) ∧ w = w' := by
 have HV := Lib.hid hv
 clear hv
 go_enter Tryz.func85, Tryz.ntmps85
 go_wp2_with fail
 refine (idxShard6_any v ls _ HV.out).mono ?_
 rintro e w' ⟨⟨i, rfl, hi⟩, rfl⟩
 go_wp2_with fail
 go_ret
 exact ⟨by rw [← hi]; rfl, rfl⟩
theorem rightNo {c : Term.C} (h : c.term < 1 ∨ 64 < c.term ∨ (c.shards.length : Int) < 1 ∨ 8 < (c.shards.length : Int)) : Term.right c = false := by
 rw [← Bool.not_eq_true]
 intro g
 have := Term.right_ok g
 omega
theorem rightYes {c : Term.C} (h1 : ¬ c.term < 1) (h2 : ¬ 64 < c.term) (h3 : ¬ (c.shards.length : Int) < 1) (h4 : ¬ 8 < (c.shards.length : Int)) :
 Term.right c = (c.shards.all Term.okShard && (decide (c.seqs.length = 1 ∨ c.seqs.length = 3 ∨ c.seqs.length = 5 ∨ c.seqs.length = 7) && Term.unlike c.seqs)) := by
 unfold Term.right
 rw [decide_eq_true (by omega), Bool.true_and]
theorem rightEven {c : Term.C} (h : decide (c.seqs.length % 2 = 0) = true) : Term.right c = false := by
 rw [← Bool.not_eq_true]
 intro g
 have := (Term.right_ok g).2.2.2.1
 rw [decide_eq_true_eq] at h
 omega
theorem rightOdd {c : Term.C} (h : decide (c.seqs.length % 2 = 0) = false) : decide (c.seqs.length = 1 ∨ c.seqs.length = 3 ∨ c.seqs.length = 5 ∨ c.seqs.length = 7) = decide (1 ≤ c.seqs.length ∧ c.seqs.length ≤ 7) := by
 rw [decide_eq_false_iff_not] at h
 rw [decide_eq_decide]
 omega
set_option maxHeartbeats 4000000 in
theorem right6_any (v : Value) (c : Term.C) (w : World) (hv : IsConf w v c) :
 Calls Tryz.prog 36 #[v] w fun x w' => x = .returned (.bool (Term.right c)) ∧ Ext w w' := by
 have hbx := box_conf
 obtain ⟨s, d, rfl, hs, hd⟩ := hv
 obtain ⟨t, S, D⟩ := c
 unfold confV
 simp only at hs hd ⊢
 have HS := Lib.hid hs
 have HD := Lib.hid hd
 obtain ⟨a, cap, rfl, hcap, hmax, _, _⟩ := hs.open
 obtain ⟨a2, cap2, rfl, hcap2, hmax2, _⟩ := hd.open
 unfold maxLen at hmax hmax2
 clear hs hd
 have hE0 : Ext w (w.alloc (.cells #[.int .i64 t, .slice a S.length cap, .slice a2 D.length cap2] 43)) := Ext.alloc _ _
 by_cases g1 : t < 1
 · have HR := Lib.hid (rightNo (c := ⟨t, S, D⟩) (.inl g1))
   go_enter Tryz.func36, Tryz.ntmps36
   go_wp2_with fail
   go_ret
   exact ⟨by rw [HR.out]; rfl, hE0⟩
 by_cases g2 : 64 < t
 · have HR := Lib.hid (rightNo (c := ⟨t, S, D⟩) (.inr (.inl g2)))
   go_enter Tryz.func36, Tryz.ntmps36
   go_wp2_with fail
   go_ret
   exact ⟨by rw [HR.out]; rfl, hE0⟩
 by_cases g3 : (D.length : Int) < 1
 · have HR := Lib.hid (rightNo (c := ⟨t, S, D⟩) (.inr (.inr (.inl g3))))
   go_enter Tryz.func36, Tryz.ntmps36
   go_wp2_with fail
   go_ret
   exact ⟨by rw [HR.out]; rfl, hE0⟩
 by_cases g4 : 8 < (D.length : Int)
 · have HR := Lib.hid (rightNo (c := ⟨t, S, D⟩) (.inr (.inr (.inr g4))))
   go_enter Tryz.func36, Tryz.ntmps36
   go_wp2_with fail
   go_ret
   exact ⟨by rw [HR.out]; rfl, hE0⟩
 have HY := Lib.hid (rightYes (c := ⟨t, S, D⟩) g1 g2 g3 g4)
 cases he : decide (S.length % 2 = 0) with
 | true =>
  have HR := Lib.hid (rightEven (c := ⟨t, S, D⟩) he)
  have HE := Lib.hid he
  clear he
  go_enter Tryz.func36, Tryz.ntmps36
  go_wp2_with fail
  refine (isEven6_any _ S _ (HS.out.below hE0)).mono ?_
  rw [HE.out]
  rintro e w' ⟨rfl, rfl⟩
  go_wp2_with fail
  go_ret
  exact ⟨by rw [HR.out]; rfl, hE0⟩
 | false =>
  have HO := Lib.hid (rightOdd (c := ⟨t, S, D⟩) he)
  have HE := Lib.hid he
  clear he
  cases hn : (decide (1 ≤ S.length ∧ S.length ≤ 7) && Term.unlike S) with
  | false =>
   have HN := Lib.hid hn
   have HR := Lib.hid (show Term.right ⟨t, S, D⟩ = false by rw [HY.out, HO.out, HN.out, Bool.and_false])
   clear hn
   go_enter Tryz.func36, Tryz.ntmps36
   go_wp2_with fail
   refine (isEven6_any _ S _ (HS.out.below hE0)).mono ?_
   rw [HE.out]
   rintro e w' ⟨rfl, rfl⟩
   go_wp2_with fail
   refine (areNodes6_any _ S 7 _ (HS.out.below hE0) (by omega)).mono ?_
   rw [HN.out]
   rintro e w' ⟨rfl, rfl⟩
   go_wp2_with fail
   go_ret
   exact ⟨by rw [HR.out]; rfl, hE0⟩
  | true =>
   have HN := Lib.hid hn
   have HR := Lib.hid (show Term.right ⟨t, S, D⟩ = D.all Term.okShard by rw [HY.out, HO.out, HN.out, Bool.and_true])
   clear hn
   go_enter Tryz.func36, Tryz.ntmps36
   go_wp2_with fail
   refine (isEven6_any _ S _ (HS.out.below hE0)).mono ?_
   rw [HE.out]
   rintro e w' ⟨rfl, rfl⟩
   go_wp2_with fail
   refine (areNodes6_any _ S 7 _ (HS.out.below hE0) (by omega)).mono ?_
   rw [HN.out]
   rintro e w' ⟨rfl, rfl⟩
   go_wp2_with fail
   refine (hasShard6_any _ D _ (HD.out.below hE0)).mono ?_
   rintro e w' ⟨rfl, rfl⟩
   go_wp2_with fail
   go_ret
   exact ⟨by rw [HR.out]; cases D.all Term.okShard <;> rfl, hE0⟩
theorem shardNot {l : List Int} (h : (l.length : Int) < 1 ∨ 3 < (l.length : Int) ∨ Term.unlike l = false) : Term.okShard l = false := by
 rw [← Bool.not_eq_true]
 intro g
 have := Term.shard_ok g
 rcases h with h | h | h
 · omega
 · omega
 · rw [this.2.2] at h; cases h
theorem shardYes {l : List Int} (h1 : ¬ (l.length : Int) < 1) (h2 : ¬ 3 < (l.length : Int)) (h3 : Term.unlike l = true) : Term.okShard l = true := by
 unfold Term.okShard
 rw [h3, Bool.and_true, decide_eq_true_eq]
 omega
def odd7 (n : Int) : Bool := (n == 1 || n == 3) || (n == 5 || n == 7)
theorem odd7_eq (n : Nat) : decide (n = 1 ∨ n = 3 ∨ n = 5 ∨ n = 7) = odd7 n := by
 unfold odd7
 rw [Bool.eq_iff_iff, decide_eq_true_eq]
 simp only [Bool.or_eq_true, beq_iff_eq]
 omega
set_option maxHeartbeats 8000000 in
theorem refRight6_any (v : Value) (c : Term.C) (w : World) (hv : IsConf w v c) :
 Calls Tryz.prog 89 #[v] w fun x w' => x = .returned (.bool (Term.right c)) ∧ Ext w w' := by
 have hbx := box_confR
 obtain ⟨s, d, rfl, hs, hd⟩ := hv
 obtain ⟨t, S, D⟩ := c
 unfold confV
 simp only at hs hd ⊢
 have HS := Lib.hid hs
 have HD := Lib.hid hd
 obtain ⟨a, cap, rfl, hcap, hmax, _, _⟩ := hs.open
 obtain ⟨a2, cap2, rfl, hcap2, hmax2, _⟩ := hd.open
 unfold maxLen at hmax hmax2
 clear hs hd
 have hE0 : Ext w (w.alloc (.cells #[.int .i64 t, .slice a S.length cap, .slice a2 D.length cap2] 33)) := Ext.alloc _ _
 have HA0 := Lib.hid (ConfAt.new 33 w t (.slice a S.length cap) (.slice a2 D.length cap2))
 by_cases g1 : t < 1
 · have HR := Lib.hid (rightNo (c := ⟨t, S, D⟩) (.inl g1))
   go_enter Tryz.func89, Tryz.ntmps89
   go_wp2_with fail
   go_ret
   exact ⟨by rw [HR.out]; rfl, hE0⟩
 by_cases g2 : 64 < t
 · have HR := Lib.hid (rightNo (c := ⟨t, S, D⟩) (.inr (.inl g2)))
   go_enter Tryz.func89, Tryz.ntmps89
   go_wp2_with fail
   go_ret
   exact ⟨by rw [HR.out]; rfl, hE0⟩
 by_cases g3 : (D.length : Int) < 1
 · have HR := Lib.hid (rightNo (c := ⟨t, S, D⟩) (.inr (.inr (.inl g3))))
   go_enter Tryz.func89, Tryz.ntmps89
   go_wp2_with fail
   go_ret
   exact ⟨by rw [HR.out]; rfl, hE0⟩
 by_cases g4 : 8 < (D.length : Int)
 · have HR := Lib.hid (rightNo (c := ⟨t, S, D⟩) (.inr (.inr (.inr g4))))
   go_enter Tryz.func89, Tryz.ntmps89
   go_wp2_with fail
   go_ret
   exact ⟨by rw [HR.out]; rfl, hE0⟩
 have HY := Lib.hid (rightYes (c := ⟨t, S, D⟩) g1 g2 g3 g4)
 go_enter Tryz.func89, Tryz.ntmps89
 go_wp2_with fail
 generalize hw0 : w.alloc (.cells #[.int .i64 t, .slice a S.length cap, .slice a2 D.length cap2] 33) = w0 at *
 generalize hq : w.heap.size = q at *
 have HQ := Lib.hid hq
 have HW0 := Lib.hid hw0
 clear hq hw0
 go_loopw [3] (fun i wr => ∃ k : Nat, k ≤ D.length ∧ i = .int .i64 k ∧ Hid ((D.take k).all Term.okShard = true) ∧ Ext w0 wr) (fun i _ => D.length - (intOf i).toNat)
 case atStart => exact ⟨0, by omega, rfl, by simp [Hid], Ext.refl _⟩
 case round =>
  obtain ⟨k, hk, rfl, hr, hE⟩ := hrel
  obtain ⟨c0, c1, c2⟩ := (HA0.out.ext hE).cells
  by_cases hlt : k < D.length
  · obtain ⟨a', cap', e', _, _, hc⟩ := ((HD.out.below hE0).below hE).open
    obtain ⟨b, off, x, rfl, hcell, hx⟩ := hc k hlt
    injection e' with e1 e2 e3
    subst e1
    clear hc e2 e3
    have HX := Lib.hid hx
    obtain ⟨ax, cx, rfl, hcx, hmx, _⟩ := hx.open
    unfold maxLen at hmx
    clear hx
    by_cases s1 : (D[k].length : Int) < 1
    · have HB := Lib.hid (shardNot (.inl s1))
      have HR := Lib.hid (show Term.right ⟨t, S, D⟩ = false by rw [HY.out, allNot hlt HB.out, Bool.false_and])
      go_wp2_with fail
      go_ret
      exact ⟨by rw [HR.out]; rfl, hE0.trans hE⟩
    by_cases s2 : 3 < (D[k].length : Int)
    · have HB := Lib.hid (shardNot (.inr (.inl s2)))
      have HR := Lib.hid (show Term.right ⟨t, S, D⟩ = false by rw [HY.out, allNot hlt HB.out, Bool.false_and])
      go_wp2_with fail
      go_ret
      exact ⟨by rw [HR.out]; rfl, hE0.trans hE⟩
    cases hu : Term.unlike D[k] with
    | false =>
     have HU := Lib.hid hu
     have HB := Lib.hid (shardNot (.inr (.inr hu)))
     have HR := Lib.hid (show Term.right ⟨t, S, D⟩ = false by rw [HY.out, allNot hlt HB.out, Bool.false_and])
     clear hu
     go_wp2_with fail
     refine (refUnlike6_any _ D[k] _ HX.out).mono ?_
     rw [HU.out]
     rintro e w' ⟨rfl, hE2⟩
     go_wp2_with fail
     go_ret
     exact ⟨by rw [HR.out]; rfl, (hE0.trans hE).trans hE2⟩
    | true =>
     have HU := Lib.hid hu
     have HB := Lib.hid (shardYes s1 s2 hu)
     clear hu
     go_wp2_with fail
     refine (refUnlike6_any _ D[k] _ HX.out).mono ?_
     rw [HU.out]
     rintro e w' ⟨rfl, hE2⟩
     go_wp2_with fail
     go_roundw
     case rel => exact ⟨k + 1, by omega, by go_num, allSucc hlt hr.out HB.out, hE.trans hE2⟩
     case measure => simp [intOf]; omega
  · have hs := Lib.hid (allEnd hk hlt hr.out)
    have HY2 := Lib.hid (show Term.right ⟨t, S, D⟩ = (odd7 S.length && Term.unlike S) by rw [HY.out, hs.out, Bool.true_and, odd7_eq])
    clear hr
    have hE1 := hE0.trans hE
    have HS1 := Lib.hid (HS.out.below hE1)
    go_wp2_with fail
    all_goals first
     | (refine (refUnlike6_any _ S _ HS1.out).mono ?_
        rintro e w' ⟨rfl, hE2⟩
        go_wp2_with fail
        go_ret
        exact ⟨by rw [HY2.out, show odd7 (S.length : Int) = true from by rw [← odd7_eq, decide_eq_true_eq]; omega, Bool.true_and]; rfl, hE1.trans hE2⟩)
     | (go_ret
        exact ⟨by rw [HY2.out, show odd7 (S.length : Int) = false from by rw [← odd7_eq, decide_eq_false_iff_not]; omega, Bool.false_and]; rfl, hE1⟩)
def GivesEnc6 (w : World) (c : Term.C) (x : Ending) (w' : World) : Prop := ∃ u, x = .returned (.tuple #[u, .int .i64 (orErr 60 (Term.right c))]) ∧ Bytes w' u (bytesOr (Term.right c) (Term.enc c)) ∧ Ext w w'
def OwnsEnc6 (w : World) (c : Term.C) (x : Ending) (w' : World) : Prop := ∃ u, x = .returned (.tuple #[u, .int .i64 0]) ∧ w'.ownsRow w.heap.size 5 1 u (Term.enc c).length (u8s (Term.enc c)) ∧ Ext w w'
theorem row6 (ns : List Int) : Term.row ns = nums [(ns.length : Int)] ++ nums ns := by unfold Term.row; simp [nums, Rec.numsOf]
theorem okRow {ns : List Int} (h : ∀ x ∈ ns, 0 ≤ x ∧ x ≤ 15) : ns.all okNum = true := by
 rw [List.all_eq_true]
 intro x hx
 exact okNumOf (by have := h x hx; omega)
theorem okOne {n : Int} (h : 0 ≤ n ∧ n ≤ 4611686018427387904) : [n].all okNum = true := by
 simp only [List.all_cons, List.all_nil, Bool.and_true]
 exact okNumOf h
theorem oneLen {n : Int} (h : 0 ≤ n ∧ n ≤ 4611686018427387904) : (nums [n]).length ≤ 9 := by
 have := nums_le [n] (okOne h)
 simpa using this
set_option maxHeartbeats 4000000 in
theorem addRow6_any (v u : Value) (l : List UInt8) (ns : List Int) (w : World) (hv : Bytes w v l) (hu : Ints w u ns) (hl : l.length ≤ 10000) (hn : ns.length ≤ 100) (hok : ∀ x ∈ ns, 0 ≤ x ∧ x ≤ 15) :
 Calls Tryz.prog 118 #[v, u] w (GivesOwn w.heap.size w (l ++ Term.row ns)) := by
 have HV := Lib.hid hv
 have HU := Lib.hid hu
 obtain ⟨a, cap, rfl, hcap, hmax, _, _⟩ := hu.open
 unfold maxLen at hmax
 have HO1 := Lib.hid (okOne (n := (ns.length : Int)) (by omega))
 have HO2 := Lib.hid (okRow hok)
 have HL1 := Lib.hid (oneLen (n := (ns.length : Int)) (by omega))
 have HR := Lib.hid (row6 ns)
 clear hv hu hok
 go_enter Tryz.func118, Tryz.ntmps118
 go_wp2_with fail
 refine (packNum_any v _ l [(ns.length : Int)] _ (HV.out.below (Ext.alloc _ _)) (Ints.one w _) (by omega) (by simp)).mono ?_
 rw [HO1.out, if_pos rfl]
 rintro e w1 ⟨v1, rfl, ho1, hE1⟩
 have hE1' : Ext w w1 := (Ext.alloc _ _).trans hE1
 go_wp2_with fail
 refine (packNum_any v1 _ _ ns _ ho1.bytes (HU.out.below hE1') (by rw [List.length_append]; have := HL1.out; omega) (by omega)).mono ?_
 rw [HO2.out, if_pos rfl]
 rintro e w2 ⟨v2, rfl, ho2, hE2⟩
 go_wp2_with fail
 go_ret
 refine ⟨v2, rfl, ?_, hE1'.trans hE2⟩
 rw [HR.out, ← List.append_assoc]
 exact rowLower ho2 hE1'.size
theorem rowSmall {l : List Int} (h : Term.unlike l = true) (h7 : l.length ≤ 7) : (∀ x ∈ l, 0 ≤ x ∧ x ≤ 15) ∧ (Term.row l).length ≤ 72 := by
 have h1 := (Term.unlike_ok h).1
 exact ⟨h1, by have := Term.row_le h1 (by omega); omega⟩
set_option maxHeartbeats 4000000 in
theorem encode6_own (v : Value) (c : Term.C) (w : World) (hv : IsConf w v c) (hr : Term.right c = true) : Calls Tryz.prog 71 #[v] w (OwnsEnc6 w c) := by
 have hbx := box_conf
 have hr5 := fun w1 hv => right6_any v c w1 hv
 have HV := Lib.hid hv
 obtain ⟨s, d, rfl, hs, hd⟩ := hv
 obtain ⟨t, S, D⟩ := c
 unfold confV at *
 simp only at hs hd hr5 ⊢
 have HS := Lib.hid hs
 have HD := Lib.hid hd
 obtain ⟨a, cap, rfl, hcap, hmax, _, _⟩ := hs.open
 obtain ⟨a2, cap2, rfl, hcap2, hmax2, _⟩ := hd.open
 unfold maxLen at hmax hmax2
 clear hs hd
 have hE0 : Ext w (w.alloc (.cells #[.int .i64 t, .slice a S.length cap, .slice a2 D.length cap2] 43)) := Ext.alloc _ _
 have HA0 := Lib.hid (ConfAt.new 43 w t (.slice a S.length cap) (.slice a2 D.length cap2))
 unfold OwnsEnc6
 have HR := Lib.hid hr
 obtain ⟨q1, q2, q3, q4, q5⟩ := Term.right_ok hr
 simp only at q1 q2 q3 q4 q5
 have HQ3 := Lib.hid q3
 obtain ⟨s1, s2⟩ := rowSmall q5 (by omega)
 have HO1 := Lib.hid (okOne (n := t) (by omega))
 have HO2 := Lib.hid (okOne (n := (D.length : Int)) (by omega))
 have HL1 := Lib.hid (oneLen (n := t) (by omega))
 have HL2 := Lib.hid (oneLen (n := (D.length : Int)) (by omega))
 have HS1 := Lib.hid s1
 have HS2 := Lib.hid s2
 have HT := Lib.hid (show Term.text ⟨t, S, D⟩ = ((nums [t] ++ Term.row S) ++ nums [(D.length : Int)]) ++ Term.rowsOf D by unfold Term.text; simp [nums])
 have HLE := Lib.hid (Term.enc_le hr)
 have hSl : S.length ≤ 7 := by omega
 clear hr q3 q4 q5 s1 s2
 go_enter Tryz.func71, Tryz.ntmps71
 go_wp2_with fail
 refine (hr5 _ (HV.out.below hE0)).mono ?_
 rw [HR.out]
 rintro e w1 ⟨rfl, hE1⟩
 have a1 := Lib.hid (HA0.out.ext hE1)
 obtain ⟨c0, c1, c2⟩ := a1.out.cells
 have e1 := hE0.trans hE1
 go_wp2_with fail
 refine (packNum_any (.slice none 0 0) _ [] [t] _ (bytes_none _) (Ints.one w1 _) (by simp) (by simp)).mono ?_
 rw [HO1.out, if_pos rfl, List.nil_append]
 rintro e w2 ⟨v2, rfl, ho2, hE2⟩
 have hE2' : Ext w1 w2 := (Ext.alloc _ _).trans hE2
 have a2 := Lib.hid (a1.out.ext hE2')
 clear c0 c1 c2
 obtain ⟨c0, c1, c2⟩ := a2.out.cells
 have e2 := e1.trans hE2'
 go_wp2_with fail
 refine (addRow6_any v2 _ _ S _ ho2.bytes (HS.out.below e2) (by have := HL1.out; omega) (by omega) HS1.out).mono ?_
 rintro e w3 ⟨v3, rfl, ho3, hE3⟩
 have e3 := e2.trans hE3
 have a3 := Lib.hid (a2.out.ext hE3)
 clear c0 c1 c2
 obtain ⟨c0, c1, c2⟩ := a3.out.cells
 have hL3 := Lib.hid (show (nums [t] ++ Term.row S).length ≤ 100 by rw [List.length_append]; have := HL1.out; have := HS2.out; omega)
 go_wp2_with fail
 refine (packNum_any v3 _ _ [(D.length : Int)] _ (ho3.bytes.below (Ext.alloc _ _)) (Ints.one w3 _) (by have := hL3.out; omega) (by simp)).mono ?_
 rw [HO2.out, if_pos rfl]
 rintro e w4 ⟨v4, rfl, ho4, hE4⟩
 have hE4' : Ext w3 w4 := (Ext.alloc _ _).trans hE4
 have e4 := e3.trans hE4'
 have a4 := Lib.hid (a3.out.ext hE4')
 clear c0 c1 c2
 obtain ⟨c0, c1, c2⟩ := a4.out.cells
 obtain ⟨B, hB⟩ : ∃ B, (nums [t] ++ Term.row S) ++ nums [(D.length : Int)] = B := ⟨_, rfl⟩
 have hBl : B.length ≤ 109 := by rw [← hB, List.length_append]; have := hL3.out; have := HL2.out; omega
 rw [hB] at ho4 HT
 have hO4 := Lib.hid (show Own w4 w.heap.size v4 (B ++ Term.rowsOf (D.take 0)) by
  rw [List.take_zero, show Term.rowsOf [] = [] from rfl, List.append_nil]; exact rowLower ho4 (Nat.le_trans e3.size (Ext.alloc w3 _).size))
 clear hB ho4 ho3 ho2 hE0 HA0 hE1
 go_wp2_with fail
 go_loopw [4, 7, 34] (fun b _ i wr => ∃ k : Nat, k ≤ D.length ∧ i = .int .i64 k ∧ Hid (Own wr w.heap.size b (B ++ Term.rowsOf (D.take k))) ∧ Ext w4 wr) (fun _ _ i _ => D.length - (intOf i).toNat)
 case atStart => exact ⟨0, by omega, rfl, hO4.out, Ext.refl _⟩
 case round =>
  obtain ⟨k, hk, rfl, ho, hE⟩ := hrel
  clear c0 c1 c2
  have HLk := Lib.hid (show (Term.rowsOf (D.take k)).length ≤ 288 by
   have := Term.rowsOf_le (D.take k) (fun l hl => HQ3.out l (List.mem_of_mem_take hl))
   rw [List.length_take] at this
   omega)
  by_cases hlt : k < D.length
  · obtain ⟨a', cap', e', _, _, hc⟩ := ((HD.out.below e4).below hE).open
    obtain ⟨b, off, x, rfl, hcell, hx⟩ := hc k hlt
    injection e' with e1 e2 e3
    subst e1
    clear hc e2 e3
    have HX := Lib.hid hx
    obtain ⟨ax, cx, rfl, hcx, hmx, _⟩ := hx.open
    unfold maxLen at hmx
    clear hx
    obtain ⟨p1, p2, p3⟩ := Term.shard_ok (HQ3.out _ (List.getElem_mem hlt))
    have HP := Lib.hid (Term.unlike_ok p3).1
    have HTK := Lib.hid (show D.take (k + 1) = D.take k ++ [D[k]] from take_succ_getD D k hlt)
    clear p3
    go_wp2_with fail
    refine (addRow6_any _ _ _ D[k] _ ho.out.bytes HX.out (by rw [List.length_append]; have := HLk.out; omega) (by omega) HP.out).mono ?_
    rintro e w5 ⟨v5, rfl, ho5, hE5⟩
    go_wp2_with fail
    go_roundw
    case rel =>
     refine ⟨k + 1, by omega, by go_num, ?_, hE.trans hE5⟩
     show Own _ _ _ _
     rw [HTK.out, Term.rowsOf_snoc, ← List.append_assoc]
     exact rowLower ho5 (Nat.le_trans e4.size hE.size)
    case measure => simp [intOf]; omega
  · have HK := Lib.hid (show D.take k = D from List.take_of_length_le (by omega))
    rw [HK.out] at ho HLk
    have e5 := e4.trans hE
    go_wp2_with fail
    refine (new_any _).mono ?_
    rintro e w6 ⟨rfl, ht6, hE6⟩
    have e6 := e5.trans hE6
    go_wp2_with fail
    refine (put_own _ 0 0 _ _ _ ht6 (.inl rfl) (ho.out.bytes.below hE6) (by rw [List.length_append]; have := HLk.out; omega)).mono ?_
    rintro e w7 ⟨v7, d7, rfl, ho7, hB7, hd7, ht7⟩
    have e7 : Ext w w7 := Below.trans (B := w.heap.size) e6 (hB7.below e5.size (Nat.le_trans e5.size hE6.size))
    go_wp2_with fail
    go_ret2
    refine ⟨_, rfl, ?_, e7⟩
    unfold Term.enc
    rw [HT.out]
    exact rowLower ho7 e6.size
theorem numsTake {ns : List Int} (h : ∀ x ∈ ns, 0 ≤ x ∧ x ≤ 15) (hn : ns.length ≤ 100) (k : Nat) : (Pack.num ns.length ++ Rec.numsOf (ns.take k)).length ≤ 909 := by
 have h2 : ∀ x ∈ ns.take k, 0 ≤ x ∧ x ≤ 15 := fun x hx => h x (List.mem_of_mem_take hx)
 have hl : (ns.take k).length ≤ 100 := by rw [List.length_take]; omega
 have h1 := Term.row_le h2 hl
 unfold Term.row at h1
 rw [List.length_append] at h1 ⊢
 have := Pack.num_nine (n := ns.length) (by omega)
 have := nums_le (ns.take k) (okRow h2)
 have e : Rec.numsOf (ns.take k) = nums (ns.take k) := rfl
 rw [e]
 omega
set_option maxHeartbeats 4000000 in
theorem refRow6_any (v : Value) (ns : List Int) (w : World) (hv : Ints w v ns) (hn : ns.length ≤ 100) (hok : ∀ x ∈ ns, 0 ≤ x ∧ x ≤ 15) :
 Calls Tryz.prog 121 #[v] w fun e w' => e = .returned (.string ⟨(Term.row ns).toArray⟩) ∧ Ext w w' := by
 have HV := Lib.hid hv
 obtain ⟨a, cap, rfl, hcap, hmax, _, _⟩ := hv.open
 unfold maxLen at hmax
 have HOK := Lib.hid hok
 have HON := Lib.hid (oneNumOf (n := (ns.length : Int)) (by omega))
 have HST := Lib.hid (fun k => numsTake hok hn k)
 clear hv hok
 go_enter Tryz.func121, Tryz.ntmps121
 go_wp2_with fail
 refine (numRef_any _ _).mono ?_
 rw [HON.out]
 rintro e w1 ⟨rfl, hE1⟩
 go_wp2_with fail
 go_loopw [3, 4] (fun o i wr => ∃ k : Nat, k ≤ ns.length ∧ i = .int .i64 k ∧ Hid (o = .string ⟨(Pack.num ns.length ++ Rec.numsOf (ns.take k)).toArray⟩) ∧ Ext w wr) (fun _ i _ => ns.length - (intOf i).toNat)
 case atStart => exact ⟨0, by omega, rfl, by simp [Hid, Rec.numsOf], hE1⟩
 case round =>
  obtain ⟨k, hk, rfl, ho, hE⟩ := hrel
  have ho' := ho.out
  have hlO := HST.out k
  by_cases hlt : k < ns.length
  · obtain ⟨a', cap', e', _, _, _, hc⟩ := (HV.out.below hE).open
    obtain ⟨b, off, rfl, hcell⟩ := hc k hlt
    injection e' with e1 e2 e3
    subst e1
    clear hc e2 e3
    have hx := HOK.out _ (List.getElem_mem hlt)
    have HN := Lib.hid (oneNumOf (n := ns[k]) (by omega))
    have hln := Pack.num_nine (n := ns[k].toNat) (by omega)
    have HTK := Lib.hid (show Pack.num ns.length ++ Rec.numsOf (ns.take (k + 1)) = (Pack.num ns.length ++ Rec.numsOf (ns.take k)) ++ Pack.num ns[k].toNat by rw [take_succ_getD ns k hlt, Rec.numsOf_snoc, List.append_assoc])
    obtain ⟨O, hO⟩ : ∃ O, Pack.num ns.length ++ Rec.numsOf (ns.take k) = O := ⟨_, rfl⟩
    rw [hO] at ho' hlO HTK
    obtain ⟨B, hB⟩ : ∃ B, Pack.num ns[k].toNat = B := ⟨_, rfl⟩
    rw [hB] at HTK HN hln
    subst ho'
    have hsO := str_len O
    have hsB := str_len B
    obtain ⟨T, hT⟩ : ∃ T, O ++ B = T := ⟨_, rfl⟩
    have hadd := mk_append O B
    rw [hT] at hadd HTK
    clear ho hO hB hT
    go_wp2_with fail
    refine (numRef_any _ _).mono ?_
    rw [HN.out]
    rintro e w2 ⟨rfl, hE2⟩
    go_wp2_with fail
    go_roundw
    case rel => exact ⟨k + 1, by omega, by go_num, by show _ = _; rw [HTK.out], hE.trans hE2⟩
    case measure => simp [intOf]; omega
  · have HK := Lib.hid (show ns.take k = ns from List.take_of_length_le (by omega))
    rw [HK.out] at ho'
    subst ho'
    clear ho hlO
    go_wp2_with fail
    go_ret
    exact ⟨rfl, hE⟩
set_option maxHeartbeats 8000000 in
theorem refEncode6_any (v : Value) (c : Term.C) (w : World) (hv : IsConf w v c) : Calls Tryz.prog 74 #[v] w (GivesEnc6 w c) := by
 have hbx := box_confR
 have hr5 := fun w1 hv => refRight6_any v c w1 hv
 have HV := Lib.hid hv
 obtain ⟨s, d, rfl, hs, hd⟩ := hv
 obtain ⟨t, S, D⟩ := c
 unfold confV at *
 simp only at hs hd hr5 ⊢
 have HS := Lib.hid hs
 have HD := Lib.hid hd
 obtain ⟨a, cap, rfl, hcap, hmax, _, _⟩ := hs.open
 obtain ⟨a2, cap2, rfl, hcap2, hmax2, _⟩ := hd.open
 unfold maxLen at hmax hmax2
 clear hs hd
 have hE0 : Ext w (w.alloc (.cells #[.int .i64 t, .slice a S.length cap, .slice a2 D.length cap2] 33)) := Ext.alloc _ _
 have HA0 := Lib.hid (ConfAt.new 33 w t (.slice a S.length cap) (.slice a2 D.length cap2))
 unfold GivesEnc6
 cases hr : Term.right ⟨t, S, D⟩ with
 | false =>
  have HR := Lib.hid hr
  clear hr
  go_enter Tryz.func74, Tryz.ntmps74
  go_wp2_with fail
  refine (hr5 _ (HV.out.below hE0)).mono ?_
  rw [HR.out]
  rintro e w1 ⟨rfl, hE1⟩
  go_wp2_with fail
  go_ret2
  exact ⟨_, rfl, bytes_none _, hE0.trans hE1⟩
 | true =>
  have HR := Lib.hid hr
  obtain ⟨q1, q2, q3, q4, q5⟩ := Term.right_ok hr
  simp only at q1 q2 q3 q4 q5
  have HQ3 := Lib.hid q3
  obtain ⟨s1, s2⟩ := rowSmall q5 (by omega)
  have HS1 := Lib.hid s1
  have hSl : S.length ≤ 7 := by omega
  have HLE := Lib.hid (Term.enc_le hr)
  obtain ⟨A, hA⟩ : ∃ A, Pack.num t.toNat = A := ⟨_, rfl⟩
  obtain ⟨B, hB⟩ : ∃ B, Term.row S = B := ⟨_, rfl⟩
  obtain ⟨C, hC⟩ : ∃ C, Pack.num D.length = C := ⟨_, rfl⟩
  obtain ⟨X, hX⟩ : ∃ X, A ++ B = X := ⟨_, rfl⟩
  obtain ⟨Y, hY⟩ : ∃ Y, X ++ C = Y := ⟨_, rfl⟩
  have o1 : oneNum t = A := by rw [← hA]; exact oneNumOf (by omega)
  have o3 : oneNum (D.length : Int) = C := by rw [← hC]; exact oneNumOf (by omega)
  have n1 : A.length ≤ 9 := by rw [← hA]; exact Pack.num_nine (by omega)
  have n2 : B.length ≤ 72 := by rw [← hB]; exact s2
  have n3 : C.length ≤ 9 := by rw [← hC]; exact Pack.num_nine (by omega)
  have nX : X.length ≤ 81 := by rw [← hX, List.length_append]; omega
  have nY : Y.length ≤ 90 := by rw [← hY, List.length_append]; omega
  have HO1 := Lib.hid o1
  have HO3 := Lib.hid o3
  have HROW := Lib.hid (fun (wy : World) (h : Ext w wy) => hB ▸ refRow6_any _ S wy (HS.out.below h) (by omega) s1)
  have HTX := Lib.hid (show Term.text ⟨t, S, D⟩ = Y ++ Term.rowsOf D by unfold Term.text; simp only; rw [hA, hB, hC, ← hY, ← hX]; simp)
  have HX := Lib.hid hX
  have HY := Lib.hid hY
  have hsA := str_len A
  have hsB := str_len B
  have hsC := str_len C
  have hsX := str_len X
  have hsY := str_len Y
  clear o1 o3 hA hB hC hX hY hr s1 s2 q3 q4 q5
  go_enter Tryz.func74, Tryz.ntmps74
  go_wp2_with fail
  refine (hr5 _ (HV.out.below hE0)).mono ?_
  rw [HR.out]
  rintro e w1 ⟨rfl, hE1⟩
  have a1 := Lib.hid (HA0.out.ext hE1)
  have e1 := hE0.trans hE1
  go_wp2_with fail
  generalize hqq : w.heap.size = q at *
  have HQQ := Lib.hid hqq
  clear hqq
  refine wp_region_facts (by kernel_rfl) Ext (fun iop v w => match iop with
   | 0 => v = .pointer (some ⟨q, 0, none⟩)
   | 1 => v = .int .i64 t
   | 2 => v = .string ⟨A.toArray⟩
   | 3 => v = .pointer (some ⟨q, 1, none⟩)
   | 4 => v = .slice a S.length cap
   | 5 => v = .string ⟨B.toArray⟩
   | 6 => v = .string ⟨X.toArray⟩
   | 7 => v = .pointer (some ⟨q, 2, none⟩)
   | 8 => v = .slice a2 D.length cap2
   | 9 => v = .int .i64 (D.length : Int)
   | 10 => v = .string ⟨C.toArray⟩
   | 11 => v = .string ⟨Y.toArray⟩
   | _ => v = .string ⟨Y.toArray⟩
   ) (by kernel_rfl) (fun _ _ _ h k => Ext.trans h k) (fun a => Ext.refl a) (Ext.drew _) ?_ ?_ ?_
  · intro iop v wa wb hF hL
    iterate 12 (rcases iop with _ | iop; exact hF)
    exact hF
  · refine Obls.cons ?_ (Obls.cons ?_ (Obls.cons ?_ (Obls.cons ?_ (Obls.cons ?_ (Obls.cons ?_ (Obls.cons ?_ (Obls.cons ?_ (Obls.cons ?_ (Obls.cons ?_ (Obls.cons ?_ (Obls.cons ?_ (Obls.cons ?_ (Obls.nil)))))))))))))
    · intro ev wy hp hl hk hd
      have e1 : ev (.tmp 1) = .pointer (some ⟨q, 0, none⟩) := hk 1 (by decide)
      clear hk hd
      exact Yield.op (v := .pointer (some ⟨q, 0, none⟩)) (w' := wy) (by simp [execOp, go_sem, e1]) ⟨Ext.refl _, rfl⟩
    · intro ev wy hp hl hk hd
      have e9 : ev (.tmp 9) = .pointer (some ⟨q, 0, none⟩) := hk 9 (by decide)
      clear hk hd
      exact Yield.load rfl e9 (ldInt (a1.out.ext hl).cells.1) ⟨Ext.refl _, rfl⟩
    · intro ev wy hp hl hk hd
      have e10 : ev (.tmp 10) = .int .i64 t := hk 10 (by decide)
      clear hk hd
      refine Yield.call rfl hp Tryz.func25 rfl (by kernel_rfl) ?_
      simp only [List.map_toArray, List.map_cons, List.map_nil, e10]
      exact ((HO1.out ▸ numRef_any t wy)).mono fun _ _ ⟨he, hb⟩ => ⟨_, he, hb, by first | rfl | simp⟩
    · intro ev wy hp hl hk hd
      have e1 : ev (.tmp 1) = .pointer (some ⟨q, 0, none⟩) := hk 1 (by decide)
      clear hk hd
      exact Yield.op (v := .pointer (some ⟨q, 1, none⟩)) (w' := wy) (by simp [execOp, go_sem, e1]) ⟨Ext.refl _, rfl⟩
    · intro ev wy hp hl hk hd
      have e12 : ev (.tmp 12) = .pointer (some ⟨q, 1, none⟩) := hk 12 (by decide)
      clear hk hd
      exact Yield.load rfl e12 (ldInts (a1.out.ext hl).cells.2.1) ⟨Ext.refl _, rfl⟩
    · intro ev wy hp hl hk hd
      have e13 : ev (.tmp 13) = .slice a S.length cap := hk 13 (by decide)
      clear hk hd
      refine Yield.call rfl hp Tryz.func121 rfl (by kernel_rfl) ?_
      simp only [List.map_toArray, List.map_cons, List.map_nil, e13]
      exact ((HROW.out wy (e1.trans hl))).mono fun _ _ ⟨he, hb⟩ => ⟨_, he, hb, by first | rfl | simp⟩
    · intro ev wy hp hl hk hd
      have e11 : ev (.tmp 11) = .string ⟨A.toArray⟩ := hk 11 (by decide)
      have e14 : ev (.tmp 14) = .string ⟨B.toArray⟩ := hk 14 (by decide)
      clear hk hd
      exact Yield.op (w' := wy) (by simp [execOp, go_sem, e11, e14]; rw [if_neg (by omega), mk_append, HX.out]) ⟨Ext.refl _, rfl⟩
    · intro ev wy hp hl hk hd
      have e1 : ev (.tmp 1) = .pointer (some ⟨q, 0, none⟩) := hk 1 (by decide)
      clear hk hd
      exact Yield.op (v := .pointer (some ⟨q, 2, none⟩)) (w' := wy) (by simp [execOp, go_sem, e1]) ⟨Ext.refl _, rfl⟩
    · intro ev wy hp hl hk hd
      have e16 : ev (.tmp 16) = .pointer (some ⟨q, 2, none⟩) := hk 16 (by decide)
      clear hk hd
      exact Yield.load rfl e16 (by simp [go_sem, (a1.out.ext hl).cells.2.2]) ⟨Ext.refl _, rfl⟩
    · intro ev wy hp hl hk hd
      have e17 : ev (.tmp 17) = .slice a2 D.length cap2 := hk 17 (by decide)
      clear hk hd
      exact Yield.op (v := .int .i64 (D.length : Int)) (w' := wy) (by simp [execOp, go_sem, e17]) ⟨Ext.refl _, rfl⟩
    · intro ev wy hp hl hk hd
      have e18 : ev (.tmp 18) = .int .i64 (D.length : Int) := hk 18 (by decide)
      clear hk hd
      refine Yield.call rfl hp Tryz.func25 rfl (by kernel_rfl) ?_
      simp only [List.map_toArray, List.map_cons, List.map_nil, e18]
      exact ((HO3.out ▸ numRef_any (D.length : Int) wy)).mono fun _ _ ⟨he, hb⟩ => ⟨_, he, hb, by first | rfl | simp⟩
    · intro ev wy hp hl hk hd
      have e15 : ev (.tmp 15) = .string ⟨X.toArray⟩ := hk 15 (by decide)
      have e19 : ev (.tmp 19) = .string ⟨C.toArray⟩ := hk 19 (by decide)
      clear hk hd
      exact Yield.op (w' := wy) (by simp [execOp, go_sem, e15, e19]; rw [if_neg (by omega), mk_append, HY.out]) ⟨Ext.refl _, rfl⟩
    · intro ev wy hp hl hk hd
      have e20 : ev (.tmp 20) = .string ⟨Y.toArray⟩ := hk 20 (by decide)
      clear hk hd
      exact Yield.as rfl ⟨Ext.refl _, e20⟩
  · intro vals wz hz hv
    have g9 : vals 0 = .pointer (some ⟨q, 0, none⟩) := hv 0 (by decide)
    have g10 : vals 1 = .int .i64 t := hv 1 (by decide)
    have g11 : vals 2 = .string ⟨A.toArray⟩ := hv 2 (by decide)
    have g12 : vals 3 = .pointer (some ⟨q, 1, none⟩) := hv 3 (by decide)
    have g13 : vals 4 = .slice a S.length cap := hv 4 (by decide)
    have g14 : vals 5 = .string ⟨B.toArray⟩ := hv 5 (by decide)
    have g15 : vals 6 = .string ⟨X.toArray⟩ := hv 6 (by decide)
    have g16 : vals 7 = .pointer (some ⟨q, 2, none⟩) := hv 7 (by decide)
    have g17 : vals 8 = .slice a2 D.length cap2 := hv 8 (by decide)
    have g18 : vals 9 = .int .i64 (D.length : Int) := hv 9 (by decide)
    have g19 : vals 10 = .string ⟨C.toArray⟩ := hv 10 (by decide)
    have g20 : vals 11 = .string ⟨Y.toArray⟩ := hv 11 (by decide)
    have g4 : vals 12 = .string ⟨Y.toArray⟩ := hv 12 (by decide)
    clear hv
    simp only [putAll, Act.put, List.setIfInBounds_toArray, List.set_cons_zero, List.set_cons_succ, g9, g10, g11, g12, g13, g14, g15, g16, g17, g18, g19, g20, g4]
    clear g9
    clear g10
    clear g11
    clear g12
    clear g13
    clear g14
    clear g15
    clear g16
    clear g17
    clear g18
    clear g19
    clear g20
    clear g4
    obtain ⟨wv, hwv⟩ : ∃ wv, wv = wz := ⟨_, rfl⟩
    rw [← hwv] at hz ⊢
    clear hwv
    have a2 := Lib.hid (a1.out.ext hz)
    have e2 := e1.trans hz
    have HY0 := Lib.hid (show Y = Y ++ Term.rowsOf (D.take 0) by simp [Term.rowsOf])
    clear hz hE0 hE1 e1 HA0 a1 HV hr5 HROW
    go_wp2_with fail
    go_loopw [4, 5] (fun o i wr => ∃ k : Nat, k ≤ D.length ∧ i = .int .i64 k ∧ Hid (o = .string ⟨(Y ++ Term.rowsOf (D.take k)).toArray⟩) ∧ Ext wv wr) (fun _ i _ => D.length - (intOf i).toNat)
    case atStart => exact ⟨0, by omega, rfl, by show _ = _; rw [← HY0.out], Ext.refl _⟩
    case round =>
     obtain ⟨k, hk, rfl, ho, hE⟩ := hrel
     have ho' := ho.out
     obtain ⟨c0, c1, c2⟩ := (a2.out.ext hE).cells
     have hLk : (Term.rowsOf (D.take k)).length ≤ 288 := by
      have := Term.rowsOf_le (D.take k) (fun l hl => HQ3.out l (List.mem_of_mem_take hl))
      rw [List.length_take] at this
      omega
     by_cases hlt : k < D.length
     · obtain ⟨a', cap', e', _, _, hc⟩ := ((HD.out.below e2).below hE).open
       obtain ⟨b, off, x, rfl, hcell, hx⟩ := hc k hlt
       injection e' with e3 e4 e5
       subst e3
       clear hc e4 e5
       have HX2 := Lib.hid hx
       obtain ⟨ax, cx, rfl, hcx, hmx, _⟩ := hx.open
       unfold maxLen at hmx
       clear hx
       obtain ⟨p1, p2, p3⟩ := Term.shard_ok (HQ3.out _ (List.getElem_mem hlt))
       obtain ⟨p4, p5⟩ := rowSmall p3 (by omega)
       have HP := Lib.hid p4
       have HTK := Lib.hid (show Y ++ Term.rowsOf (D.take (k + 1)) = (Y ++ Term.rowsOf (D.take k)) ++ Term.row D[k] by rw [take_succ_getD D k hlt, Term.rowsOf_snoc, List.append_assoc])
       obtain ⟨O, hO⟩ : ∃ O, Y ++ Term.rowsOf (D.take k) = O := ⟨_, rfl⟩
       obtain ⟨R, hR⟩ : ∃ R, Term.row D[k] = R := ⟨_, rfl⟩
       have hlO : O.length ≤ 378 := by rw [← hO, List.length_append]; omega
       rw [hO] at ho' HTK
       rw [hR] at HTK p5
       have hsO := str_len O
       have hsR := str_len R
       obtain ⟨T, hT⟩ : ∃ T, O ++ R = T := ⟨_, rfl⟩
       have hadd := mk_append O R
       rw [hT] at hadd HTK
       have HRR := Lib.hid hR
       subst ho'
       clear ho hO hR hT hLk p3 p4
       go_wp2_with fail
       refine (refRow6_any _ D[k] _ HX2.out (by omega) HP.out).mono ?_
       rw [HRR.out]
       rintro e w3 ⟨rfl, hE3⟩
       go_wp2_with fail
       go_roundw
       case rel => exact ⟨k + 1, by omega, by go_num, by show _ = _; rw [HTK.out], hE.trans hE3⟩
       case measure => simp [intOf]; omega
     · have HK := Lib.hid (show D.take k = D from List.take_of_length_le (by omega))
       rw [HK.out] at ho' hLk
       obtain ⟨O, hO⟩ : ∃ O, Y ++ Term.rowsOf D = O := ⟨_, rfl⟩
       have hlO : O.length ≤ 378 := by rw [← hO, List.length_append]; omega
       rw [hO] at ho'
       have HT2 := Lib.hid (show Term.text ⟨t, S, D⟩ = O by rw [HTX.out, hO])
       subst ho'
       clear ho hO hLk
       have hcv := runConv wr O
       have hby := Lib.hid (bytesOfConv wr O 5 (by unfold maxLen; omega))
       have hsO := str_len O
       go_wp2_with fail
       refine (put_ref _ O _ hby.out (by omega)).mono ?_
       rintro e w5 ⟨v5, rfl, hb5, hE5⟩
       have e5 := ((e2.trans hE).trans (extConv _ _ _)).trans hE5
       go_wp2_with fail
       go_ret2
       refine ⟨_, rfl, ?_, e5⟩
       show Bytes w5 v5 (Term.enc _)
       unfold Term.enc
       rw [HT2.out]
       exact hb5
theorem rowsNe {a b : List (List Int)} (k : Nat) (h1 : k < a.length) (h2 : k < b.length) (h : (a[k] == b[k]) = false) : (a == b) = false := by
 rw [beq_eq_false_iff_ne] at h ⊢
 rintro rfl
 exact h rfl
theorem rowsSame {a b : List (List Int)} (hl : a.length = b.length) (h : ∀ i, i < a.length → ∀ (h1 : i < a.length) (h2 : i < b.length), (a[i] == b[i]) = true) : (a == b) = true := by
 rw [beq_iff_eq]
 exact List.ext_getElem hl fun i h1 h2 => by have := h i h1 h1 h2; rwa [beq_iff_eq] at this
theorem rowsOther {a b : List (List Int)} (h : a.length ≠ b.length) : (a == b) = false := by
 rw [beq_eq_false_iff_ne]
 rintro rfl
 exact h rfl
theorem cellExt {w w' : World} {b o : Nat} {v : Value} (h : Ext w w') (hc : w.cell? ⟨b, o, none⟩ = some v) : w'.cell? ⟨b, o, none⟩ = some v := (h.cell (p := ⟨b, o, none⟩) (World.block_lt_of_cell? w _ hc)).trans hc
set_option maxHeartbeats 4000000 in
theorem equalRows6_any (v u : Value) (ns ms : List (List Int)) (w : World) (hv : IRows w v ns) (hu : IRows w u ms) :
 Calls Tryz.prog 87 #[v, u, .func (.func 80) #[] #[]] w fun e w' => e = .returned (.bool (ns == ms)) ∧ Ext w w' := by
 have HV := Lib.hid hv
 have HU := Lib.hid hu
 obtain ⟨a, cap, rfl, hcap, hmax, hc⟩ := hv.open
 obtain ⟨a2, cap2, rfl, hcap2, hmax2, hc2⟩ := hu.open
 unfold maxLen at hmax hmax2
 clear hv hu hc hc2
 by_cases hl : ns.length = ms.length
 · have h1' : ((ns.length : Int) != (ms.length : Int)) = false := by rw [hl]; simp
   have HL := Lib.hid hl
   clear hl
   go_enter Tryz.func87, Tryz.ntmps87
   go_wp2_with fail
   go_loopw [7, 8, 9, 17] (fun _ _ _ i wr => ∃ k : Nat, k ≤ ns.length ∧ i = .int .i64 k ∧ Hid (∀ i, i < k → ∀ (h1 : i < ns.length) (h2 : i < ms.length), (ns[i] == ms[i]) = true) ∧ Ext w wr) (fun _ _ _ i _ => ns.length - (intOf i).toNat)
   case atStart => exact ⟨0, by omega, rfl, fun i hi => absurd hi (by omega), Ext.refl _⟩
   case round =>
    obtain ⟨k, hk, rfl, hr, hE⟩ := hrel
    by_cases hlt : k < ns.length
    · have hlt2 : k < ms.length := by have := HL.out; omega
      obtain ⟨a', cap', e', _, _, hc⟩ := (HV.out.below hE).open
      obtain ⟨b, off, x, rfl, hcell, hx⟩ := hc k hlt
      injection e' with e1 e2 e3
      subst e1
      obtain ⟨a3, cap3, e', _, _, hc2⟩ := (HU.out.below hE).open
      obtain ⟨b2, off2, y, rfl, hcell2, hy⟩ := hc2 k hlt2
      injection e' with e4 e5 e6
      subst e4
      clear hc hc2 e2 e3 e5 e6
      have HX := Lib.hid hx
      have HY := Lib.hid hy
      obtain ⟨ax, cx, rfl, _⟩ := hx.open
      obtain ⟨ay, cy, rfl, _⟩ := hy.open
      clear hx hy
      cases h0 : (ns[k] == ms[k]) with
      | true =>
       have H0 := Lib.hid h0
       clear h0
       go_wp2_with fail
       refine (equalS_any _ _ ns[k] ms[k] _ HX.out HY.out).mono ?_
       rw [H0.out]
       rintro e w2 ⟨rfl, hE2⟩
       go_wp2_with fail
       go_roundw
       case rel =>
        refine ⟨k + 1, by omega, by go_num, fun i hi h1 h2 => ?_, hE.trans hE2⟩
        rcases Nat.lt_or_ge i k with h | h
        · exact hr.out i h h1 h2
        · obtain rfl : i = k := by omega
          exact H0.out
       case measure => simp [intOf]; omega
      | false =>
       have H0 := Lib.hid h0
       clear h0
       go_wp2_with fail
       refine (equalS_any _ _ ns[k] ms[k] _ HX.out HY.out).mono ?_
       rw [H0.out]
       rintro e w2 ⟨rfl, hE2⟩
       go_wp2_with fail
       go_ret
       exact ⟨by rw [rowsNe k hlt hlt2 H0.out]; rfl, hE.trans hE2⟩
    · have hs := Lib.hid (rowsSame HL.out (fun i h => hr.out i (by omega)))
      clear hr
      go_wp2_with fail
      go_ret
      exact ⟨by rw [hs.out]; rfl, hE⟩
 · have h1' : ((ns.length : Int) != (ms.length : Int)) = true := by rw [bne_iff_ne]; omega
   have HL := Lib.hid (rowsOther hl)
   clear hl
   go_enter Tryz.func87, Tryz.ntmps87
   go_wp2_with fail
   go_ret
   exact ⟨by rw [HL.out]; rfl, Ext.refl _⟩
theorem alikeTerm {a b : Term.C} (h : (a.term == b.term) = false) : Term.alike a b = false := by unfold Term.alike; rw [h]; rfl
theorem alikeSeqs {a b : Term.C} (h : (a.seqs == b.seqs) = false) : Term.alike a b = false := by unfold Term.alike; rw [h]; simp
theorem alikeRest {a b : Term.C} (h1 : (a.term == b.term) = true) (h2 : (a.seqs == b.seqs) = true) : Term.alike a b = (a.shards == b.shards) := by unfold Term.alike; rw [h1, h2]; rfl
set_option maxHeartbeats 4000000 in
theorem same6_any (v u : Value) (a b : Term.C) (w : World) (hv : IsConf w v a) (hu : IsConf w u b) :
 Calls Tryz.prog 37 #[v, u] w fun e w' => e = .returned (.bool (Term.alike a b)) ∧ Ext w w' := by
 have hbx := box_conf
 have HCV := Lib.hid hv
 have HCU := Lib.hid hu
 obtain ⟨s, d, rfl, hs, hd⟩ := hv
 obtain ⟨s2, d2, rfl, hs2, hd2⟩ := hu
 obtain ⟨t, S, D⟩ := a
 obtain ⟨t2, S2, D2⟩ := b
 unfold confV
 simp only at hs hd hs2 hd2 ⊢
 have HS := Lib.hid hs
 have HD := Lib.hid hd
 have HS2 := Lib.hid hs2
 have HD2 := Lib.hid hd2
 obtain ⟨a1, cap1, rfl, hcap1, hmax1, _, _⟩ := hs.open
 obtain ⟨a2, cap2, rfl, hcap2, hmax2, _⟩ := hd.open
 obtain ⟨a3, cap3, rfl, hcap3, hmax3, _, _⟩ := hs2.open
 obtain ⟨a4, cap4, rfl, hcap4, hmax4, _⟩ := hd2.open
 unfold maxLen at hmax1 hmax2 hmax3 hmax4
 clear hs hd hs2 hd2
 have hE0 : Ext w ((w.alloc (.cells #[.int .i64 t, .slice a1 S.length cap1, .slice a2 D.length cap2] 43)).alloc (.cells #[.int .i64 t2, .slice a3 S2.length cap3, .slice a4 D2.length cap4] 43)) := ext_two _ _ _
 have HH := Lib.hid (heap_two w (.cells #[.int .i64 t, .slice a1 S.length cap1, .slice a2 D.length cap2] 43) (.cells #[.int .i64 t2, .slice a3 S2.length cap3, .slice a4 D2.length cap4] 43))
 cases ht : (t == t2) with
 | false =>
  have HR := Lib.hid (alikeTerm (a := ⟨t, S, D⟩) (b := ⟨t2, S2, D2⟩) ht)
  go_enter Tryz.func37, Tryz.ntmps37
  go_wp2_with fail
  go_ret
  exact ⟨by rw [HR.out]; rfl, hE0⟩
 | true =>
  cases hsq : (S == S2) with
  | false =>
   have HR := Lib.hid (alikeSeqs (a := ⟨t, S, D⟩) (b := ⟨t2, S2, D2⟩) hsq)
   have HQ := Lib.hid hsq
   clear hsq
   go_enter Tryz.func37, Tryz.ntmps37
   go_wp2_with fail
   refine (equalS_any _ _ S S2 _ (HS.out.below hE0) (HS2.out.below hE0)).mono ?_
   rw [HQ.out]
   rintro e w2 ⟨rfl, hE2⟩
   go_wp2_with fail
   go_ret
   exact ⟨by rw [HR.out]; rfl, hE0.trans hE2⟩
  | true =>
   have HR := Lib.hid (alikeRest (a := ⟨t, S, D⟩) (b := ⟨t2, S2, D2⟩) ht hsq)
   have HQ := Lib.hid hsq
   clear hsq
   go_enter Tryz.func37, Tryz.ntmps37
   go_wp2_with fail
   refine (equalS_any _ _ S S2 _ (HS.out.below hE0) (HS2.out.below hE0)).mono ?_
   rw [HQ.out]
   rintro e w2 ⟨rfl, hE2⟩
   have e2 := hE0.trans hE2
   obtain ⟨c0, c1, c2⟩ := ConfAt.cells (heap_ext HH.out.1 hE2)
   obtain ⟨d0, d1, d2⟩ := ConfAt.cells (heap_ext HH.out.2 hE2)
   go_wp2_with fail
   refine (equalRows6_any _ _ D D2 _ (HD.out.below e2) (HD2.out.below e2)).mono ?_
   rintro e w3 ⟨rfl, hE3⟩
   obtain ⟨r, hr⟩ : ∃ r, (D == D2) = r := ⟨_, rfl⟩
   rw [hr] at HR ⊢
   clear hr
   go_wp2_with fail
   go_ret
   exact ⟨by rw [HR.out]; rfl, e2.trans hE3⟩
set_option maxHeartbeats 8000000 in
theorem refSame6_any (v u : Value) (a b : Term.C) (w : World) (hv : IsConf w v a) (hu : IsConf w u b) :
 Calls Tryz.prog 55 #[v, u] w fun e w' => e = .returned (.bool (Term.alike a b)) ∧ Ext w w' := by
 have hbx := box_confR
 have HCV := Lib.hid hv
 have HCU := Lib.hid hu
 obtain ⟨s, d, rfl, hs, hd⟩ := hv
 obtain ⟨s2, d2, rfl, hs2, hd2⟩ := hu
 obtain ⟨t, S, D⟩ := a
 obtain ⟨t2, S2, D2⟩ := b
 unfold confV
 simp only at hs hd hs2 hd2 ⊢
 have HS := Lib.hid hs
 have HD := Lib.hid hd
 have HS2 := Lib.hid hs2
 have HD2 := Lib.hid hd2
 obtain ⟨a1, cap1, rfl, hcap1, hmax1, _, _⟩ := hs.open
 obtain ⟨a2, cap2, rfl, hcap2, hmax2, _⟩ := hd.open
 obtain ⟨a3, cap3, rfl, hcap3, hmax3, _, _⟩ := hs2.open
 obtain ⟨a4, cap4, rfl, hcap4, hmax4, _⟩ := hd2.open
 unfold maxLen at hmax1 hmax2 hmax3 hmax4
 clear hs hd hs2 hd2
 have hE0 : Ext w ((w.alloc (.cells #[.int .i64 t, .slice a1 S.length cap1, .slice a2 D.length cap2] 33)).alloc (.cells #[.int .i64 t2, .slice a3 S2.length cap3, .slice a4 D2.length cap4] 33)) := ext_two _ _ _
 have HH := Lib.hid (heap_two w (.cells #[.int .i64 t, .slice a1 S.length cap1, .slice a2 D.length cap2] 33) (.cells #[.int .i64 t2, .slice a3 S2.length cap3, .slice a4 D2.length cap4] 33))
 cases ht : (t == t2) with
 | false =>
  have HR := Lib.hid (alikeTerm (a := ⟨t, S, D⟩) (b := ⟨t2, S2, D2⟩) ht)
  have ht' : (t != t2) = true := by unfold bne; rw [ht]; rfl
  go_enter Tryz.func55, Tryz.ntmps55
  go_wp2_with fail
  go_ret
  exact ⟨by rw [HR.out]; rfl, hE0⟩
 | true =>
  have ht' : (t != t2) = false := by unfold bne; rw [ht]; rfl
  cases hsq : (S == S2) with
  | false =>
   have HR := Lib.hid (alikeSeqs (a := ⟨t, S, D⟩) (b := ⟨t2, S2, D2⟩) hsq)
   have HQ := Lib.hid hsq
   clear hsq
   go_enter Tryz.func55, Tryz.ntmps55
   go_wp2_with fail
   refine (equal3_any _ _ S S2 _ (HS.out.below hE0) (HS2.out.below hE0)).mono ?_
   rw [HQ.out]
   rintro e w2 ⟨rfl, hE2⟩
   go_wp2_with fail
   go_ret
   exact ⟨by rw [HR.out]; rfl, hE0.trans hE2⟩
  | true =>
   have HR := Lib.hid (alikeRest (a := ⟨t, S, D⟩) (b := ⟨t2, S2, D2⟩) ht hsq)
   have HQ := Lib.hid hsq
   clear hsq
   by_cases hl : D.length = D2.length
   · have hl' : ((D.length : Int) != (D2.length : Int)) = false := by rw [hl]; simp
     have HL := Lib.hid hl
     clear hl
     go_enter Tryz.func55, Tryz.ntmps55
     go_wp2_with fail
     refine (equal3_any _ _ S S2 _ (HS.out.below hE0) (HS2.out.below hE0)).mono ?_
     rw [HQ.out]
     rintro e w2 ⟨rfl, hE2⟩
     have e2 := hE0.trans hE2
     have A2 := Lib.hid (show ConfAt 33 w2 w.heap.size t (.slice a1 S.length cap1) (.slice a2 D.length cap2) from heap_ext HH.out.1 hE2)
     have B2 := Lib.hid (show ConfAt 33 w2 (w.heap.size + 1) t2 (.slice a3 S2.length cap3) (.slice a4 D2.length cap4) from heap_ext HH.out.2 hE2)
     obtain ⟨c0, c1, c2⟩ := A2.out.cells
     obtain ⟨d0, d1, d2⟩ := B2.out.cells
     go_wp2_with fail
     generalize hqq : w.heap.size = q at *
     have HQQ := Lib.hid hqq
     clear hqq c0 c1 c2 d0 d1 d2
     go_loopw [5] (fun i wr => ∃ k : Nat, k ≤ D.length ∧ i = .int .i64 k ∧ Hid (∀ i, i < k → ∀ (h1 : i < D.length) (h2 : i < D2.length), (D[i] == D2[i]) = true) ∧ Ext w2 wr) (fun i _ => D.length - (intOf i).toNat)
     case atStart => exact ⟨0, by omega, rfl, fun i hi => absurd hi (by omega), Ext.refl _⟩
     case round =>
      obtain ⟨k, hk, rfl, hr, hE⟩ := hrel
      have A3 := Lib.hid (A2.out.ext hE)
      have B3 := Lib.hid (B2.out.ext hE)
      obtain ⟨c0, c1, c2⟩ := A3.out.cells
      obtain ⟨d0, d1, d2⟩ := B3.out.cells
      by_cases hlt : k < D.length
      · have hlt2 : k < D2.length := by have := HL.out; omega
        obtain ⟨a', cap', e', _, _, hc⟩ := ((HD.out.below e2).below hE).open
        obtain ⟨b, off, x, rfl, hcell, hx⟩ := hc k hlt
        injection e' with e4 e5 e6
        subst e4
        obtain ⟨a7, cap7, e', _, _, hc2⟩ := ((HD2.out.below e2).below hE).open
        obtain ⟨b2, off2, y, rfl, hcell2, hy⟩ := hc2 k hlt2
        injection e' with e7 e8 e9
        subst e7
        clear hc hc2 e5 e6 e8 e9
        have HX := Lib.hid hx
        have HY := Lib.hid hy
        obtain ⟨ax, cx, rfl, _⟩ := hx.open
        obtain ⟨ay, cy, rfl, _⟩ := hy.open
        have HC1 := Lib.hid (fun (wy : World) (h : Ext wr wy) => (cellExt h hcell : wy.cell? ⟨b, off + k, none⟩ = some (.slice ax D[k].length cx)))
        have HC2 := Lib.hid (fun (wy : World) (h : Ext wr wy) => (cellExt h hcell2 : wy.cell? ⟨b2, off2 + k, none⟩ = some (.slice ay D2[k].length cy)))
        clear hx hy hcell hcell2
        cases h0 : (D[k] == D2[k]) with
        | true =>
         have H0 := Lib.hid h0
         have HEQ := Lib.hid (fun (wy : World) (h : Ext wr wy) => h0 ▸ equal3_any _ _ D[k] D2[k] wy (HX.out.below h) (HY.out.below h))
         clear h0
         go_wp2_with fail
         refine wp_region_facts (by kernel_rfl) Ext (fun iop v w => match iop with
          | 0 => v = .pointer (some ⟨q, 2, none⟩)
          | 1 => v = .slice (some ⟨b, off, none⟩) D.length cap2
          | 2 => v = .int .i64 (k : Int)
          | 3 => v = .pointer (some ⟨b, off + k, none⟩)
          | 4 => v = .slice ax D[k].length cx
          | 5 => v = .pointer (some ⟨q + 1, 2, none⟩)
          | 6 => v = .slice (some ⟨b2, off2, none⟩) D2.length cap4
          | 7 => v = .int .i64 (k : Int)
          | 8 => v = .pointer (some ⟨b2, off2 + k, none⟩)
          | 9 => v = .slice ay D2[k].length cy
          | 10 => v = .bool true
          | _ => v = .bool false
          ) (by kernel_rfl) (fun _ _ _ h k => Ext.trans h k) (fun a => Ext.refl a) (Ext.drew _) ?_ ?_ ?_
         · intro iop v wa wb hF hL
           iterate 11 (rcases iop with _ | iop; exact hF)
           exact hF
         · refine Obls.cons ?_ (Obls.cons ?_ (Obls.cons ?_ (Obls.cons ?_ (Obls.cons ?_ (Obls.cons ?_ (Obls.cons ?_ (Obls.cons ?_ (Obls.cons ?_ (Obls.cons ?_ (Obls.cons ?_ (Obls.cons ?_ (Obls.nil))))))))))))
           · intro ev wy hp hl hk hd
             have e2 : ev (.tmp 2) = .pointer (some ⟨q, 0, none⟩) := hk 2 (by decide)
             clear hk hd
             exact Yield.op (v := .pointer (some ⟨q, 2, none⟩)) (w' := wy) (by simp [execOp, go_sem, e2]) ⟨Ext.refl _, rfl⟩
           · intro ev wy hp hl hk hd
             have e35 : ev (.tmp 35) = .pointer (some ⟨q, 2, none⟩) := hk 35 (by decide)
             clear hk hd
             exact Yield.load rfl e35 (by simp [go_sem, (A3.out.ext hl).cells.2.2]) ⟨Ext.refl _, rfl⟩
           · intro ev wy hp hl hk hd
             have e5 : ev (.tmp 5) = .int .i64 (k : Int) := hk 5 (by decide)
             clear hk hd
             exact Yield.mv rfl ⟨Ext.refl _, e5⟩
           · intro ev wy hp hl hk hd
             have e36 : ev (.tmp 36) = .slice (some ⟨b, off, none⟩) D.length cap2 := hk 36 (by decide)
             have e37 : ev (.tmp 37) = .int .i64 (k : Int) := hk 37 (by decide)
             clear hk hd
             exact Yield.op (w' := wy) (by simp [execOp, go_sem, e36, e37]; omega) ⟨Ext.refl _, rfl⟩
           · intro ev wy hp hl hk hd
             have e38 : ev (.tmp 38) = .pointer (some ⟨b, off + k, none⟩) := hk 38 (by decide)
             clear hk hd
             exact Yield.load rfl e38 (by simp [go_sem, HC1.out wy hl]) ⟨Ext.refl _, rfl⟩
           · intro ev wy hp hl hk hd
             have e3 : ev (.tmp 3) = .pointer (some ⟨q + 1, 0, none⟩) := hk 3 (by decide)
             clear hk hd
             exact Yield.op (v := .pointer (some ⟨q + 1, 2, none⟩)) (w' := wy) (by simp [execOp, go_sem, e3]) ⟨Ext.refl _, rfl⟩
           · intro ev wy hp hl hk hd
             have e40 : ev (.tmp 40) = .pointer (some ⟨q + 1, 2, none⟩) := hk 40 (by decide)
             clear hk hd
             exact Yield.load rfl e40 (by simp [go_sem, (B3.out.ext hl).cells.2.2]) ⟨Ext.refl _, rfl⟩
           · intro ev wy hp hl hk hd
             have e5 : ev (.tmp 5) = .int .i64 (k : Int) := hk 5 (by decide)
             clear hk hd
             exact Yield.mv rfl ⟨Ext.refl _, e5⟩
           · intro ev wy hp hl hk hd
             have e41 : ev (.tmp 41) = .slice (some ⟨b2, off2, none⟩) D2.length cap4 := hk 41 (by decide)
             have e42 : ev (.tmp 42) = .int .i64 (k : Int) := hk 42 (by decide)
             clear hk hd
             exact Yield.op (w' := wy) (by simp [execOp, go_sem, e41, e42]; omega) ⟨Ext.refl _, rfl⟩
           · intro ev wy hp hl hk hd
             have e43 : ev (.tmp 43) = .pointer (some ⟨b2, off2 + k, none⟩) := hk 43 (by decide)
             clear hk hd
             exact Yield.load rfl e43 (by simp [go_sem, HC2.out wy hl]) ⟨Ext.refl _, rfl⟩
           · intro ev wy hp hl hk hd
             have e39 : ev (.tmp 39) = .slice ax D[k].length cx := hk 39 (by decide)
             have e44 : ev (.tmp 44) = .slice ay D2[k].length cy := hk 44 (by decide)
             clear hk hd
             refine Yield.call rfl hp Tryz.func113 rfl (by kernel_rfl) ?_
             simp only [List.map_toArray, List.map_cons, List.map_nil, e39, e44]
             exact ((HEQ.out wy hl)).mono fun _ _ ⟨he, hb⟩ => ⟨_, he, hb, by first | rfl | simp⟩
           · intro ev wy hp hl hk hd
             have e45 : ev (.tmp 45) = .bool true := hk 45 (by decide)
             clear hk hd
             exact Yield.op (v := .bool false) (w' := wy) (by simp [execOp, go_sem, e45]) ⟨Ext.refl _, rfl⟩
         · intro vals wz hz hv
           have g35 : vals 0 = .pointer (some ⟨q, 2, none⟩) := hv 0 (by decide)
           have g36 : vals 1 = .slice (some ⟨b, off, none⟩) D.length cap2 := hv 1 (by decide)
           have g37 : vals 2 = .int .i64 (k : Int) := hv 2 (by decide)
           have g38 : vals 3 = .pointer (some ⟨b, off + k, none⟩) := hv 3 (by decide)
           have g39 : vals 4 = .slice ax D[k].length cx := hv 4 (by decide)
           have g40 : vals 5 = .pointer (some ⟨q + 1, 2, none⟩) := hv 5 (by decide)
           have g41 : vals 6 = .slice (some ⟨b2, off2, none⟩) D2.length cap4 := hv 6 (by decide)
           have g42 : vals 7 = .int .i64 (k : Int) := hv 7 (by decide)
           have g43 : vals 8 = .pointer (some ⟨b2, off2 + k, none⟩) := hv 8 (by decide)
           have g44 : vals 9 = .slice ay D2[k].length cy := hv 9 (by decide)
           have g45 : vals 10 = .bool true := hv 10 (by decide)
           have g46 : vals 11 = .bool false := hv 11 (by decide)
           clear hv
           simp only [putAll, Act.put, List.setIfInBounds_toArray, List.set_cons_zero, List.set_cons_succ, g35, g36, g37, g38, g39, g40, g41, g42, g43, g44, g45, g46]
           clear g35
           clear g36
           clear g37
           clear g38
           clear g39
           clear g40
           clear g41
           clear g42
           clear g43
           clear g44
           clear g45
           clear g46
           go_wp2_with fail
           go_roundw
           case rel =>
            refine ⟨k + 1, by omega, by go_num, fun i hi h1 h2 => ?_, hE.trans hz⟩
            rcases Nat.lt_or_ge i k with h | h
            · exact hr.out i h h1 h2
            · obtain rfl : i = k := by omega
              exact H0.out
           case measure => simp [intOf]; omega
        | false =>
         have H0 := Lib.hid h0
         have HEQ := Lib.hid (fun (wy : World) (h : Ext wr wy) => h0 ▸ equal3_any _ _ D[k] D2[k] wy (HX.out.below h) (HY.out.below h))
         clear h0
         go_wp2_with fail
         refine wp_region_facts (by kernel_rfl) Ext (fun iop v w => match iop with
          | 0 => v = .pointer (some ⟨q, 2, none⟩)
          | 1 => v = .slice (some ⟨b, off, none⟩) D.length cap2
          | 2 => v = .int .i64 (k : Int)
          | 3 => v = .pointer (some ⟨b, off + k, none⟩)
          | 4 => v = .slice ax D[k].length cx
          | 5 => v = .pointer (some ⟨q + 1, 2, none⟩)
          | 6 => v = .slice (some ⟨b2, off2, none⟩) D2.length cap4
          | 7 => v = .int .i64 (k : Int)
          | 8 => v = .pointer (some ⟨b2, off2 + k, none⟩)
          | 9 => v = .slice ay D2[k].length cy
          | 10 => v = .bool false
          | _ => v = .bool true
          ) (by kernel_rfl) (fun _ _ _ h k => Ext.trans h k) (fun a => Ext.refl a) (Ext.drew _) ?_ ?_ ?_
         · intro iop v wa wb hF hL
           iterate 11 (rcases iop with _ | iop; exact hF)
           exact hF
         · refine Obls.cons ?_ (Obls.cons ?_ (Obls.cons ?_ (Obls.cons ?_ (Obls.cons ?_ (Obls.cons ?_ (Obls.cons ?_ (Obls.cons ?_ (Obls.cons ?_ (Obls.cons ?_ (Obls.cons ?_ (Obls.cons ?_ (Obls.nil))))))))))))
           · intro ev wy hp hl hk hd
             have e2 : ev (.tmp 2) = .pointer (some ⟨q, 0, none⟩) := hk 2 (by decide)
             clear hk hd
             exact Yield.op (v := .pointer (some ⟨q, 2, none⟩)) (w' := wy) (by simp [execOp, go_sem, e2]) ⟨Ext.refl _, rfl⟩
           · intro ev wy hp hl hk hd
             have e35 : ev (.tmp 35) = .pointer (some ⟨q, 2, none⟩) := hk 35 (by decide)
             clear hk hd
             exact Yield.load rfl e35 (by simp [go_sem, (A3.out.ext hl).cells.2.2]) ⟨Ext.refl _, rfl⟩
           · intro ev wy hp hl hk hd
             have e5 : ev (.tmp 5) = .int .i64 (k : Int) := hk 5 (by decide)
             clear hk hd
             exact Yield.mv rfl ⟨Ext.refl _, e5⟩
           · intro ev wy hp hl hk hd
             have e36 : ev (.tmp 36) = .slice (some ⟨b, off, none⟩) D.length cap2 := hk 36 (by decide)
             have e37 : ev (.tmp 37) = .int .i64 (k : Int) := hk 37 (by decide)
             clear hk hd
             exact Yield.op (w' := wy) (by simp [execOp, go_sem, e36, e37]; omega) ⟨Ext.refl _, rfl⟩
           · intro ev wy hp hl hk hd
             have e38 : ev (.tmp 38) = .pointer (some ⟨b, off + k, none⟩) := hk 38 (by decide)
             clear hk hd
             exact Yield.load rfl e38 (by simp [go_sem, HC1.out wy hl]) ⟨Ext.refl _, rfl⟩
           · intro ev wy hp hl hk hd
             have e3 : ev (.tmp 3) = .pointer (some ⟨q + 1, 0, none⟩) := hk 3 (by decide)
             clear hk hd
             exact Yield.op (v := .pointer (some ⟨q + 1, 2, none⟩)) (w' := wy) (by simp [execOp, go_sem, e3]) ⟨Ext.refl _, rfl⟩
           · intro ev wy hp hl hk hd
             have e40 : ev (.tmp 40) = .pointer (some ⟨q + 1, 2, none⟩) := hk 40 (by decide)
             clear hk hd
             exact Yield.load rfl e40 (by simp [go_sem, (B3.out.ext hl).cells.2.2]) ⟨Ext.refl _, rfl⟩
           · intro ev wy hp hl hk hd
             have e5 : ev (.tmp 5) = .int .i64 (k : Int) := hk 5 (by decide)
             clear hk hd
             exact Yield.mv rfl ⟨Ext.refl _, e5⟩
           · intro ev wy hp hl hk hd
             have e41 : ev (.tmp 41) = .slice (some ⟨b2, off2, none⟩) D2.length cap4 := hk 41 (by decide)
             have e42 : ev (.tmp 42) = .int .i64 (k : Int) := hk 42 (by decide)
             clear hk hd
             exact Yield.op (w' := wy) (by simp [execOp, go_sem, e41, e42]; omega) ⟨Ext.refl _, rfl⟩
           · intro ev wy hp hl hk hd
             have e43 : ev (.tmp 43) = .pointer (some ⟨b2, off2 + k, none⟩) := hk 43 (by decide)
             clear hk hd
             exact Yield.load rfl e43 (by simp [go_sem, HC2.out wy hl]) ⟨Ext.refl _, rfl⟩
           · intro ev wy hp hl hk hd
             have e39 : ev (.tmp 39) = .slice ax D[k].length cx := hk 39 (by decide)
             have e44 : ev (.tmp 44) = .slice ay D2[k].length cy := hk 44 (by decide)
             clear hk hd
             refine Yield.call rfl hp Tryz.func113 rfl (by kernel_rfl) ?_
             simp only [List.map_toArray, List.map_cons, List.map_nil, e39, e44]
             exact ((HEQ.out wy hl)).mono fun _ _ ⟨he, hb⟩ => ⟨_, he, hb, by first | rfl | simp⟩
           · intro ev wy hp hl hk hd
             have e45 : ev (.tmp 45) = .bool false := hk 45 (by decide)
             clear hk hd
             exact Yield.op (v := .bool true) (w' := wy) (by simp [execOp, go_sem, e45]) ⟨Ext.refl _, rfl⟩
         · intro vals wz hz hv
           have g35 : vals 0 = .pointer (some ⟨q, 2, none⟩) := hv 0 (by decide)
           have g36 : vals 1 = .slice (some ⟨b, off, none⟩) D.length cap2 := hv 1 (by decide)
           have g37 : vals 2 = .int .i64 (k : Int) := hv 2 (by decide)
           have g38 : vals 3 = .pointer (some ⟨b, off + k, none⟩) := hv 3 (by decide)
           have g39 : vals 4 = .slice ax D[k].length cx := hv 4 (by decide)
           have g40 : vals 5 = .pointer (some ⟨q + 1, 2, none⟩) := hv 5 (by decide)
           have g41 : vals 6 = .slice (some ⟨b2, off2, none⟩) D2.length cap4 := hv 6 (by decide)
           have g42 : vals 7 = .int .i64 (k : Int) := hv 7 (by decide)
           have g43 : vals 8 = .pointer (some ⟨b2, off2 + k, none⟩) := hv 8 (by decide)
           have g44 : vals 9 = .slice ay D2[k].length cy := hv 9 (by decide)
           have g45 : vals 10 = .bool false := hv 10 (by decide)
           have g46 : vals 11 = .bool true := hv 11 (by decide)
           clear hv
           simp only [putAll, Act.put, List.setIfInBounds_toArray, List.set_cons_zero, List.set_cons_succ, g35, g36, g37, g38, g39, g40, g41, g42, g43, g44, g45, g46]
           clear g35
           clear g36
           clear g37
           clear g38
           clear g39
           clear g40
           clear g41
           clear g42
           clear g43
           clear g44
           clear g45
           clear g46
           go_wp2_with fail
           go_ret
           exact ⟨by rw [HR.out, rowsNe k hlt hlt2 H0.out]; rfl, (e2.trans hE).trans hz⟩
      · have hs := Lib.hid (rowsSame HL.out (fun i h => hr.out i (by omega)))
        clear hr
        go_wp2_with fail
        go_ret
        exact ⟨by rw [HR.out, hs.out]; rfl, e2.trans hE⟩
   · have hl' : ((D.length : Int) != (D2.length : Int)) = true := by rw [bne_iff_ne]; omega
     have HL := Lib.hid (rowsOther hl)
     clear hl
     go_enter Tryz.func55, Tryz.ntmps55
     go_wp2_with fail
     refine (equal3_any _ _ S S2 _ (HS.out.below hE0) (HS2.out.below hE0)).mono ?_
     rw [HQ.out]
     rintro e w2 ⟨rfl, hE2⟩
     have e2 := hE0.trans hE2
     obtain ⟨c0, c1, c2⟩ := ConfAt.cells (heap_ext HH.out.1 hE2)
     obtain ⟨d0, d1, d2⟩ := ConfAt.cells (heap_ext HH.out.2 hE2)
     go_wp2_with fail
     go_ret
     exact ⟨by rw [HR.out, HL.out]; rfl, e2⟩
set_option maxHeartbeats 4000000 in
theorem readRow6_any (p m : Nat) (s : Pack.St) (w : World) (h : RD w p s) (hm : m ≤ 100) :
 Calls Tryz.prog 129 #[.pointer (some ⟨p, 0, none⟩), .int .i64 (m : Int)] w fun e w' => ∃ v, e = .returned v ∧ OwnI w' w.heap.size v (Term.gRow m 15 s).2 ∧ But p w w' ∧ RD w' p (Term.gRow m 15 s).1 := by
 obtain ⟨S1, hS1⟩ : ∃ S1, (s.num m).1 = S1 := ⟨_, rfl⟩
 obtain ⟨n, hn⟩ : ∃ n, (s.num m).2 = n := ⟨_, rfl⟩
 have hnm : n ≤ 100 := by have := numMost s m (by omega); rw [hn] at this; omega
 have HG := Lib.hid (show Term.gRow m 15 s = Rec.readsM 15 S1 n by unfold Term.gRow; rw [hS1, hn])
 have HS1 := Lib.hid hS1
 have HN := Lib.hid hn
 have HR := Lib.hid h
 have ti := tI
 clear hS1 hn h
 rw [HG.out]
 go_enter Tryz.func129, Tryz.ntmps129
 go_wp2_with fail
 refine (num_any p s m _ HR.out).mono ?_
 rw [HS1.out, HN.out]
 rintro e w1 ⟨rfl, hB1, hr1⟩
 go_wp2_with fail
 go_loopw [5, 9] (fun tv i wr => ∃ k : Nat, k ≤ n ∧ i = .int .i64 k ∧ wr.ownsRow w.heap.size 3 1 tv k (i64s (Rec.readsM 15 S1 k).2) ∧ RD wr p (Rec.readsM 15 S1 k).1 ∧ But p w wr) (fun _ i _ => n - (intOf i).toNat)
 case atStart => exact ⟨0, by omega, rfl, World.ownsRow_nil _ _ _ _, hr1, hB1⟩
 case round =>
  obtain ⟨k, hk, rfl, ho, hr, hB⟩ := hrel
  by_cases hlt : k < n
  · obtain ⟨N, hN⟩ : ∃ N, (Rec.readsM 15 S1 k).1.num 15 = N := ⟨_, rfl⟩
    have hnx : Rec.readsM 15 S1 (k + 1) = (N.1, (Rec.readsM 15 S1 k).2 ++ [(N.2 : Int)]) := by
     show ((((Rec.readsM 15 S1 k).1.num 15).1, (Rec.readsM 15 S1 k).2 ++ [(((Rec.readsM 15 S1 k).1.num 15).2 : Int)])) = _
     rw [hN]
    obtain ⟨y, hy⟩ : ∃ y : Int, (N.2 : Int) = y := ⟨_, rfl⟩
    rw [hy] at hnx
    have HNX := Lib.hid hnx
    have HY := Lib.hid hy
    have HNN := Lib.hid hN
    obtain ⟨ra, rn, rc, hpp⟩ := hr.heapOf
    have hne := Lib.hid (rowBeside ho hpp (by decide))
    have HO := Lib.hid ho
    have HRR := Lib.hid hr
    have hone := i64s_one [y]
    have hk1 : k + (i64s [y]).length ≤ maxLen := by simp [maxLen]; omega
    have hk2 : (k + (i64s [y]).length) * 8 ≤ 140737488355328 := by simp; omega
    have hplt := HR.out.lt
    clear hN hnx hy hpp ho hr
    go_wp2_with fail
    refine (num_any p _ 15 _ HRR.out).mono ?_
    rw [HNN.out, HY.out]
    rintro e w2 ⟨rfl, hB2, hr2⟩
    have ho2 := (rowBut HO.out hne.out hB2).alloc (.cells #[.int .i64 y] 3)
    have hi2 := Ints.one w2 y
    have hz2 : w.heap.size ≤ (w2.alloc (.cells #[.int .i64 y] 3)).heap.size := Nat.le_trans (Nat.le_trans hB.size hB2.size) (Ext.alloc w2 _).size
    go_wp2_with (at_builtin; refine wpList_app rfl (.tmp 11) (.tmp 14) ti rfl rfl rfl ho2 hi2 hone hk1 hk2 hz2 ?_; intro v3 w3 hown3 hg3)
    have hr3 := (hr2.ext (Ext.alloc w2 (.cells #[.int .i64 y] 3))).grownRow ho2 hg3 hplt
    have hB3 : But p w w3 := ((hB.trans hB2).alloc (.cells #[.int .i64 y] 3)).grown hg3 (fun j hj => (ho2.lt j hj).1)
    have ho4 : w3.ownsRow w.heap.size 3 1 v3 (k + 1) (i64s (Rec.readsM 15 S1 (k + 1)).2) := by
     rw [HNX.out, i64s_append]
     exact hown3
    have hr4 : RD w3 p (Rec.readsM 15 S1 (k + 1)).1 := by rw [HNX.out]; exact hr3
    have HO4 := Lib.hid ho4
    clear hown3 hg3 ho4 ho2 hi2
    go_wp2_with fail
    go_roundw
    case rel => exact ⟨k + 1, by omega, by go_num, HO4.out, hr4, hB3⟩
    case measure => simp [intOf]; omega
  · obtain rfl : k = n := by omega
    have HO := Lib.hid ho
    clear ho
    go_wp2_with fail
    go_ret
    exact ⟨_, rfl, by unfold OwnI; rw [Rec.readsM_len]; exact HO.out, hB, hr⟩
theorem build_refR6 (w : World) (s : ByteArray) : (Instr.build 88 #[(0, .string s)]).run Tryz.prog w = .ok (.agg #[.string s, .int .i64 0]) w := by kernel_rfl
theorem setTwo6 {w : World} {q : Nat} {x0 x1 : Value} {T : TypeId} (h : w.heap[q]? = some (.cells #[x0, x1] T (0, 0))) (v0 v1 : Value) :
 ((w.setCell ⟨q, 0, none⟩ v0).setCell ⟨q, 1, none⟩ v1).heap[q]? = some (.cells #[v0, v1] T (0, 0)) ∧ But q w ((w.setCell ⟨q, 0, none⟩ v0).setCell ⟨q, 1, none⟩ v1) := by
 refine ⟨?_, ((But.refl _ _).setCell 0 none v0).setCell 1 none v1⟩
 have := heap_setCell (heap_setCell h 0 v0) 1 v1
 simpa using this
def Ref6 (w : World) (q n : Nat) (s : Pack.St) : Prop := ∃ lk : List UInt8, w.heap[q]? = some (.cells #[.string ⟨lk.toArray⟩, .int .i64 s.err] 88 (0, 0)) ∧ Sim lk s ∧ lk.length ≤ n
theorem Ref6.lt {w : World} {q n : Nat} {s : Pack.St} (h : Ref6 w q n s) : q < w.heap.size := by
 obtain ⟨lk, h, _⟩ := h
 exact (Array.getElem?_eq_some_iff.1 h).1
theorem Ref6.ext {w w' : World} {q n : Nat} {s : Pack.St} (h : Ref6 w q n s) (hE : Ext w w') : Ref6 w' q n s := by
 have hlt := h.lt
 obtain ⟨lk, h1, h2⟩ := h
 exact ⟨lk, (hE.block q hlt).trans h1, h2⟩
theorem Ref6.but {w w' : World} {q p n : Nat} {s : Pack.St} (h : Ref6 w q n s) (hB : But p w w') (hne : q ≠ p) : Ref6 w' q n s := by
 have hlt := h.lt
 obtain ⟨lk, h1, h2⟩ := h
 exact ⟨lk, (hB.block q hlt hne).trans h1, h2⟩
theorem Ref6.set {w : World} {q n : Nat} {s : Pack.St} (h : Ref6 w q n s) {l : List UInt8} {s' : Pack.St} (hs : Sim l s') (hl : l.length ≤ n) :
 Ref6 ((w.setCell ⟨q, 0, none⟩ (.string ⟨l.toArray⟩)).setCell ⟨q, 1, none⟩ (.int .i64 s'.err)) q n s' ∧ But q w ((w.setCell ⟨q, 0, none⟩ (.string ⟨l.toArray⟩)).setCell ⟨q, 1, none⟩ (.int .i64 s'.err)) := by
 obtain ⟨lk, h1, h2⟩ := h
 have := setTwo6 h1 (.string ⟨l.toArray⟩) (.int .i64 s'.err)
 exact ⟨⟨l, this.1, hs, hl⟩, this.2⟩
def RowRef6 (w : World) (n : Nat) (S : Pack.St × List Int) (e : Ending) (w' : World) : Prop := ∃ l' v, e = .returned (.tuple #[refVal l' S.1.err, v]) ∧ Sim l' S.1 ∧ l'.length ≤ n ∧ OwnI w' w.heap.size v S.2 ∧ Ext w w'
set_option maxHeartbeats 8000000 in
theorem refReadRow6_any (l : List UInt8) (s : Pack.St) (n : Nat) (w : World) (hs : Sim l s) (hl : l.length ≤ n) (hn : n ≤ 140737488355328) :
 Calls Tryz.prog 134 #[refVal l s.err] w (RowRef6 w n (Term.gRow 16 16 s)) := by
 obtain ⟨S1, hS1⟩ : ∃ S1, (s.num 16).1 = S1 := ⟨_, rfl⟩
 obtain ⟨m, hm⟩ : ∃ m, (s.num 16).2 = m := ⟨_, rfl⟩
 have hm16 : m ≤ 16 := by have := numMost s 16 (by omega); rw [hm] at this; omega
 have HG := Lib.hid (show Term.gRow 16 16 s = Rec.readsM 16 S1 m by unfold Term.gRow; rw [hS1, hm])
 have HS1 := Lib.hid hS1
 have HM := Lib.hid hm
 have HS := Lib.hid hs
 have ti := tI
 clear hS1 hm hs
 rw [HG.out]
 unfold RowRef6 refVal
 have H1 := Lib.hid (readNumRef_any l 16 s ((w.alloc (.cells #[.string ⟨l.toArray⟩, .int .i64 s.err] 88)).alloc (.cells #[.string ⟨#[]⟩, .int .i64 0] 88)) HS.out (by omega))
 have HH := Lib.hid (heap_two w (.cells #[.string ⟨l.toArray⟩, .int .i64 s.err] 88) (.cells #[.string ⟨#[]⟩, .int .i64 0] 88))
 have hE0 := ext_two w (.cells #[.string ⟨l.toArray⟩, .int .i64 s.err] 88) (.cells #[.string ⟨#[]⟩, .int .i64 0] 88)
 rw [HS1.out, HM.out] at H1
 unfold refVal at H1
 go_enter Tryz.func134, Tryz.ntmps134
 go_wp2_with fail
 refine H1.out.mono ?_
 rintro e w1 ⟨l1, rfl, hs1, hl1, hE1⟩
 have e1 := hE0.trans hE1
 have D1 := Lib.hid (show Ref6 w1 w.heap.size n s from ⟨l, heap_ext HH.out.1 hE1, HS.out, hl⟩)
 have X1 := Lib.hid (heap_ext HH.out.2 hE1)
 have hlt1 := D1.out.lt
 have hlt2 : w.heap.size + 1 < w1.heap.size := (Array.getElem?_eq_some_iff.1 X1.out).1
 obtain ⟨q, hq⟩ : ∃ q, w.heap.size = q := ⟨_, rfl⟩
 rw [hq] at D1 X1 hlt1 hlt2 ⊢
 have HQ := Lib.hid hq
 clear hq HH H1 hE0 hE1
 obtain ⟨lk, hk, hsm, hln⟩ := D1.out
 have z0 := cell_of_heap hk 0
 have z1 := cell_of_heap hk 1
 have fz := fun i => frozen_of_heap hk i
 simp at z0 z1
 have hDD := D1.out.set hs1 (show l1.length ≤ n by omega)
 have D2 := Lib.hid hDD.1
 have X2 := Lib.hid ((hDD.2.block (q + 1) hlt2 (by omega)).trans X1.out)
 have e2 : Ext w ((w1.setCell ⟨q, 0, none⟩ (.string ⟨l1.toArray⟩)).setCell ⟨q, 1, none⟩ (.int .i64 S1.err)) := Below.trans (B := w.heap.size) e1 (hDD.2.below (by have := HQ.out; omega) e1.size)
 clear hk hDD
 go_wp2_with fail
 generalize hw : ((w1.setCell ⟨q, 0, none⟩ (.string ⟨l1.toArray⟩)).setCell ⟨q, 1, none⟩ (.int .i64 S1.err)) = w2 at *
 clear hw z0 z1 fz D1 X1
 go_loopw [5, 6, 7, 8] (fun tv i _ _ wr => ∃ k : Nat, k ≤ m ∧ i = .int .i64 k ∧ ∃ uv, uv = tv ∧ wr.ownsRow q 3 1 uv k (i64s (Rec.readsM 16 S1 k).2) ∧ Hid (Ref6 wr q n (Rec.readsM 16 S1 k).1) ∧ Hid (∃ b : ByteArray, ∃ z : Int, wr.heap[q + 1]? = some (.cells #[.string b, .int .i64 z] 88 (0, 0))) ∧ Ext w wr) (fun _ i _ _ _ => m - (intOf i).toNat)
 case atStart => exact ⟨0, by omega, rfl, _, rfl, World.ownsRow_nil _ _ _ _, D2.out, ⟨_, _, X2.out⟩, e2⟩
 case round =>
  obtain ⟨k, hk, rfl, tv, rfl, ho, hD, hX, hE⟩ := hrel
  by_cases hlt : k < m
  · obtain ⟨N, hN⟩ : ∃ N, (Rec.readsM 16 S1 k).1.num 16 = N := ⟨_, rfl⟩
    have hnx : Rec.readsM 16 S1 (k + 1) = (N.1, (Rec.readsM 16 S1 k).2 ++ [(N.2 : Int)]) := by
     show ((((Rec.readsM 16 S1 k).1.num 16).1, (Rec.readsM 16 S1 k).2 ++ [(((Rec.readsM 16 S1 k).1.num 16).2 : Int)])) = _
     rw [hN]
    obtain ⟨y, hy⟩ : ∃ y : Int, (N.2 : Int) = y := ⟨_, rfl⟩
    rw [hy] at hnx
    have HNX := Lib.hid hnx
    have HY := Lib.hid hy
    have HNN := Lib.hid hN
    have HO := Lib.hid ho
    have hone := i64s_one [y]
    have hk1 : k + (i64s [y]).length ≤ maxLen := by simp [maxLen]; omega
    have hk2 : (k + (i64s [y]).length) * 8 ≤ 140737488355328 := by simp; omega
    obtain ⟨lk, hkk, hsm, hln⟩ := hD.out
    have hcall := readNumRef_any lk 16 _ wr hsm (by omega)
    rw [HNN.out] at hcall
    unfold refVal at hcall
    have HC := Lib.hid hcall
    have HKK := Lib.hid hkk
    have z0 := cell_of_heap hkk 0
    have z1 := cell_of_heap hkk 1
    simp at z0 z1
    have hqlt := hD.out.lt
    clear hN hnx hy ho hcall hkk
    go_wp2_with fail
    refine HC.out.mono ?_
    rw [HY.out]
    rintro e w3 ⟨l3, rfl, hs3, hl3, hE3⟩
    clear z0 z1
    have D3 := Lib.hid (hD.out.ext hE3)
    obtain ⟨lj, hkj, hsj, hlj⟩ := D3.out
    have z0 := cell_of_heap hkj 0
    have z1 := cell_of_heap hkj 1
    have fz := fun i => frozen_of_heap hkj i
    simp at z0 z1
    have hq3 : q < w3.heap.size := D3.out.lt
    have hDD := D3.out.set hs3 (show l3.length ≤ n by omega)
    have hD4 := Lib.hid ((hDD.1.ext (Ext.alloc _ (.cells #[.string ⟨l3.toArray⟩, .int .i64 N.1.err] 88))).ext (Ext.alloc _ (.cells #[.int .i64 y] 3)))
    have hE4 : Ext w (((w3.setCell ⟨q, 0, none⟩ (.string ⟨l3.toArray⟩)).setCell ⟨q, 1, none⟩ (.int .i64 N.1.err)).alloc (.cells #[.string ⟨l3.toArray⟩, .int .i64 N.1.err] 88)) :=
     Ext.trans (show Ext w ((w3.setCell ⟨q, 0, none⟩ (.string ⟨l3.toArray⟩)).setCell ⟨q, 1, none⟩ (.int .i64 N.1.err)) from Below.trans (B := w.heap.size) (hE.trans hE3) (hDD.2.below (by have := HQ.out; omega) (hE.trans hE3).size)) (Ext.alloc _ _)
    have hE5 := hE4.trans (Ext.alloc _ (.cells #[.int .i64 y] 3))
    have hX4 : ∃ b : ByteArray, ∃ z : Int, ((((w3.setCell ⟨q, 0, none⟩ (.string ⟨l3.toArray⟩)).setCell ⟨q, 1, none⟩ (.int .i64 N.1.err)).alloc (.cells #[.string ⟨l3.toArray⟩, .int .i64 N.1.err] 88)).alloc (.cells #[.int .i64 y] 3)).heap[q + 1]? = some (.cells #[.string b, .int .i64 z] 88 (0, 0)) := by
     obtain ⟨b, z, hb⟩ := hX.out
     have hq1 := (Array.getElem?_eq_some_iff.1 (heap_ext hb hE3)).1
     exact ⟨b, z, heap_ext (heap_ext ((hDD.2.block (q + 1) hq1 (by omega)).trans (heap_ext hb hE3)) (Ext.alloc _ _)) (Ext.alloc _ _)⟩
    have HX4 := Lib.hid hX4
    have o4 := (((rowBut (rowExt HO.out hE3) (rowBeside (rowExt HO.out hE3) hkj (by decide)) hDD.2).alloc (.cells #[.string ⟨l3.toArray⟩, .int .i64 N.1.err] 88)).alloc (.cells #[.int .i64 y] 3))
    have hi4 := Ints.one (((w3.setCell ⟨q, 0, none⟩ (.string ⟨l3.toArray⟩)).setCell ⟨q, 1, none⟩ (.int .i64 N.1.err)).alloc (.cells #[.string ⟨l3.toArray⟩, .int .i64 N.1.err] 88)) y
    have HE5 := Lib.hid hE5
    rw [show ((((w3.setCell ⟨q, 0, none⟩ (.string ⟨l3.toArray⟩)).setCell ⟨q, 1, none⟩ (.int .i64 N.1.err)).alloc (.cells #[.string ⟨l3.toArray⟩, .int .i64 N.1.err] 88))).heap.size = w3.heap.size + 1 from by simp] at hi4
    have hz4 : q ≤ ((((w3.setCell ⟨q, 0, none⟩ (.string ⟨l3.toArray⟩)).setCell ⟨q, 1, none⟩ (.int .i64 N.1.err)).alloc (.cells #[.string ⟨l3.toArray⟩, .int .i64 N.1.err] 88)).alloc (.cells #[.int .i64 y] 3)).heap.size := Nat.le_trans (Nat.le_of_eq HQ.out.symm) HE5.out.size
    have O4 := Lib.hid o4
    have I4 := Lib.hid hi4
    have Z4 := Lib.hid hz4
    clear hDD hkj hE4 hE5 hX4 o4 hi4 hz4
    go_wp2_with (at_builtin; refine wpList_app rfl (.tmp 25) (.tmp 27) ti rfl rfl rfl O4.out I4.out hone hk1 hk2 Z4.out ?_; intro v5 w5 hown5 hg5)
    have hg5 : ((((w3.setCell ⟨q, 0, none⟩ (.string ⟨l3.toArray⟩)).setCell ⟨q, 1, none⟩ (.int .i64 N.1.err)).alloc (.cells #[.string ⟨l3.toArray⟩, .int .i64 N.1.err] 88)).alloc (.cells #[.int .i64 y] 3)).grownBy w5 tv.ownBlock := hg5
    have hfar : ∀ j, tv.ownBlock = some j → q ≤ j := fun j hj => (O4.out.lt j hj).1
    have hne1 : some q ≠ tv.ownBlock := by
     obtain ⟨ly, hy1, _⟩ := hD4.out
     exact rowBeside O4.out hy1 (by decide)
    have hne2 : some (q + 1) ≠ tv.ownBlock := by
     obtain ⟨b, z, hb⟩ := HX4.out
     exact rowBeside O4.out hb (by decide)
    have D5 := Lib.hid (show Ref6 w5 q n N.1 by
     obtain ⟨ly, hy1, hy2⟩ := hD4.out
     exact ⟨ly, (hg5.block q (Array.getElem?_eq_some_iff.1 hy1).1 hne1).trans hy1, hy2⟩)
    have X5 := Lib.hid (show ∃ b : ByteArray, ∃ z : Int, w5.heap[q + 1]? = some (.cells #[.string b, .int .i64 z] 88 (0, 0)) by
     obtain ⟨b, z, hb⟩ := HX4.out
     exact ⟨b, z, (hg5.block (q + 1) (Array.getElem?_eq_some_iff.1 hb).1 hne2).trans hb⟩)
    have hE6 : Ext w w5 := Below.grown HE5.out hg5 HE5.out.size (fun j hj => by have := hfar j hj; have := HQ.out; omega)
    have ho5 : w5.ownsRow q 3 1 v5 (k + 1) (i64s (Rec.readsM 16 S1 (k + 1)).2) := by
     rw [HNX.out, i64s_append]
     exact hown5
    have HO5 := Lib.hid ho5
    clear hown5 hg5 ho5 z0 z1 fz
    go_wp2_with fail
    go_roundw
    case rel => exact ⟨k + 1, by omega, by go_num, _, rfl, HO5.out, by unfold Hid; rw [HNX.out]; exact D5.out, X5.out, hE6⟩
    case measure => simp [intOf]; omega
  · obtain rfl : k = m := by omega
    have HO := Lib.hid ho
    obtain ⟨lk, hkk, hsm, hln⟩ := hD.out
    obtain ⟨b, z, hb⟩ := hX.out
    have z0 := cell_of_heap hkk 0
    have z1 := cell_of_heap hkk 1
    have y0 := cell_of_heap hb 0
    have y1 := cell_of_heap hb 1
    have fy := fun i => frozen_of_heap hb i
    simp at z0 z1 y0 y1
    obtain ⟨a9, n9, c9, rfl⟩ := ownSlice ho
    have hB9 := (setTwo6 hb (.string ⟨lk.toArray⟩) (.int .i64 (Rec.readsM 16 S1 k).1.err)).2
    have O9 := Lib.hid (rowBut HO.out (rowBeside HO.out hb (by decide)) hB9)
    have E9 := Lib.hid (Below.trans (B := w.heap.size) hE (hB9.below (by have := HQ.out; omega) hE.size))
    clear ho hkk hb hB9
    go_wp2_with fail
    refine bodyPost_ret (v := .tuple #[.agg #[.string ⟨lk.toArray⟩, .int .i64 (Rec.readsM 16 S1 k).1.err], .slice a9 n9 c9]) (by simp [results, Tryz.results134, go_sem, z0, z1, y0, y1, fy]) rfl ?_
    refine ⟨lk, .slice a9 n9 c9, rfl, hsm, hln, ?_, E9.out⟩
    unfold OwnI
    rw [Rec.readsM_len]
    exact rowLower O9.out (Nat.le_of_eq HQ.out)
def RowConf (w : World) (v : Value) (c : Term.C) : Prop := ∃ s d, v = confV c.term s d ∧ RowI w s c.seqs ∧ RowRR w d c.shards
theorem RowConf.is {w : World} {v : Value} {c : Term.C} (h : RowConf w v c) : IsConf w v c := by
 obtain ⟨s, d, e, h1, h2⟩ := h
 exact ⟨s, d, e, h1.ints, h2.rows⟩
def GivesRow6 (w : World) (l : List UInt8) (x : Ending) (w' : World) : Prop := ∃ v, x = .returned (.tuple #[v, .int .i64 (Term.errOf (Term.dec l))]) ∧ RowConf w' v (Term.confOf (Term.dec l)) ∧ Ext w w'
theorem build_conf0 (w : World) : (Instr.build 43 #[]).run Tryz.prog w = .ok (.agg #[.int .i64 0, .slice none 0 0, .slice none 0 0]) w := by kernel_rfl
theorem build_conf2 (w : World) (n : Int) (a : Option Addr) (m c : Nat) : (Instr.build 43 #[(0, .int .i64 n), (1, .slice a m c)]).run Tryz.prog w = .ok (.agg #[.int .i64 n, .slice a m c, .slice none 0 0]) w := by kernel_rfl
theorem ConfAt.setAll {T : TypeId} {w : World} {p : Nat} {n : Int} {s d : Value} (h : ConfAt T w p n s d) (n' : Int) (s' d' : Value) :
 ConfAt T (((w.setCell ⟨p, 0, none⟩ (.int .i64 n')).setCell ⟨p, 1, none⟩ s').setCell ⟨p, 2, none⟩ d') p n' s' d' ∧ But p w (((w.setCell ⟨p, 0, none⟩ (.int .i64 n')).setCell ⟨p, 1, none⟩ s').setCell ⟨p, 2, none⟩ d') := by
 refine ⟨?_, (((But.refl _ _).setCell 0 none _).setCell 1 none _).setCell 2 none _⟩
 have := heap_setCell (heap_setCell (heap_setCell h 0 (.int .i64 n')) 1 s') 2 d'
 unfold ConfAt
 simpa using this
theorem ConfAt.setD {T : TypeId} {w : World} {p : Nat} {n : Int} {s d : Value} (h : ConfAt T w p n s d) (d' : Value) : ConfAt T (w.setCell ⟨p, 2, none⟩ d') p n s d' := by
 have := heap_setCell h 2 d'
 unfold ConfAt
 simpa using this
theorem ConfAt.setS {T : TypeId} {w : World} {p : Nat} {n : Int} {s d : Value} (h : ConfAt T w p n s d) (s' : Value) : ConfAt T (w.setCell ⟨p, 1, none⟩ s') p n s' d := by
 have := heap_setCell h 1 s'
 unfold ConfAt
 simpa using this
theorem ConfAt.setN {T : TypeId} {w : World} {p : Nat} {n : Int} {s d : Value} (h : ConfAt T w p n s d) (n' : Int) : ConfAt T (w.setCell ⟨p, 0, none⟩ (.int .i64 n')) p n' s d := by
 have := heap_setCell h 0 (.int .i64 n')
 unfold ConfAt
 simpa using this
theorem ConfAt.later {T : TypeId} {w : World} {p : Nat} {n : Int} {s d : Value} {o : Obj} (h : ConfAt T w p n s d) : p ≤ (w.alloc o).heap.size := by have := h.lt; rw [World.size_alloc]; omega
theorem ConfAt.grown {T : TypeId} {w w' : World} {p : Nat} {n : Int} {s d : Value} {o : Option Nat} (h : ConfAt T w p n s d) (hg : w.grownBy w' o) (hne : some p ≠ o) : ConfAt T w' p n s d := (hg.block p h.lt hne).trans h
theorem confZero (T : TypeId) (w : World) : ConfAt T (w.alloc (.cells #[.int .i64 0, .slice none 0 0, .slice none 0 0] T)) w.heap.size 0 (.slice none 0 0) (.slice none 0 0) := ConfAt.new T w 0 _ _
theorem cutOf_le6 {l t : List UInt8} (h : Crc.cutOf l = some t) : t.length ≤ l.length := by
 unfold Crc.cutOf at h
 split at h
 · cases h
 · split at h
   · injection h with h
     rw [← h, List.length_take]
     omega
   · cases h
theorem Term.gok_eq {m1 m2 nd : Int} {l : List UInt8} {S : Pack.St} {c : Term.C} (h1 : (Term.gD m1 m2 nd l).1 = S) (h2 : Term.gread m1 m2 nd l = c) : Term.gok m1 m2 nd l = ((S.done == 0) && Term.right c) := by unfold Term.gok; rw [h1, h2]
set_option maxHeartbeats 16000000 in
theorem decode6_row (v : Value) (l : List UInt8) (w : World) (hv : Bytes w v l) (hl : l.length ≤ 200000) :
 Calls Tryz.prog 106 #[v] w (GivesRow6 w l) := by
 have hb0 := build_conf0
 have hb1 := build_conf2
 have HV := Lib.hid hv
 obtain ⟨a, cap, rfl, hcap, hmax, hn, hc⟩ := hv.open
 unfold maxLen at hmax
 clear hv hc
 unfold GivesRow6
 have hno := fun h => Term.dec_cut (b := l) h
 have hyes := fun t h1 h2 => Term.dec_gok (m1 := 7) (m2 := 3) (nd := 15) (b := l) (l := t) h1 h2
 have hnot := fun t h1 h2 => Term.dec_gnot (m1 := 7) (m2 := 3) (nd := 15) (by decide) (by decide) (by decide) (b := l) (l := t) h1 h2
 have hlen := fun t h => cutOf_le6 (l := l) (t := t) h
 obtain ⟨D, hD⟩ : ∃ D, Term.dec l = D := ⟨_, rfl⟩
 obtain ⟨C, hC⟩ : ∃ C, Crc.cutOf l = C := ⟨_, rfl⟩
 rw [hC] at hno hyes hnot hlen
 rw [hD] at hno hyes hnot ⊢
 have HC := Lib.hid hC
 have HNO := Lib.hid hno
 have HYES := Lib.hid hyes
 have HNOT := Lib.hid hnot
 have HLEN := Lib.hid hlen
 clear hC hD hno hyes hnot hlen
 have hE0 : Ext w (w.alloc (.cells #[.int .i64 0, .slice none 0 0, .slice none 0 0] 43)) := Ext.alloc _ _
 have HR0 := Lib.hid (confZero 43 w)
 go_enter Tryz.func106, Tryz.ntmps106
 go_wp2_with fail
 refine (new_any _).mono ?_
 rintro e w1 ⟨rfl, ht1, hE1⟩
 rw [World.size_alloc] at ht1 ⊢
 have r1 := Lib.hid (HR0.out.ext hE1)
 have e1 := hE0.trans hE1
 go_wp2_with fail
 have hcall := cut_any _ 0 0 _ l _ ht1 (.inl rfl) (HV.out.below e1) hl
 rw [HC.out] at hcall
 refine hcall.mono ?_
 clear hcall
 intro e w2 hq
 obtain ⟨-, hB2, hcut⟩ := hq
 have e2 : Ext w w2 := Below.trans (B := w.heap.size) e1 (hB2.below (Nat.le_succ _) e1.size)
 have r2 := Lib.hid (r1.out.but hB2 (by simp))
 obtain ⟨c0, c1, c2⟩ := r2.out.cells
 have fr : ∀ i, w2.frozen? ⟨w.heap.size, i, none⟩ = false := fun i => frozen_of_heap r2.out i
 cases C with
 | none =>
  subst hcut
  have hno := HNO.out rfl
  subst hno
  go_wp2_with fail
  have hs := r2.out.setAll 0 (.slice none 0 0) (.slice none 0 0)
  exact bodyPost_ret (v := .tuple #[confV 0 (.slice none 0 0) (.slice none 0 0), .int .i64 60]) (by simp [results, Tryz.results106, go_sem, c0, c1, c2, fr, confV]) rfl
   ⟨_, rfl, ⟨_, _, rfl, RowI.nil _, RowRR.nil _⟩, Below.trans (B := w.heap.size) e2 (hs.2.below (Nat.le_refl _) e2.size)⟩
 | some t =>
  obtain ⟨v2, rfl, hb2⟩ := hcut
  have htl : t.length ≤ l.length := HLEN.out t rfl
  obtain ⟨A1, nA, hA⟩ : ∃ A1 nA, Term.gA t = (A1, nA) := ⟨_, _, rfl⟩
  obtain ⟨B1, nB, hB⟩ : ∃ B1 nB, Term.gB 7 15 t = (B1, nB) := ⟨_, _, rfl⟩
  obtain ⟨C1, m, hC⟩ : ∃ C1 m, Term.gC 7 15 t = (C1, m) := ⟨_, _, rfl⟩
  have hA' : Pack.St.num ⟨t, 0⟩ 64 = (A1, nA) := hA
  have hB' : Term.gRow 7 15 A1 = (B1, nB) := by rw [← hB]; unfold Term.gB; rw [hA]
  have hC' : B1.num 8 = (C1, m) := by rw [← hC]; unfold Term.gC; rw [hB]
  have hm8 : m ≤ 8 := by
   have := numMost B1 8 (by omega)
   rw [hC'] at this
   simp only at this
   omega
  have HGR := Lib.hid (show (Term.gD 7 3 15 t).1 = (Term.gRows 3 15 C1 m).1 ∧ Term.gread 7 3 15 t = ⟨(nA : Int), nB, (Term.gRows 3 15 C1 m).2⟩ by unfold Term.gread Term.gD; rw [hA, hB, hC]; exact ⟨rfl, rfl⟩)
  have HA := Lib.hid hA'
  have HB := Lib.hid hB'
  have HCC := Lib.hid hC'
  clear hA hB hC hA' hB' hC' c0 c1 c2 fr
  obtain ⟨a2, n2, k2, rfl⟩ := hb2.isSlice
  go_wp2_with fail
  refine (newReader_any _ t _ hb2 (by omega)).mono ?_
  rintro e w3 ⟨p, rfl, hp, hr3, hE3⟩
  have e3 := e2.trans hE3
  have r3 := Lib.hid (r2.out.ext hE3)
  have hq0 : w.heap.size ≠ p := by have := r2.out.lt; omega
  have hwp : w.heap.size ≤ p := Nat.le_trans e2.size hp
  go_wp2_with fail
  refine (num_any p _ 64 _ hr3).mono ?_
  rw [HA.out]
  rintro e w4 ⟨rfl, hB4, hr4⟩
  obtain ⟨x, hx⟩ : ∃ x : Int, (nA : Int) = x := ⟨_, rfl⟩
  have HX := Lib.hid hx
  dsimp only
  rw [hx]
  rw [hx] at HGR
  clear hx
  have r4 := Lib.hid (r3.out.but hB4 hq0)
  have e4 : Ext w w4 := Below.trans (B := w.heap.size) e3 (hB4.below hwp e3.size)
  go_wp2_with fail
  refine (readRow6_any p 7 _ _ hr4 (by omega)).mono ?_
  rw [show (((7 : Nat) : Int)) = 7 from rfl, HB.out]
  rintro e w5 ⟨v5, rfl, ho5, hB5, hr5⟩
  obtain ⟨sa, sn, sc, rfl⟩ := ho5.slice
  have r5 := Lib.hid (r4.out.but hB5 hq0)
  have e5 : Ext w w5 := Below.trans (B := w.heap.size) e4 (hB5.below hwp e4.size)
  have O5 := Lib.hid (ho5.lower e4.size)
  have hpq : p < w5.heap.size := hr5.lt
  have hE6 : Ext w5 (w5.alloc (.cells #[.int .i64 x, .slice sa sn sc, .slice none 0 0] 43)) := Ext.alloc _ _
  have x6 := Lib.hid (ConfAt.new 43 w5 x (.slice sa sn sc) (.slice none 0 0))
  have r6 := Lib.hid (r5.out.ext hE6)
  have e6 := e5.trans hE6
  have O6 := Lib.hid (O5.out.ext hE6)
  have R6 := Lib.hid (hr5.ext hE6)
  have hwq : w.heap.size < w5.heap.size := by have := r5.out.lt; omega
  clear ho5 hr5 hr4 hr3
  go_wp2_with fail
  refine (num_any p _ 8 _ R6.out).mono ?_
  rw [HCC.out]
  rintro e w7 ⟨rfl, hB7, hr7⟩
  have hpr6 : ∃ q, w5.heap.size = q := ⟨_, rfl⟩
  obtain ⟨q, hq⟩ := hpr6
  rw [hq] at x6 hpq hwq ⊢
  obtain ⟨ra, rn, rc, hpp⟩ := R6.out.heapOf
  have x7 := Lib.hid (x6.out.but hB7 (by omega))
  have r7 := Lib.hid (r6.out.but hB7 hq0)
  have O7 := Lib.hid (O6.out.but hpp (by decide) hB7)
  have e7 : Ext w w7 := Below.trans (B := w.heap.size) e6 (hB7.below hwp e6.size)
  have R7 := Lib.hid hr7
  clear hq hpp hr7
  go_wp2_with fail
  go_loopw [26] (fun i wr => ∃ k : Nat, k ≤ m ∧ i = .int .i64 k ∧ ∃ dv, Hid (ConfAt 43 wr q x (.slice sa sn sc) dv) ∧ Hid (OwnRR wr q dv (Term.gRows 3 15 C1 k).2) ∧ Hid (OwnI wr w.heap.size (.slice sa sn sc) nB) ∧ Hid (RD wr p (Term.gRows 3 15 C1 k).1) ∧ Hid (ConfAt 43 wr w.heap.size 0 (.slice none 0 0) (.slice none 0 0)) ∧ Ext w wr) (fun i _ => m - (intOf i).toNat)
  case atStart => exact ⟨0, by omega, rfl, _, x7, OwnRR.nil _ _, O7, R7, r7, e7⟩
  case round =>
   obtain ⟨k, hk, rfl, dv, X, O, OS, HR, R, hE⟩ := hrel
   by_cases hlt : k < m
   · obtain ⟨N, hN⟩ : ∃ N, Term.gRow 3 15 (Term.gRows 3 15 C1 k).1 = N := ⟨_, rfl⟩
     have HNX := Lib.hid (show Term.gRows 3 15 C1 (k + 1) = (N.1, (Term.gRows 3 15 C1 k).2 ++ [N.2]) by
      show ((Term.gRow 3 15 (Term.gRows 3 15 C1 k).1).1, (Term.gRows 3 15 C1 k).2 ++ [(Term.gRow 3 15 (Term.gRows 3 15 C1 k).1).2]) = _
      rw [hN])
     have HN := Lib.hid hN
     have HK := Lib.hid (show (Term.gRows 3 15 C1 k).2.length = k from Term.gRows_len _ _ _ _)
     have hqr : q < wr.heap.size := X.out.lt
     obtain ⟨pa, pn, pc, hpp⟩ := HR.out.heapOf
     have HPP := Lib.hid hpp
     obtain ⟨xs, h1, h2, h3⟩ := O.out
     rw [HK.out] at h1
     have H1 := Lib.hid h1
     have H2 := Lib.hid h2
     have H3 := Lib.hid h3
     have hk1 : ∀ u : Value, k + [u].length ≤ maxLen := fun u => by simp [maxLen]; omega
     have hk2 : ∀ u : Value, (k + [u].length) * 24 ≤ 140737488355328 := fun u => by simp; omega
     have HK1 := Lib.hid hk1
     have HK2 := Lib.hid hk2
     have HCL := Lib.hid (fun (w' : World) (h : ConfAt 43 w' q x (.slice sa sn sc) dv) => h.cells.2.2)
     have HOWN1 := Lib.hid (show ∀ (w6 : World) (u : Value), But p wr.drew w6 → (w6.alloc (.cells #[u] 24)).ownsRow q 24 1 dv k xs from fun w6 u hB => (rowBut H1.out.drew (rowBeside H1.out.drew (show wr.drew.heap[p]? = _ from HPP.out) (by decide)) hB).alloc _)
     have HBS := Lib.hid (rowBeside H1.out X.out (by decide))
     have hc1 := X.out.cells.2.2
     clear hN hpp h1 h2 h3 hk1 hk2
     go_wp2_with fail
     go_region_law
      (first
        | (go_simp; go_at_call 129; refine (readRow6_any p 3 _ _ (HR.out.ext (Ext.drew wr)) (by omega)).mono ?_; rw [show (((3 : Nat) : Int)) = 3 from rfl, HN.out]; rintro e w8 ⟨u8, rfl, hu8, hB8, hr8⟩; obtain ⟨ua, un, uc, rfl⟩ := hu8.slice; have U8 := Lib.hid hu8; have R8 := Lib.hid hr8; clear hu8 hr8; have x8 := Lib.hid (ConfAt.but (X.out.ext (Ext.drew wr)) hB8 (by omega)); have hc8 := HCL.out w8 x8.out; have hc8a := HCL.out (w8.alloc (.cells #[.slice ua un uc] 24)) (x8.out.ext (Ext.alloc _ _)); have hq8 := ConfAt.later (o := .cells #[.slice ua un uc] 24) x8.out)
        | (rw [if_pos (by rfl)]; refine wp_app (.tmp 29) (.tmp 32) tRow rfl rfl rfl (HOWN1.out _ _ hB8) (slOne w8 (.slice ua un uc) 24) (oneSlice ⟨_, _, _, rfl⟩) (HK1.out _) (HK2.out _) hq8 ?_; intro v9 w9 hown9 hg9; have hg9 : (w8.alloc (.cells #[.slice ua un uc] 24)).grownBy w9 dv.ownBlock := hg9; obtain ⟨a9, n9, c9, rfl⟩ := ownSlice hown9; have x9 := Lib.hid (ConfAt.grown (x8.out.ext (Ext.alloc _ _)) hg9 HBS.out); have hc9 := HCL.out w9 x9.out; have hf9 := frozen_of_heap x9.out 2))
     all_goals
      have hrow1 := HOWN1.out w8 (.slice ua un uc) hB8
      have x10 := Lib.hid (x9.out.setD (.slice a9 n9 c9))
      have hbs := butSet w9 q 2 (.slice a9 n9 c9)
      have hpd : wr.drew.heap[p]? = some (.cells #[.slice pa pn pc, .int .i64 (Term.gRows 3 15 C1 k).1.err] 140 (0, 0)) := HPP.out
      have rr9 : OwnRR w9 q (.slice a9 n9 c9) ((Term.gRows 3 15 C1 k).2 ++ [N.2]) := by
       refine OwnRR.snoc (w := w8.alloc (.cells #[.slice ua un uc] 24)) (v := dv) (xs := xs) (by rw [HK.out]; exact hrow1) H2.out (fun i hi hi' => (OwnI.but (((H3.out i hi hi').ext (Ext.drew wr))) hpd (by decide) hB8).ext (Ext.alloc _ _)) ((U8.out.ext (Ext.alloc _ _)).lower (Nat.le_of_lt hqr)) hg9 (by rw [HK.out]; exact hown9)
      have rr10 := Lib.hid (rr9.but x9.out (by decide) (by decide) hbs)
      have s9 : OwnI w9 w.heap.size (.slice sa sn sc) nB := ((OwnI.but (OS.out.ext (Ext.drew wr)) hpd (by decide) hB8).ext (Ext.alloc _ _)).grown hrow1 hg9
      have s10 := Lib.hid (s9.but x9.out (by decide) hbs)
      have hr10 := ((R8.out.ext (Ext.alloc w8 (.cells #[.slice ua un uc] 24))).grownRow hrow1 hg9 hpq).setBehind (o := 2) (v := .slice a9 n9 c9) hpq
      have hq0q : some w.heap.size ≠ dv.ownBlock := fun e => by have := (hrow1.lt _ e.symm).1; omega
      have hr0 := (ConfAt.grown ((ConfAt.but (R.out.ext (Ext.drew wr)) hB8 hq0).ext (Ext.alloc w8 (.cells #[.slice ua un uc] 24))) hg9 hq0q)
      have HR0 := Lib.hid (hr0.but hbs (by omega))
      have hE8 : Ext w w8 := Below.trans (B := w.heap.size) (hE.trans (Ext.drew wr)) (hB8.below hwp (hE.trans (Ext.drew wr)).size)
      have hE9 : Ext w w9 := Below.grown (hE8.trans (Ext.alloc w8 (.cells #[.slice ua un uc] 24))) hg9 (hE8.trans (Ext.alloc w8 (.cells #[.slice ua un uc] 24))).size (fun j hj => by have := (hrow1.lt j hj).1; omega)
      have hE10 : Ext w (w9.setCell ⟨q, 2, none⟩ (.slice a9 n9 c9)) := Below.setCell hE9 (p := ⟨q, 2, none⟩) (Nat.le_of_lt hwq) _
      have RD10 := Lib.hid (show RD (w9.setCell ⟨q, 2, none⟩ (.slice a9 n9 c9)) p (Term.gRows 3 15 C1 (k + 1)).1 by rw [HNX.out]; exact hr10)
      rw [← show (Term.gRows 3 15 C1 (k + 1)).2 = (Term.gRows 3 15 C1 k).2 ++ [N.2] by rw [HNX.out]] at rr10
      clear hrow1 hbs hpd rr9 s9 hr10 hr0 hown9 hg9 hc9 hf9 hc8 hc8a hc1
      go_wp2
      go_roundw
      case rel => exact ⟨k + 1, by omega, by go_num, _, x10, rr10, s10, RD10, HR0, hE10⟩
      case measure => simp [intOf]; omega
   · obtain rfl : k = m := by omega
     obtain ⟨S2, hS2⟩ : ∃ S2, (Term.gRows 3 15 C1 k).1 = S2 := ⟨_, rfl⟩
     obtain ⟨L2, hL2⟩ : ∃ L2, (Term.gRows 3 15 C1 k).2 = L2 := ⟨_, rfl⟩
     rw [hS2, hL2] at HGR
     rw [hL2] at O
     rw [hS2] at HR
     have HOK := Lib.hid (Term.gok_eq HGR.out.1 HGR.out.2)
     have HRD := Lib.hid HGR.out.2
     have HXB := Lib.hid (show ∀ w', Ext wr w' → IsConf w' (confV x (.slice sa sn sc) dv) ⟨x, nB, L2⟩ from fun w' h => ⟨_, _, rfl, (OS.out.ext h).ints, (O.out.ext h).rows⟩)
     obtain ⟨da, dn, dc, rfl⟩ := O.out.slice
     clear hS2 hL2 HGR
     go_wp2_with fail
     refine (end_any p _ _ HR.out).mono ?_
     obtain ⟨d, hdd⟩ : ∃ d, S2.done = d := ⟨_, rfl⟩
     rw [hdd] at HOK ⊢
     clear hdd
     rintro e w10 ⟨rfl, rfl⟩
     by_cases hd : d = 0
     · subst hd
       have HOK2 := Lib.hid (show Term.gok 7 3 15 t = Term.right ⟨x, nB, L2⟩ by rw [HOK.out]; rfl)
       obtain ⟨d0, d1, d2⟩ := X.out.cells
       clear HOK
       go_wp2_with fail
       refine (right6_any _ ⟨x, nB, L2⟩ _ (HXB.out _ (Ext.refl _))).mono ?_
       rintro e w11 ⟨rfl, hE11⟩
       have r11 := Lib.hid (R.out.ext hE11)
       have x11 := Lib.hid (X.out.ext hE11)
       have e11 := hE.trans hE11
       clear d0 d1 d2
       obtain ⟨c0, c1, c2⟩ := r11.out.cells
       obtain ⟨d0, d1, d2⟩ := x11.out.cells
       have fr : ∀ i, w11.frozen? ⟨w.heap.size, i, none⟩ = false := fun i => frozen_of_heap r11.out i
       cases hrr : Term.right ⟨x, nB, L2⟩ with
       | false =>
        have hno := HNOT.out t rfl (HOK2.out.trans hrr)
        subst hno
        clear hrr HOK2
        go_wp2_with fail
        have hs := r11.out.setAll 0 (.slice none 0 0) (.slice none 0 0)
        exact bodyPost_ret (v := .tuple #[confV 0 (.slice none 0 0) (.slice none 0 0), .int .i64 60]) (by simp [results, Tryz.results106, go_sem, c0, c1, c2, fr, confV]) rfl
         ⟨_, rfl, ⟨_, _, rfl, RowI.nil _, RowRR.nil _⟩, Below.trans (B := w.heap.size) e11 (hs.2.below (Nat.le_refl _) e11.size)⟩
       | true =>
        have hyes := HYES.out t rfl (HOK2.out.trans hrr)
        rw [HRD.out] at hyes
        subst hyes
        clear hrr HOK2
        go_wp2_with fail
        have hs := r11.out.setAll x (.slice sa sn sc) (.slice da dn dc)
        refine bodyPost_ret (v := .tuple #[confV x (.slice sa sn sc) (.slice da dn dc), .int .i64 0]) (by simp [results, Tryz.results106, go_sem, c0, c1, c2, d0, d1, d2, fr, confV]) rfl
         ⟨_, rfl, ⟨_, _, rfl, ?_, ?_⟩, Below.trans (B := w.heap.size) e11 (hs.2.below (Nat.le_refl _) e11.size)⟩
        · exact ⟨_, _, (OS.out.ext hE11).but r11.out (by decide) hs.2⟩
        · exact ⟨_, (O.out.ext hE11).but r11.out (by decide) (by decide) hs.2⟩
     · have hno := HNOT.out t rfl (by rw [HOK.out, show (d == 0) = false from beq_eq_false_iff_ne.2 hd]; rfl)
       subst hno
       clear HOK
       obtain ⟨c0, c1, c2⟩ := R.out.cells
       have fr : ∀ i, wr.frozen? ⟨w.heap.size, i, none⟩ = false := fun i => frozen_of_heap R.out i
       have hdn : (d != 0) = true := by rw [bne_iff_ne]; exact hd
       clear hd
       go_wp2_with fail
       have hs := R.out.setAll 0 (.slice none 0 0) (.slice none 0 0)
       exact bodyPost_ret (v := .tuple #[confV 0 (.slice none 0 0) (.slice none 0 0), .int .i64 60]) (by simp [results, Tryz.results106, go_sem, c0, c1, c2, fr, confV]) rfl
        ⟨_, rfl, ⟨_, _, rfl, RowI.nil _, RowRR.nil _⟩, Below.trans (B := w.heap.size) hE (hs.2.below (Nat.le_refl _) hE.size)⟩
end Go.Proofs.YtldfpklgbedgjaaGreat
namespace Go.Proofs.YtldfpklgbedgjaaGreat
set_option linter.unusedSimpArgs false
set_option linter.unusedVariables false
set_option maxRecDepth 100000
open Go.ChangeShapes Go.WideShapes Go.ChangeAt Go.RowKit
section
variable {H : Type} {enc : TypeId × Value → H} {w : World} {base : Nat} {spare : Nat → Bool} {held : Bool}
end
end Go.Proofs.YtldfpklgbedgjaaGreat
namespace Go.Proofs.YtldfpklgbedgjaaGreat
set_option linter.unusedSimpArgs false
set_option linter.unusedVariables false
set_option maxRecDepth 100000
open Go.RowKit
theorem build_confR0 (w : World) : (Instr.build 33 #[]).run Tryz.prog w = .ok (.agg #[.int .i64 0, .slice none 0 0, .slice none 0 0]) w := by kernel_rfl
theorem Ref6.heapOf {w : World} {q n : Nat} {s : Pack.St} (h : Ref6 w q n s) : ∃ a b, w.heap[q]? = some (.cells #[.string a, .int .i64 b] 88 (0, 0)) := by
 obtain ⟨lk, h, _⟩ := h
 exact ⟨_, _, h⟩
theorem Ref6.grown {w w' : World} {q n : Nat} {s : Pack.St} {o : Option Nat} (h : Ref6 w q n s) (hg : w.grownBy w' o) (hne : some q ≠ o) : Ref6 w' q n s := by
 obtain ⟨lk, h1, h2⟩ := h
 exact ⟨lk, (hg.block q (Array.getElem?_eq_some_iff.1 h1).1 hne).trans h1, h2⟩
set_option maxHeartbeats 16000000 in
theorem refDecode6_row (v : Value) (l : List UInt8) (w : World) (hv : Bytes w v l) (hl : l.length ≤ 100000) :
 Calls Tryz.prog 112 #[v] w (GivesRow6 w l) := by
 have hb0 := build_confR0
 have hbr := build_refR6
 have HV := Lib.hid hv
 obtain ⟨a, cap, rfl, hcap, hmax, hn, hc⟩ := hv.open
 unfold maxLen at hmax
 clear hv hc
 unfold GivesRow6
 have hno := fun h => Term.dec_cut (b := l) h
 have hyes := fun t h1 h2 => Term.dec_gok (m1 := 16) (m2 := 16) (nd := 16) (b := l) (l := t) h1 h2
 have hnot := fun t h1 h2 => Term.dec_gnot (m1 := 16) (m2 := 16) (nd := 16) (by decide) (by decide) (by decide) (b := l) (l := t) h1 h2
 have hlen := fun t h => cutOf_le6 (l := l) (t := t) h
 obtain ⟨D, hD⟩ : ∃ D, Term.dec l = D := ⟨_, rfl⟩
 obtain ⟨C, hC⟩ : ∃ C, Crc.cutOf l = C := ⟨_, rfl⟩
 rw [hC] at hno hyes hnot hlen
 rw [hD] at hno hyes hnot ⊢
 have HC := Lib.hid hC
 have HNO := Lib.hid hno
 have HYES := Lib.hid hyes
 have HNOT := Lib.hid hnot
 have HLEN := Lib.hid hlen
 clear hC hD hno hyes hnot hlen
 have hE0 : Ext w (w.alloc (.cells #[.int .i64 0, .slice none 0 0, .slice none 0 0] 33)) := Ext.alloc _ _
 have HR0 := Lib.hid (confZero 33 w)
 go_enter Tryz.func112, Tryz.ntmps112
 go_wp2_with fail
 have hcall := cut_ref _ l _ (HV.out.below hE0) (by omega)
 rw [HC.out] at hcall
 refine hcall.mono ?_
 clear hcall
 intro e w1 hq
 obtain ⟨hE1, hcut⟩ := hq
 have r1 := Lib.hid (HR0.out.ext hE1)
 have e1 := hE0.trans hE1
 obtain ⟨is, t, v2, rfl, hb2, htl, hno2, hyes2, hnot2⟩ : ∃ (is : Bool) (t : List UInt8) (v2 : Value), e = .returned (.tuple #[v2, .bool is]) ∧ Bytes w1 v2 t ∧ t.length ≤ l.length ∧ Hid (is = false → D = none) ∧ Hid (is = true → Term.gok 16 16 16 t = true → D = some (Term.gread 16 16 16 t)) ∧ Hid (is = true → Term.gok 16 16 16 t = false → D = none) := by
  cases C with
  | none =>
   subst hcut
   exact ⟨false, [], _, rfl, bytes_none _, by simp, fun _ => HNO.out rfl, (fun h => by cases h), (fun h => by cases h)⟩
  | some t =>
   obtain ⟨v2, rfl, hb2⟩ := hcut
   exact ⟨true, t, v2, rfl, hb2, HLEN.out t rfl, (fun h => by cases h), fun _ => HYES.out t rfl, fun _ => HNOT.out t rfl⟩
 clear hcut HC HNO HYES HNOT HLEN
 have hst := run_str (P := Tryz.prog) 38 9 5 Tryz.underlying38 Tryz.underlying5 Tryz.underlying9 (hb2.below (Ext.alloc w1 (.cells #[.int .i64 0, .slice none 0 0, .slice none 0 0] 33)))
 obtain ⟨a2, n2, k2, rfl⟩ := hb2.isSlice
 obtain ⟨A1, nA, hA⟩ : ∃ A1 nA, Term.gA t = (A1, nA) := ⟨_, _, rfl⟩
 obtain ⟨B1, nB, hB⟩ : ∃ B1 nB, Term.gB 16 16 t = (B1, nB) := ⟨_, _, rfl⟩
 obtain ⟨C1, m, hC⟩ : ∃ C1 m, Term.gC 16 16 t = (C1, m) := ⟨_, _, rfl⟩
 have hA' : Pack.St.num ⟨t, 0⟩ 64 = (A1, nA) := hA
 have hB' : Term.gRow 16 16 A1 = (B1, nB) := by rw [← hB]; unfold Term.gB; rw [hA]
 have hC' : B1.num 8 = (C1, m) := by rw [← hC]; unfold Term.gC; rw [hB]
 have hm8 : m ≤ 8 := by
  have := numMost B1 8 (by omega)
  rw [hC'] at this
  simp only at this
  omega
 have HGR := Lib.hid (show (Term.gD 16 16 16 t).1 = (Term.gRows 16 16 C1 m).1 ∧ Term.gread 16 16 16 t = ⟨(nA : Int), nB, (Term.gRows 16 16 C1 m).2⟩ by unfold Term.gread Term.gD; rw [hA, hB, hC]; exact ⟨rfl, rfl⟩)
 have HB := Lib.hid hB'
 have HCC := Lib.hid hC'
 have h1 := readNumRef_any t 64 ⟨t, 0⟩ ((w1.alloc (.cells #[.int .i64 0, .slice none 0 0, .slice none 0 0] 33)).alloc (.cells #[.string ⟨t.toArray⟩, .int .i64 0] 88)) ⟨fun _ => rfl, fun h => absurd rfl h⟩ (by omega)
 rw [hA'] at h1
 unfold refVal at h1
 have H1 := Lib.hid h1
 have hE2 : Ext w1 ((w1.alloc (.cells #[.int .i64 0, .slice none 0 0, .slice none 0 0] 33)).alloc (.cells #[.string ⟨t.toArray⟩, .int .i64 0] 88)) := ext_two _ _ _
 have HH := Lib.hid (heap_two w1 (.cells #[.int .i64 0, .slice none 0 0, .slice none 0 0] 33) (.cells #[.string ⟨t.toArray⟩, .int .i64 0] 88))
 clear hA hB hC hA' hB' hC' h1 hb2
 go_wp2_with fail
 refine H1.out.mono ?_
 rintro e w2 ⟨l2, rfl, hs2, hl2, hE3⟩
 obtain ⟨x, hx⟩ : ∃ x : Int, (nA : Int) = x := ⟨_, rfl⟩
 have HX := Lib.hid hx
 dsimp only
 rw [hx]
 rw [hx] at HGR
 have e2 := e1.trans (hE2.trans hE3)
 have X2 := Lib.hid (show ConfAt 33 w2 w1.heap.size 0 (.slice none 0 0) (.slice none 0 0) from heap_ext HH.out.1 hE3)
 have D2 := Lib.hid (show Ref6 w2 (w1.heap.size + 1) t.length ⟨t, 0⟩ from ⟨t, heap_ext HH.out.2 hE3, ⟨fun _ => rfl, fun h => absurd rfl h⟩, Nat.le_refl _⟩)
 have R2 := Lib.hid (r1.out.ext (hE2.trans hE3))
 have h01 : w.heap.size < w1.heap.size := r1.out.lt
 obtain ⟨q, hq⟩ : ∃ q, w1.heap.size = q := ⟨_, rfl⟩
 rw [hq] at D2 X2 h01 ⊢
 clear hq HH H1 hst hx hE2 hE3 hE1 hE0 HR0 r1
 obtain ⟨lk, hk, hsm, hln⟩ := D2.out
 have z0 := cell_of_heap hk 0
 have z1 := cell_of_heap hk 1
 have fz := fun i => frozen_of_heap hk i
 simp at z0 z1
 obtain ⟨c0, c1, c2⟩ := X2.out.cells
 have fx := fun i => frozen_of_heap X2.out i
 have hDD := D2.out.set hs2 (show l2.length ≤ t.length by omega)
 have D3 := Lib.hid (hDD.1.but (butSet _ q 0 (.int .i64 x)) (by omega))
 have X3 := Lib.hid (ConfAt.setN (X2.out.but hDD.2 (by omega)) x)
 have R3 := Lib.hid ((R2.out.but hDD.2 (by omega)).but (butSet _ q 0 (.int .i64 x)) (by omega))
 have e3 : Ext w (((w2.setCell ⟨q + 1, 0, none⟩ (.string ⟨l2.toArray⟩)).setCell ⟨q + 1, 1, none⟩ (.int .i64 A1.err)).setCell ⟨q, 0, none⟩ (.int .i64 x)) := Below.setCell (Below.trans (B := w.heap.size) e2 (hDD.2.below (by omega) e2.size)) (p := ⟨q, 0, none⟩) (by show w.heap.size ≤ q; omega) _
 clear hk hDD
 go_wp2_with fail
 generalize hw : (((w2.setCell ⟨q + 1, 0, none⟩ (.string ⟨l2.toArray⟩)).setCell ⟨q + 1, 1, none⟩ (.int .i64 A1.err)).setCell ⟨q, 0, none⟩ (.int .i64 x)) = w3 at *
 clear hw z0 z1 fz c0 c1 c2 fx D2 X2 R2
 have hcall := refReadRow6_any l2 A1 t.length w3 hs2 (by omega) (by omega)
 rw [HB.out] at hcall
 unfold RowRef6 refVal at hcall
 refine hcall.mono ?_
 clear hcall
 rintro e w4 ⟨l4, v4, rfl, hs4, hl4, ho4, hE4⟩
 obtain ⟨sa, sn, sc, rfl⟩ := ho4.slice
 have e4 := e3.trans hE4
 have D4 := Lib.hid (D3.out.ext hE4)
 have X4 := Lib.hid (X3.out.ext hE4)
 have R4 := Lib.hid (R3.out.ext hE4)
 obtain ⟨lk, hk, hsm, hln⟩ := D4.out
 have z0 := cell_of_heap hk 0
 have z1 := cell_of_heap hk 1
 have fz := fun i => frozen_of_heap hk i
 simp at z0 z1
 obtain ⟨c0, c1, c2⟩ := X4.out.cells
 have fx := fun i => frozen_of_heap X4.out i
 have hDD := D4.out.set hs4 (show l4.length ≤ t.length by omega)
 have X5' := X4.out.but hDD.2 (by omega)
 have D5 := Lib.hid (hDD.1.but (butSet _ q 1 (.slice sa sn sc)) (by omega))
 have X5 := Lib.hid (ConfAt.setS X5' (.slice sa sn sc))
 have R5 := Lib.hid ((R4.out.but hDD.2 (by omega)).but (butSet _ q 1 (.slice sa sn sc)) (by omega))
 have O5 := Lib.hid ((((ho4.lower e3.size).but hk (by decide) hDD.2)).but X5' (by decide) (butSet _ q 1 (.slice sa sn sc)))
 have e5 : Ext w (((w4.setCell ⟨q + 1, 0, none⟩ (.string ⟨l4.toArray⟩)).setCell ⟨q + 1, 1, none⟩ (.int .i64 B1.err)).setCell ⟨q, 1, none⟩ (.slice sa sn sc)) := Below.setCell (Below.trans (B := w.heap.size) e4 (hDD.2.below (by omega) e4.size)) (p := ⟨q, 1, none⟩) (by show w.heap.size ≤ q; omega) _
 clear hk hDD X5' ho4
 go_wp2_with fail
 generalize hw : (((w4.setCell ⟨q + 1, 0, none⟩ (.string ⟨l4.toArray⟩)).setCell ⟨q + 1, 1, none⟩ (.int .i64 B1.err)).setCell ⟨q, 1, none⟩ (.slice sa sn sc)) = w5 at *
 clear hw z0 z1 fz c0 c1 c2 fx D4 X4 R4 D3 X3 R3 hE4
 have hcall := readNumRef_any l4 8 B1 w5 hs4 (by omega)
 rw [HCC.out] at hcall
 unfold refVal at hcall
 refine hcall.mono ?_
 clear hcall
 rintro e w6 ⟨l6, rfl, hs6, hl6, hE6⟩
 have e6 := e5.trans hE6
 have D6 := Lib.hid (D5.out.ext hE6)
 have X6 := Lib.hid (X5.out.ext hE6)
 have R6 := Lib.hid (R5.out.ext hE6)
 have O6 := Lib.hid (O5.out.ext hE6)
 obtain ⟨lk, hk, hsm, hln⟩ := D6.out
 have z0 := cell_of_heap hk 0
 have z1 := cell_of_heap hk 1
 have fz := fun i => frozen_of_heap hk i
 simp at z0 z1
 have hDD := D6.out.set hs6 (show l6.length ≤ t.length by omega)
 have D7 := Lib.hid hDD.1
 have X7 := Lib.hid (X6.out.but hDD.2 (by omega))
 have R7 := Lib.hid (R6.out.but hDD.2 (by omega))
 have O7 := Lib.hid (O6.out.but hk (by decide) hDD.2)
 have e7 : Ext w ((w6.setCell ⟨q + 1, 0, none⟩ (.string ⟨l6.toArray⟩)).setCell ⟨q + 1, 1, none⟩ (.int .i64 C1.err)) := Below.trans (B := w.heap.size) e6 (hDD.2.below (by omega) e6.size)
 clear hk hDD
 go_wp2_with fail
 generalize hw : ((w6.setCell ⟨q + 1, 0, none⟩ (.string ⟨l6.toArray⟩)).setCell ⟨q + 1, 1, none⟩ (.int .i64 C1.err)) = w7 at *
 clear hw z0 z1 fz D6 X6 R6 D5 X5 R5 O5 O6 hE6
 go_loopw [9, 10, 11] (fun i _ _ wr => ∃ k : Nat, k ≤ m ∧ i = .int .i64 k ∧ ∃ dv, Hid (ConfAt 33 wr q x (.slice sa sn sc) dv) ∧ Hid (OwnRR wr q dv (Term.gRows 16 16 C1 k).2) ∧ Hid (OwnI wr w.heap.size (.slice sa sn sc) nB) ∧ Hid (Ref6 wr (q + 1) t.length (Term.gRows 16 16 C1 k).1) ∧ Hid (ConfAt 33 wr w.heap.size 0 (.slice none 0 0) (.slice none 0 0)) ∧ Ext w wr) (fun i _ _ _ => m - (intOf i).toNat)
 case atStart => exact ⟨0, by omega, rfl, _, X7, OwnRR.nil _ _, O7, D7, R7, e7⟩
 case round =>
  obtain ⟨k, hk, rfl, dv, X, O, OS, D, R, hE⟩ := hrel
  by_cases hlt : k < m
  · obtain ⟨N, hN⟩ : ∃ N, Term.gRow 16 16 (Term.gRows 16 16 C1 k).1 = N := ⟨_, rfl⟩
    have HNX := Lib.hid (show Term.gRows 16 16 C1 (k + 1) = (N.1, (Term.gRows 16 16 C1 k).2 ++ [N.2]) by
     show ((Term.gRow 16 16 (Term.gRows 16 16 C1 k).1).1, (Term.gRows 16 16 C1 k).2 ++ [(Term.gRow 16 16 (Term.gRows 16 16 C1 k).1).2]) = _
     rw [hN])
    have HN := Lib.hid hN
    have HK := Lib.hid (show (Term.gRows 16 16 C1 k).2.length = k from Term.gRows_len _ _ _ _)
    obtain ⟨lk, hkk, hsm, hln⟩ := D.out
    have hcall := refReadRow6_any lk _ t.length wr hsm (by omega) (by omega)
    rw [HN.out] at hcall
    unfold RowRef6 refVal at hcall
    have HCALL := Lib.hid hcall
    have z0 := cell_of_heap hkk 0
    have z1 := cell_of_heap hkk 1
    simp at z0 z1
    have hqlt := D.out.lt
    clear hN hcall hkk
    go_wp2_with fail
    refine HCALL.out.mono ?_
    rintro e w8 ⟨l8, v8, rfl, hs8, hl8, ho8, hE8⟩
    obtain ⟨ua, un, uc, rfl⟩ := ho8.slice
    clear z0 z1
    have D8 := Lib.hid (D.out.ext hE8)
    have X8 := Lib.hid (X.out.ext hE8)
    obtain ⟨lj, hkj, hsj, hlj⟩ := D8.out
    have z0 := cell_of_heap hkj 0
    have z1 := cell_of_heap hkj 1
    have fz := fun i => frozen_of_heap hkj i
    simp at z0 z1
    have hq8 : q + 1 < w8.heap.size := D8.out.lt
    obtain ⟨c0, c1, c2⟩ := X8.out.cells
    have fx := fun i => frozen_of_heap X8.out i
    have hDD := D8.out.set hs8 (show l8.length ≤ t.length by omega)
    have E9 := Lib.hid (show Ext ((w8.setCell ⟨q + 1, 0, none⟩ (.string ⟨l8.toArray⟩)).setCell ⟨q + 1, 1, none⟩ (.int .i64 N.1.err)) ((((w8.setCell ⟨q + 1, 0, none⟩ (.string ⟨l8.toArray⟩)).setCell ⟨q + 1, 1, none⟩ (.int .i64 N.1.err)).alloc (.cells #[.string ⟨l8.toArray⟩, .int .i64 N.1.err] 88)).alloc (.cells #[.slice ua un uc] 24)) from (Ext.alloc _ _).trans (Ext.alloc _ _))
    have D9 := Lib.hid (hDD.1.ext E9.out)
    have X9 := Lib.hid ((X8.out.but hDD.2 (by omega)).ext E9.out)
    have R9 := Lib.hid (((R.out.ext hE8).but hDD.2 (by omega)).ext E9.out)
    have S9 := Lib.hid (((OS.out.ext hE8).but hkj (by decide) hDD.2).ext E9.out)
    have O9 := Lib.hid (((O.out.ext hE8).but hkj (by decide) (by decide) hDD.2).ext E9.out)
    have U9 := Lib.hid (((ho8.lower (show q ≤ wr.heap.size by omega)).but hkj (by decide) hDD.2).ext E9.out)
    have HE9 := Lib.hid (show Ext w ((((w8.setCell ⟨q + 1, 0, none⟩ (.string ⟨l8.toArray⟩)).setCell ⟨q + 1, 1, none⟩ (.int .i64 N.1.err)).alloc (.cells #[.string ⟨l8.toArray⟩, .int .i64 N.1.err] 88)).alloc (.cells #[.slice ua un uc] 24)) from Ext.trans (show Ext w ((w8.setCell ⟨q + 1, 0, none⟩ (.string ⟨l8.toArray⟩)).setCell ⟨q + 1, 1, none⟩ (.int .i64 N.1.err)) from Below.trans (B := w.heap.size) (hE.trans hE8) (hDD.2.below (by omega) (hE.trans hE8).size)) E9.out)
    have hz9 : q ≤ ((((w8.setCell ⟨q + 1, 0, none⟩ (.string ⟨l8.toArray⟩)).setCell ⟨q + 1, 1, none⟩ (.int .i64 N.1.err)).alloc (.cells #[.string ⟨l8.toArray⟩, .int .i64 N.1.err] 88)).alloc (.cells #[.slice ua un uc] 24)).heap.size := Nat.le_of_lt X9.out.lt
    have sl9 := slOne (((w8.setCell ⟨q + 1, 0, none⟩ (.string ⟨l8.toArray⟩)).setCell ⟨q + 1, 1, none⟩ (.int .i64 N.1.err)).alloc (.cells #[.string ⟨l8.toArray⟩, .int .i64 N.1.err] 88)) (.slice ua un uc) 24
    rw [show (((w8.setCell ⟨q + 1, 0, none⟩ (.string ⟨l8.toArray⟩)).setCell ⟨q + 1, 1, none⟩ (.int .i64 N.1.err)).alloc (.cells #[.string ⟨l8.toArray⟩, .int .i64 N.1.err] 88)).heap.size = w8.heap.size + 1 from by simp] at sl9
    have SL9 := Lib.hid sl9
    obtain ⟨xs, g1, g2, g3⟩ := O9.out
    rw [HK.out] at g1
    have G1 := Lib.hid g1
    have G2 := Lib.hid g2
    have G3 := Lib.hid g3
    have HZ9 := Lib.hid hz9
    have hk1 := Lib.hid (show k + [(Value.slice ua un uc)].length ≤ maxLen by simp [maxLen]; omega)
    have hk2 := Lib.hid (show (k + [(Value.slice ua un uc)].length) * 24 ≤ 140737488355328 by simp; omega)
    have c9 := X9.out.cells.2.2
    have c9w : (((w8.setCell ⟨q + 1, 0, none⟩ (.string ⟨l8.toArray⟩)).setCell ⟨q + 1, 1, none⟩ (.int .i64 N.1.err)).alloc (.cells #[.string ⟨l8.toArray⟩, .int .i64 N.1.err] 88)).cell? ⟨q, 2, none⟩ = some dv := ((X8.out.but hDD.2 (by omega)).ext (Ext.alloc _ _)).cells.2.2
    clear hDD hkj ho8 sl9 hz9 g1 g2 g3
    go_wp2_with (at_builtin; refine wpList_app rfl (.tmp 49) (.tmp 51) tRow rfl rfl rfl G1.out SL9.out (oneSlice ⟨_, _, _, rfl⟩) hk1.out hk2.out HZ9.out ?_; intro v10 w10 hown10 hg10; have hg10 : ((((w8.setCell ⟨q + 1, 0, none⟩ (.string ⟨l8.toArray⟩)).setCell ⟨q + 1, 1, none⟩ (.int .i64 N.1.err)).alloc (.cells #[.string ⟨l8.toArray⟩, .int .i64 N.1.err] 88)).alloc (.cells #[.slice ua un uc] 24)).grownBy w10 dv.ownBlock := hg10; obtain ⟨a10, n10, c10, rfl⟩ := ownSlice hown10; have x10 := Lib.hid (X9.out.grown hg10 (rowBeside G1.out X9.out (by decide))); have hc10 := x10.out.cells.2.2; have hf10 := frozen_of_heap x10.out 2; clear c9 c9w c0 c1 c2 z0 z1 fz fx)
    obtain ⟨rb0, rb1, hrb⟩ := D9.out.heapOf
    have d10 := D9.out.grown hg10 (rowBeside G1.out hrb (by decide))
    have hfar : ∀ j, dv.ownBlock = some j → q ≤ j := fun j hj => (G1.out.lt j hj).1
    have r10 := R9.out.grown hg10 (fun e => by have := hfar _ e.symm; omega)
    have s10 := S9.out.grown G1.out hg10
    have o10 : OwnRR w10 q (.slice a10 n10 c10) ((Term.gRows 16 16 C1 k).2 ++ [N.2]) := OwnRR.snoc (w := ((((w8.setCell ⟨q + 1, 0, none⟩ (.string ⟨l8.toArray⟩)).setCell ⟨q + 1, 1, none⟩ (.int .i64 N.1.err)).alloc (.cells #[.string ⟨l8.toArray⟩, .int .i64 N.1.err] 88)).alloc (.cells #[.slice ua un uc] 24))) (v := dv) (xs := xs) (by rw [HK.out]; exact G1.out) G2.out G3.out U9.out hg10 (by rw [HK.out]; exact hown10)
    have hE10 : Ext w w10 := Below.grown HE9.out hg10 HE9.out.size (fun j hj => by have := hfar j hj; omega)
    have hbs := butSet w10 q 2 (.slice a10 n10 c10)
    have X11 := Lib.hid (x10.out.setD (.slice a10 n10 c10))
    have D11 := Lib.hid (show Ref6 (w10.setCell ⟨q, 2, none⟩ (.slice a10 n10 c10)) (q + 1) t.length (Term.gRows 16 16 C1 (k + 1)).1 by rw [HNX.out]; exact d10.but hbs (by omega))
    have R11 := Lib.hid (r10.but hbs (by omega))
    have S11 := Lib.hid (s10.but x10.out (by decide) hbs)
    have O11 := Lib.hid (o10.but x10.out (by decide) (by decide) hbs)
    rw [← show (Term.gRows 16 16 C1 (k + 1)).2 = (Term.gRows 16 16 C1 k).2 ++ [N.2] by rw [HNX.out]] at O11
    have hE11 : Ext w (w10.setCell ⟨q, 2, none⟩ (.slice a10 n10 c10)) := Below.setCell hE10 (p := ⟨q, 2, none⟩) (by show w.heap.size ≤ q; omega) _
    clear hown10 hg10 d10 r10 s10 o10 hbs hrb
    go_wp2_with fail
    go_roundw
    case rel => exact ⟨k + 1, by omega, by go_num, _, X11, O11, S11, D11, R11, hE11⟩
    case measure => simp [intOf]; omega
  · obtain rfl : k = m := by omega
    obtain ⟨S2, hS2⟩ : ∃ S2, (Term.gRows 16 16 C1 k).1 = S2 := ⟨_, rfl⟩
    obtain ⟨L2, hL2⟩ : ∃ L2, (Term.gRows 16 16 C1 k).2 = L2 := ⟨_, rfl⟩
    rw [hS2, hL2] at HGR
    rw [hL2] at O
    rw [hS2] at D
    have HOK := Lib.hid (Term.gok_eq HGR.out.1 HGR.out.2)
    have HRD := Lib.hid HGR.out.2
    have HXB := Lib.hid (show ∀ w', Ext wr w' → IsConf w' (confV x (.slice sa sn sc) dv) ⟨x, nB, L2⟩ from fun w' h => ⟨_, _, rfl, (OS.out.ext h).ints, (O.out.ext h).rows⟩)
    obtain ⟨da, dn, dc, rfl⟩ := O.out.slice
    clear hS2 hL2 HGR
    obtain ⟨c0, c1, c2⟩ := R.out.cells
    have fr : ∀ i, wr.frozen? ⟨w.heap.size, i, none⟩ = false := fun i => frozen_of_heap R.out i
    cases is with
    | false =>
     have hno := hno2.out (by first | rfl | trivial)
     subst hno
     go_wp2_with fail
     have hs := R.out.setAll 0 (.slice none 0 0) (.slice none 0 0)
     exact bodyPost_ret (v := .tuple #[confV 0 (.slice none 0 0) (.slice none 0 0), .int .i64 60]) (by simp [results, Tryz.results112, go_sem, c0, c1, c2, fr, confV]) rfl
      ⟨_, rfl, ⟨_, _, rfl, RowI.nil _, RowRR.nil _⟩, Below.trans (B := w.heap.size) hE (hs.2.below (Nat.le_refl _) hE.size)⟩
    | true =>
     obtain ⟨lk, hkk, hsm, hln⟩ := D.out
     have z0 := cell_of_heap hkk 0
     have z1 := cell_of_heap hkk 1
     simp at z0 z1
     have hcall := endRef_any lk S2 wr hsm (by omega)
     obtain ⟨d, hdd⟩ : ∃ d, S2.done = d := ⟨_, rfl⟩
     rw [hdd] at HOK hcall
     unfold refVal at hcall
     have HCALL := Lib.hid hcall
     clear hcall hdd c0 c1 c2 fr hkk
     go_wp2_with fail
     refine HCALL.out.mono ?_
     rintro e w9 ⟨rfl, hE9⟩
     have R9 := Lib.hid (R.out.ext hE9)
     have X9 := Lib.hid (X.out.ext hE9)
     have e9 := hE.trans hE9
     clear z0 z1
     by_cases hd : d = 0
     · subst hd
       have HOK2 := Lib.hid (show Term.gok 16 16 16 t = Term.right ⟨x, nB, L2⟩ by rw [HOK.out]; rfl)
       obtain ⟨d0, d1, d2⟩ := X9.out.cells
       clear HOK
       go_wp2_with fail
       refine (refRight6_any _ ⟨x, nB, L2⟩ _ (HXB.out _ hE9)).mono ?_
       rintro e w11 ⟨rfl, hE11⟩
       have r11 := Lib.hid (R9.out.ext hE11)
       have x11 := Lib.hid (X9.out.ext hE11)
       have e11 := e9.trans hE11
       clear d0 d1 d2
       obtain ⟨c0, c1, c2⟩ := r11.out.cells
       obtain ⟨d0, d1, d2⟩ := x11.out.cells
       have fr : ∀ i, w11.frozen? ⟨w.heap.size, i, none⟩ = false := fun i => frozen_of_heap r11.out i
       cases hrr : Term.right ⟨x, nB, L2⟩ with
       | false =>
        have hno := hnot2.out (by first | rfl | trivial) (HOK2.out.trans hrr)
        subst hno
        clear hrr HOK2
        go_wp2_with fail
        have hs := r11.out.setAll 0 (.slice none 0 0) (.slice none 0 0)
        exact bodyPost_ret (v := .tuple #[confV 0 (.slice none 0 0) (.slice none 0 0), .int .i64 60]) (by simp [results, Tryz.results112, go_sem, c0, c1, c2, fr, confV]) rfl
         ⟨_, rfl, ⟨_, _, rfl, RowI.nil _, RowRR.nil _⟩, Below.trans (B := w.heap.size) e11 (hs.2.below (Nat.le_refl _) e11.size)⟩
       | true =>
        have hyes := hyes2.out (by first | rfl | trivial) (HOK2.out.trans hrr)
        rw [HRD.out] at hyes
        subst hyes
        clear hrr HOK2
        go_wp2_with fail
        have hs := r11.out.setAll x (.slice sa sn sc) (.slice da dn dc)
        refine bodyPost_ret (v := .tuple #[confV x (.slice sa sn sc) (.slice da dn dc), .int .i64 0]) (by simp [results, Tryz.results112, go_sem, c0, c1, c2, d0, d1, d2, fr, confV]) rfl
         ⟨_, rfl, ⟨_, _, rfl, ?_, ?_⟩, Below.trans (B := w.heap.size) e11 (hs.2.below (Nat.le_refl _) e11.size)⟩
        · exact ⟨_, _, (OS.out.ext (hE9.trans hE11)).but r11.out (by decide) hs.2⟩
        · exact ⟨_, (O.out.ext (hE9.trans hE11)).but r11.out (by decide) (by decide) hs.2⟩
     · have hno := hnot2.out (by first | rfl | trivial) (by rw [HOK.out, show (d == 0) = false from beq_eq_false_iff_ne.2 hd]; rfl)
       subst hno
       clear HOK
       obtain ⟨c0, c1, c2⟩ := R9.out.cells
       have fr : ∀ i, w9.frozen? ⟨w.heap.size, i, none⟩ = false := fun i => frozen_of_heap R9.out i
       have hdn : (d != 0) = true := by rw [bne_iff_ne]; exact hd
       clear hd
       go_wp2_with fail
       have hs := R9.out.setAll 0 (.slice none 0 0) (.slice none 0 0)
       exact bodyPost_ret (v := .tuple #[confV 0 (.slice none 0 0) (.slice none 0 0), .int .i64 60]) (by simp [results, Tryz.results112, go_sem, c0, c1, c2, fr, confV]) rfl
        ⟨_, rfl, ⟨_, _, rfl, RowI.nil _, RowRR.nil _⟩, Below.trans (B := w.heap.size) e9 (hs.2.below (Nat.le_refl _) e9.size)⟩
end Go.Proofs.YtldfpklgbedgjaaGreat
