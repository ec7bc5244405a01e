import Derived.Test.YtnoeconcpgdjlaaGreatRows
import Derived.Test.YtnoeconcpgdjlaaGreatChecked
import Derived.SizedLaws
import Derived.Test.YtnoeconcpgdjlaaGreatBsCrcPut
import Derived.Test.YtnoeconcpgdjlaaGreatBsCrcRef
import Derived.Test.YtnoeconcpgdjlaaGreatBsLibW
import Derived.Test.YtnoeconcpgdjlaaGreatBsMath
import Derived.Test.YtnoeconcpgdjlaaGreatBsMath2
import Derived.Test.YtnoeconcpgdjlaaGreatBsPack
import Derived.Test.YtnoeconcpgdjlaaGreatBsPack2
import Derived.Test.YtnoeconcpgdjlaaGreatBsVec
namespace Go.Proofs.YtnoeconcpgdjlaaGreat
set_option linter.unusedSimpArgs false
set_option linter.unusedVariables false
set_option maxRecDepth 100000
open Go.RowKit
def hasI (ns : List Int) (x : Int) : Bool := ns.contains x
theorem zso (ns : List Int) (x : Int) (k : Nat) (h : k < ns.length) (h1 : hasI (ns.take k) x = false) (h2 : ns[k] ≠ x) : hasI (ns.take (k + 1)) x = false := by
 rw [zam ns k h]
 simp only [hasI, List.contains_eq_mem, decide_eq_false_iff_not, List.mem_append, List.mem_singleton, not_or] at h1 ⊢
 exact ⟨h1, fun e => h2 e.symm⟩
theorem zsm (ns : List Int) (x : Int) (k : Nat) (h : k < ns.length) (h2 : ns[k] = x) : hasI ns x = true := by
 rw [hasI, List.contains_eq_mem, decide_eq_true_eq, <- h2]
 exact List.getElem_mem h
theorem ztl {ns : List Int} {x : Int} {k : Nat} (hk : k <= ns.length) (hlt : ¬ k < ns.length) {b : Bool} (h : hasI (ns.take k) x = b) : hasI ns x = b := by
 rw [List.take_of_length_le (by omega)] at h; exact h
theorem Ints.take {w : World} {a : Option Addr} {n cap : Nat} {ns : List Int} (h : Ints w (.slice a n cap) ns) (k : Nat) (hk : k <= n) : Ints w (.slice a k cap) (ns.take k) := by
 have := Sl.take h k hk
 have e : (i64s ns).take k = i64s (ns.take k) := by simp [i64s]
 rw [e] at this
 exact this
set_option maxHeartbeats 1000000 in
theorem zq0 (v : Value) (ns : List Int) (x : Int) (w : World) (hv : Ints w v ns) :
 Calls Tryz.prog 84 #[v, .int .i64 x] w fun e w' => (∃ i : Int, e = .returned (.int .i64 i) /\ (decide (0 <= i)) = hasI ns x) /\ w = w' := by
 obtain ⟨a, cap, rfl, hcap, hmax, _, hc⟩ := hv.open
 unfold maxLen at hmax
 clear hv
 go_enter Tryz.func84, Tryz.ntmps84
 go_wp2
 go_loop [5, 8] (fun _ i => ∃ k : Nat, k <= ns.length /\ i = .int .i64 k /\ Hid (hasI (ns.take k) x = false)) (fun _ i => ns.length - (intOf i).toNat)
 case atStart => exact ⟨0, by omega, rfl, by simp [Hid, hasI]⟩
 case round =>
  obtain ⟨k, hk, rfl, hr⟩ := hrel
  by_cases hlt : k < ns.length
  . obtain ⟨b, off, rfl, hcell⟩ := hc k hlt
    clear hc
    by_cases h0 : ns[k] = x
    . have HS := Hi (zsm ns x k hlt h0)
      have g0 : (x == ns[k]) = true := by rw [h0]; simp
      clear h0
      go_wp2
      go_ret
      exact ⟨⟨k, rfl, by rw [HS.out]; simp⟩, rfl⟩
    . have HS := Hi (zso ns x k hlt hr.out h0)
      have g0 : (x == ns[k]) = false := by rw [beq_eq_false_iff_ne]; exact fun e => h0 e.symm
      clear h0
      go_wp2
      go_round
      case rel => exact ⟨k + 1, by omega, by go_num, HS.out⟩
      case measure => simp [intOf]; omega
  . have hs := Hi (ztl hk hlt hr.out)
    clear hr hc
    go_wp2
    go_ret
    exact ⟨⟨-1, rfl, by rw [hs.out]; simp⟩, rfl⟩
set_option maxHeartbeats 1000000 in
theorem zfe (v : Value) (ns : List Int) (x : Int) (w : World) (hv : Ints w v ns) :
 Calls Tryz.prog 49 #[v, .int .i64 x] w fun e w' => e = .returned (.bool (hasI ns x)) /\ w = w' := by
 have HV := Hi hv
 clear hv
 go_enter Tryz.func49, Tryz.ntmps49
 go_wp2_with fail
 refine (zq0 v ns x _ HV.out).mono ?_
 rintro e w' ⟨⟨i, rfl, hi⟩, rfl⟩
 go_wp2_with fail
 go_ret
 exact ⟨by rw [<- hi]; rfl, rfl⟩
theorem zl6 {ns : List Int} {k : Nat} (h : k < ns.length) (h1 : Term.unlike (ns.take k) = true) (a : 0 <= ns[k]) (b : ns[k] <= 15) (c : hasI (ns.take k) ns[k] = false) : Term.unlike (ns.take (k + 1)) = true := by
 unfold hasI at c
 rw [zam ns k h, Term.unlike_snoc, h1, c]
 simp [Term.okNode, a, b]
theorem zf5 {ns : List Int} {k : Nat} (h : k < ns.length) (c : ns[k] < 0 \/ 15 < ns[k] \/ hasI (ns.take k) ns[k] = true) : Term.unlike ns = false := by
 rw [<- Bool.not_eq_true]
 intro hu
 have := Term.unlike_take (k + 1) hu
 rw [zam ns k h, Term.unlike_snoc] at this
 simp only [Bool.and_eq_true, Term.okNode, decide_eq_true_eq, Bool.not_eq_true'] at this
 rcases c with c | c | c
 . omega
 . omega
 . unfold hasI at c; rw [this.2.2] at c; cases c
theorem zps {ns : List Int} {k : Nat} (hk : k <= ns.length) (hlt : ¬ k < ns.length) (h : Term.unlike (ns.take k) = true) : Term.unlike ns = true := by
 rw [List.take_of_length_le (by omega)] at h; exact h
theorem to6 (w : World) (a : Option Addr) (n cap k : Nat) (hk : k <= cap) : (Instr.sliceAt 22 (.slice a n cap) none (some (.int .i64 (k : Int))) none).run Tryz.prog w = .ok (.slice a k cap) w :=
 zet Tryz.underlying22 (by kernel_rfl) k hk .i64
set_option maxHeartbeats 4000000 in
theorem zca (v : Value) (ns : List Int) (m : Nat) (w : World) (hv : Ints w v ns) (hm : m <= 100) :
 Calls Tryz.prog 63 #[v, .int .i64 m] w fun e w' => e = .returned (.bool (decide (1 <= ns.length /\ ns.length <= m) && Term.unlike ns)) /\ w = w' := by
 have HV := Hi hv
 obtain ⟨a, cap, rfl, hcap, hmax, _, hc⟩ := hv.open
 unfold maxLen at hmax
 have HC := Hi hc
 clear hv hc
 by_cases g1 : (ns.length : Int) < 1
 . have e : decide (1 <= ns.length /\ ns.length <= m) = false := by rw [decide_eq_false_iff_not]; omega
   rw [e]
   clear e
   go_enter Tryz.func63, Tryz.ntmps63
   go_wp2
   go_ret
   exact ⟨rfl, rfl⟩
 by_cases g2 : (m : Int) < (ns.length : Int)
 . have e : decide (1 <= ns.length /\ ns.length <= m) = false := by rw [decide_eq_false_iff_not]; omega
   rw [e]
   clear e
   go_enter Tryz.func63, Tryz.ntmps63
   go_wp2
   go_ret
   exact ⟨rfl, rfl⟩
 have e : decide (1 <= ns.length /\ ns.length <= m) = true := by rw [decide_eq_true_eq]; omega
 rw [e, Bool.true_and]
 clear e
 have hsl := fun (k : Nat) (hk : k <= cap) wy => to6 wy a ns.length cap k hk
 have HSL := Hi hsl
 clear hsl
 go_enter Tryz.func63, Tryz.ntmps63
 go_wp2_with fail
 go_loop [5, 6, 18] (fun _ _ i => ∃ k : Nat, k <= ns.length /\ i = .int .i64 k /\ Hid (Term.unlike (ns.take k) = true)) (fun _ _ i => ns.length - (intOf i).toNat)
 case atStart => exact ⟨0, by omega, rfl, by simp [Hid, Term.unlike]⟩
 case round =>
  obtain ⟨k, hk, rfl, hr⟩ := hrel
  by_cases hlt : k < ns.length
  . obtain ⟨b, off, rfl, hcell⟩ := HC.out k hlt
    have hs1 := HSL.out k (by omega) w
    by_cases h0 : ns[k] < 0
    . have HS := Hi (zf5 hlt (.inl h0))
      go_wp2_with fail
      go_ret
      exact ⟨by rw [HS.out]; rfl, rfl⟩
    by_cases h2 : 16 <= ns[k]
    . have HS := Hi (zf5 hlt (.inr (.inl (by omega))))
      go_wp2_with fail
      go_ret
      exact ⟨by rw [HS.out]; rfl, rfl⟩
    have HT := Hi (HV.out.take k (by omega))
    cases hb : hasI (ns.take k) ns[k] with
    | true =>
     have HS := Hi (zf5 hlt (.inr (.inr hb)))
     have HB := Hi hb
     clear hb
     go_wp2_with fail
     refine (zfe _ _ _ _ HT.out).mono ?_
     rw [HB.out]
     rintro e w' ⟨rfl, rfl⟩
     go_wp2_with fail
     go_ret
     exact ⟨by rw [HS.out]; rfl, rfl⟩
    | false =>
     have HS := Hi (zl6 hlt hr.out (by omega) (by omega) hb)
     have HB := Hi hb
     clear hb
     go_wp2_with fail
     refine (zfe _ _ _ _ HT.out).mono ?_
     rw [HB.out]
     rintro e w' ⟨rfl, rfl⟩
     go_wp2_with fail
     go_round
     case rel => exact ⟨k + 1, by omega, by go_num, HS.out⟩
     case measure => simp [intOf]; omega
  . have hs := Hi (zps hk hlt hr.out)
    clear hr
    go_wp2_with fail
    go_ret
    exact ⟨by rw [hs.out]; rfl, rfl⟩
def confV (n : Int) (s d : Value) : Value := .agg #[.int .i64 n, s, d]
def IsConf (w : World) (v : Value) (c : Term.C) : Prop := ∃ s d, v = confV c.term s d /\ Ints w s c.seqs /\ IRows w d c.shards
theorem IsConf.below {w w' : World} {v : Value} {c : Term.C} (h : IsConf w v c) (hb : Below w.heap.size w w') : IsConf w' v c := by
 obtain ⟨s, d, rfl, h1, h2⟩ := h
 exact ⟨s, d, rfl, h1.below hb, h2.below hb⟩
theorem IsConf.shape {w : World} {v : Value} {c : Term.C} (h : IsConf w v c) : ∃ a n p b m q, v = .agg #[.int .i64 c.term, .slice a n p, .slice b m q] := by
 obtain ⟨s, d, rfl, h1, h2⟩ := h
 obtain ⟨a, p, rfl, _⟩ := h1.open
 obtain ⟨b, q, rfl, _⟩ := h2.open
 exact ⟨_, _, _, _, _, _, rfl⟩
def ConfAt (T : TypeId) (w : World) (p : Nat) (n : Int) (s d : Value) : Prop := w.heap[p]? = some (.cells #[.int .i64 n, s, d] T (0, 0))
theorem ConfAt.new (T : TypeId) (w : World) (n : Int) (s d : Value) : ConfAt T (w.alloc (.cells #[.int .i64 n, s, d] T)) w.heap.size n s d := heap_alloc_new w _
theorem ConfAt.lt {T : TypeId} {w : World} {p : Nat} {n : Int} {s d : Value} (h : ConfAt T w p n s d) : p < w.heap.size := (Array.getElem?_eq_some_iff.1 h).1
theorem ConfAt.ext {T : TypeId} {w w' : World} {p : Nat} {n : Int} {s d : Value} (h : ConfAt T w p n s d) (hE : Ext w w') : ConfAt T w' p n s d := (hE.block p h.lt).trans h
theorem ConfAt.but {T : TypeId} {w w' : World} {p q : Nat} {n : Int} {s d : Value} (h : ConfAt T w p n s d) (hB : But q w w') (hne : p ≠ q) : ConfAt T w' p n s d := (hB.block p h.lt hne).trans h
theorem ConfAt.cells {T : TypeId} {w : World} {p : Nat} {n : Int} {s d : Value} (h : ConfAt T w p n s d) : w.cell? ⟨p, 0, none⟩ = some (.int .i64 n) /\ w.cell? ⟨p, 1, none⟩ = some s /\ w.cell? ⟨p, 2, none⟩ = some d :=
 ⟨zaa h 0, zaa h 1, zaa h 2⟩
theorem zc4 (w : World) (n : Int) (s d : Value) : (Instr.box 33 (.agg #[.int .i64 n, s, d])).run Tryz.prog w = .ok (.pointer (some ⟨w.heap.size, 0, none⟩)) (w.alloc (.cells #[.int .i64 n, s, d] 33)) := by kernel_rfl
set_option maxHeartbeats 1000000 in
theorem zd4 (v : Value) (ns : List Int) (w : World) (hv : Ints w v ns) :
 Calls Tryz.prog 62 #[v] w fun e w' => e = .returned (.bool (decide (ns.length % 2 = 0))) /\ w = w' := by
 obtain ⟨a, cap, rfl, hcap, hmax, _, _⟩ := hv.open
 unfold maxLen at hmax
 clear hv
 by_cases h : ns.length % 2 = 0
 . have g : (Int.tmod (ns.length : Int) 2 == 0) = true := by
    have : Int.tmod (ns.length : Int) 2 = ((ns.length % 2 : Nat) : Int) := rfl
    rw [this, h]; rfl
   have g2 : ((ns.length : Int) % 2 == 0) = true := by rw [beq_iff_eq]; omega
   rw [decide_eq_true h]
   clear h
   generalize hn : (ns.length : Int) = n at *
   go_enter Tryz.func62, Tryz.ntmps62
   go_wp2_with fail
   go_ret
   exact ⟨by first | rfl | (simp only [g2]; rfl), rfl⟩
 . have g : (Int.tmod (ns.length : Int) 2 == 0) = false := by
    have : Int.tmod (ns.length : Int) 2 = ((ns.length % 2 : Nat) : Int) := rfl
    rw [this, show ns.length % 2 = 1 by omega]; rfl
   have g2 : ((ns.length : Int) % 2 == 0) = false := by rw [beq_eq_false_iff_ne]; omega
   rw [decide_eq_false h]
   clear h
   generalize hn : (ns.length : Int) = n at *
   go_enter Tryz.func62, Tryz.ntmps62
   go_wp2_with fail
   go_ret
   exact ⟨by first | rfl | (simp only [g2]; rfl), rfl⟩
set_option maxHeartbeats 1000000 in
theorem zer (v : Value) (ns : List Int) (w : World) (hv : Ints w v ns) :
 Calls Tryz.prog 65 #[v] w fun e w' => e = .returned (.bool (!Term.okShard ns)) /\ w = w' := by
 have HV := Hi hv
 clear hv
 cases hb : Term.okShard ns with
 | true =>
  have HB := Hi hb
  clear hb
  go_enter Tryz.func65, Tryz.ntmps65
  go_wp2_with fail
  refine (zca v ns 3 _ HV.out (by omega)).mono ?_
  rw [show (decide (1 <= ns.length /\ ns.length <= 3) && Term.unlike ns) = true from HB.out]
  rintro e w' ⟨rfl, rfl⟩
  go_wp2_with fail
  go_ret
  exact ⟨rfl, rfl⟩
 | false =>
  have HB := Hi hb
  clear hb
  go_enter Tryz.func65, Tryz.ntmps65
  go_wp2_with fail
  refine (zca v ns 3 _ HV.out (by omega)).mono ?_
  rw [show (decide (1 <= ns.length /\ ns.length <= 3) && Term.unlike ns) = false from HB.out]
  rintro e w' ⟨rfl, rfl⟩
  go_wp2_with fail
  go_ret
  exact ⟨rfl, rfl⟩
theorem zsg {ls : List (List Int)} {f : List Int -> Bool} {k : Nat} (h : k < ls.length) (h1 : (ls.take k).all f = true) (h2 : f ls[k] = true) : (ls.take (k + 1)).all f = true := by
 rw [zam ls k h, List.all_append, h1]; simp [h2]
theorem zti {ls : List (List Int)} {f : List Int -> Bool} {k : Nat} (h : k < ls.length) (h2 : f ls[k] = false) : ls.all f = false := by
 rw [List.all_eq_false]
 exact ⟨ls[k], List.getElem_mem _, by rw [h2]; simp⟩
theorem ztg {ls : List (List Int)} {f : List Int -> Bool} {k : Nat} (hk : k <= ls.length) (hlt : ¬ k < ls.length) (h : (ls.take k).all f = true) : ls.all f = true := by
 rw [List.take_of_length_le (by omega)] at h; exact h
set_option maxHeartbeats 1000000 in
theorem zhk (v : Value) (ls : List (List Int)) (w : World) (hv : IRows w v ls) :
 Calls Tryz.prog 95 #[v, .func (.func 65) #[] #[]] w fun e w' => (∃ i : Int, e = .returned (.int .i64 i) /\ (decide (0 <= i)) = !(ls.all Term.okShard)) /\ w = w' := by
 obtain ⟨a, cap, rfl, hcap, hmax, hc⟩ := hv.open
 unfold maxLen at hmax
 have HC := Hi hc
 clear hv hc
 go_enter Tryz.func95, Tryz.ntmps95
 go_wp2
 go_loop [5, 8] (fun _ i => ∃ k : Nat, k <= ls.length /\ i = .int .i64 k /\ Hid ((ls.take k).all Term.okShard = true)) (fun _ i => ls.length - (intOf i).toNat)
 case atStart => exact ⟨0, by omega, rfl, by simp [Hid]⟩
 case round =>
  obtain ⟨k, hk, rfl, hr⟩ := hrel
  by_cases hlt : k < ls.length
  . obtain ⟨b, off, x, rfl, hcell, hx⟩ := HC.out k hlt
    have HX := Hi hx
    obtain ⟨ax, cx, rfl, _⟩ := hx.open
    clear hx
    cases hb : Term.okShard ls[k] with
    | true =>
     have HB := Hi hb
     clear hb
     go_wp2_with fail
     refine (zer _ ls[k] _ HX.out).mono ?_
     rw [HB.out]
     rintro e w' ⟨rfl, rfl⟩
     go_wp2_with fail
     go_round
     case rel => exact ⟨k + 1, by omega, by go_num, zsg hlt hr.out HB.out⟩
     case measure => simp [intOf]; omega
    | false =>
     have HB := Hi hb
     clear hb
     go_wp2_with fail
     refine (zer _ ls[k] _ HX.out).mono ?_
     rw [HB.out]
     rintro e w' ⟨rfl, rfl⟩
     go_wp2_with fail
     go_ret
     exact ⟨⟨k, rfl, by rw [zti hlt HB.out]; simp⟩, rfl⟩
  . have hs := Hi (ztg hk hlt hr.out)
    clear hr
    go_wp2_with fail
    go_ret
    exact ⟨⟨-1, rfl, by rw [hs.out]; simp⟩, rfl⟩
set_option maxHeartbeats 1000000 in
theorem zhb (v : Value) (ls : List (List Int)) (w : World) (hv : IRows w v ls) :
 Calls Tryz.prog 64 #[v, .func (.func 65) #[] #[]] w fun e w' => e = .returned (.bool (!(ls.all Term.okShard))) /\ w = w' := by
 have HV := Hi hv
 clear hv
 go_enter Tryz.func64, Tryz.ntmps64
 go_wp2_with fail
 refine (zhk v ls _ HV.out).mono ?_
 rintro e w' ⟨⟨i, rfl, hi⟩, rfl⟩
 go_wp2_with fail
 go_ret
 exact ⟨by rw [<- hi]; rfl, rfl⟩
theorem zhm {c : Term.C} (h : c.term < 1 \/ 64 < c.term \/ (c.shards.length : Int) < 1 \/ 8 < (c.shards.length : Int)) : Term.right c = false := by
 rw [<- Bool.not_eq_true]
 intro g
 have := Term.right_ok g
 omega
theorem zq4 {c : Term.C} (h1 : ¬ c.term < 1) (h2 : ¬ 64 < c.term) (h3 : ¬ (c.shards.length : Int) < 1) (h4 : ¬ 8 < (c.shards.length : Int)) :
 Term.right c = (c.shards.all Term.okShard && (decide (c.seqs.length = 1 \/ c.seqs.length = 3 \/ c.seqs.length = 5 \/ c.seqs.length = 7) && Term.unlike c.seqs)) := by
 unfold Term.right
 rw [decide_eq_true (by omega), Bool.true_and]
theorem zpt {c : Term.C} (h : decide (c.seqs.length % 2 = 0) = true) : Term.right c = false := by
 rw [<- Bool.not_eq_true]
 intro g
 have := (Term.right_ok g).2.2.2.1
 rw [decide_eq_true_eq] at h
 omega
theorem zrc {c : Term.C} (h : decide (c.seqs.length % 2 = 0) = false) : decide (c.seqs.length = 1 \/ c.seqs.length = 3 \/ c.seqs.length = 5 \/ c.seqs.length = 7) = decide (1 <= c.seqs.length /\ c.seqs.length <= 7) := by
 rw [decide_eq_false_iff_not] at h
 rw [decide_eq_decide]
 omega
set_option maxHeartbeats 4000000 in
theorem zdq (v : Value) (c : Term.C) (w : World) (hv : IsConf w v c) :
 Calls Tryz.prog 30 #[v] w fun x w' => x = .returned (.bool (Term.right c)) /\ Ext w w' := by
 have hbx := zc4
 obtain ⟨s, d, rfl, hs, hd⟩ := hv
 obtain ⟨t, S, D⟩ := c
 unfold confV
 simp only at hs hd ⊢
 have HS := Hi hs
 have HD := Hi hd
 obtain ⟨a, cap, rfl, hcap, hmax, _, _⟩ := hs.open
 obtain ⟨a2, cap2, rfl, hcap2, hmax2, _⟩ := hd.open
 unfold maxLen at hmax hmax2
 clear hs hd
 have hE0 : Ext w (w.alloc (.cells #[.int .i64 t, .slice a S.length cap, .slice a2 D.length cap2] 33)) := Ext.alloc _ _
 by_cases g1 : t < 1
 . have HR := Hi (zhm (c := ⟨t, S, D⟩) (.inl g1))
   go_enter Tryz.func30, Tryz.ntmps30
   go_wp2_with fail
   go_ret
   exact ⟨by rw [HR.out]; rfl, hE0⟩
 by_cases g2 : 64 < t
 . have HR := Hi (zhm (c := ⟨t, S, D⟩) (.inr (.inl g2)))
   go_enter Tryz.func30, Tryz.ntmps30
   go_wp2_with fail
   go_ret
   exact ⟨by rw [HR.out]; rfl, hE0⟩
 by_cases g3 : (D.length : Int) < 1
 . have HR := Hi (zhm (c := ⟨t, S, D⟩) (.inr (.inr (.inl g3))))
   go_enter Tryz.func30, Tryz.ntmps30
   go_wp2_with fail
   go_ret
   exact ⟨by rw [HR.out]; rfl, hE0⟩
 by_cases g4 : 8 < (D.length : Int)
 . have HR := Hi (zhm (c := ⟨t, S, D⟩) (.inr (.inr (.inr g4))))
   go_enter Tryz.func30, Tryz.ntmps30
   go_wp2_with fail
   go_ret
   exact ⟨by rw [HR.out]; rfl, hE0⟩
 have HY := Hi (zq4 (c := ⟨t, S, D⟩) g1 g2 g3 g4)
 cases he : decide (S.length % 2 = 0) with
 | true =>
  have HR := Hi (zpt (c := ⟨t, S, D⟩) he)
  have HE := Hi he
  clear he
  go_enter Tryz.func30, Tryz.ntmps30
  go_wp2_with fail
  refine (zd4 _ S _ (HS.out.below hE0)).mono ?_
  rw [HE.out]
  rintro e w' ⟨rfl, rfl⟩
  go_wp2_with fail
  go_ret
  exact ⟨by rw [HR.out]; rfl, hE0⟩
 | false =>
  have HO := Hi (zrc (c := ⟨t, S, D⟩) he)
  have HE := Hi he
  clear he
  cases hn : (decide (1 <= S.length /\ S.length <= 7) && Term.unlike S) with
  | false =>
   have HN := Hi hn
   have HR := Hi (show Term.right ⟨t, S, D⟩ = false by rw [HY.out, HO.out, HN.out, Bool.and_false])
   clear hn
   go_enter Tryz.func30, Tryz.ntmps30
   go_wp2_with fail
   refine (zd4 _ S _ (HS.out.below hE0)).mono ?_
   rw [HE.out]
   rintro e w' ⟨rfl, rfl⟩
   go_wp2_with fail
   refine (zca _ S 7 _ (HS.out.below hE0) (by omega)).mono ?_
   rw [HN.out]
   rintro e w' ⟨rfl, rfl⟩
   go_wp2_with fail
   go_ret
   exact ⟨by rw [HR.out]; rfl, hE0⟩
  | true =>
   have HN := Hi hn
   have HR := Hi (show Term.right ⟨t, S, D⟩ = D.all Term.okShard by rw [HY.out, HO.out, HN.out, Bool.and_true])
   clear hn
   go_enter Tryz.func30, Tryz.ntmps30
   go_wp2_with fail
   refine (zd4 _ S _ (HS.out.below hE0)).mono ?_
   rw [HE.out]
   rintro e w' ⟨rfl, rfl⟩
   go_wp2_with fail
   refine (zca _ S 7 _ (HS.out.below hE0) (by omega)).mono ?_
   rw [HN.out]
   rintro e w' ⟨rfl, rfl⟩
   go_wp2_with fail
   refine (zhb _ D _ (HD.out.below hE0)).mono ?_
   rintro e w' ⟨rfl, rfl⟩
   go_wp2_with fail
   go_ret
   exact ⟨by rw [HR.out]; cases D.all Term.okShard <;> rfl, hE0⟩
theorem okOne {n : Int} (h : 0 <= n /\ n <= 4611686018427387904) : [n].all okNum = true := by
 simp only [List.all_cons, List.all_nil, Bool.and_true]
 exact zd9 h
set_option maxHeartbeats 4000000 in
theorem zen (v : Value) (c : Term.C) (w : World) (hv : IsConf w v c) (h47 : c.seqs.length <= 140737488355328) :
 Calls Tryz.prog 31 #[v] w fun e w' => e = .returned (.int .i64 (Term.majority c : Nat)) /\ Ext w w' := by
 have hbx := zc4
 obtain ⟨s, d, rfl, hs, hd⟩ := hv
 obtain ⟨t, S, D⟩ := c
 unfold confV
 simp only at hs hd h47 ⊢
 have HS := Hi hs
 have HD := Hi hd
 obtain ⟨a1, cap1, rfl, hcap1, hmax1, _, hc1⟩ := hs.open
 obtain ⟨a2, cap2, rfl, hcap2, hmax2, hc2⟩ := hd.open
 unfold maxLen at hmax1 hmax2
 clear hs hd
 have hE0 : Ext w (w.alloc (.cells #[.int .i64 t, .slice a1 S.length cap1, .slice a2 D.length cap2] 33)) := Ext.alloc _ _
 have HA0 := Hi (ConfAt.new 33 w t (.slice a1 S.length cap1) (.slice a2 D.length cap2))
 clear hc1 hc2
 show Calls _ _ _ _ fun e w' => e = .returned (.int .i64 ((S.length / 2 + 1 : Nat) : Int)) /\ Ext w w'
 have HM := Hi (show (S.length : Int) / 2 + 1 = ((S.length / 2 + 1 : Nat) : Int) by omega)
 generalize ((S.length / 2 + 1 : Nat) : Int) = m at *
 go_enter Tryz.func31, Tryz.ntmps31
 go_wp2_with fail
 go_ret
 exact ⟨by rw [<- HM.out]; rfl, hE0⟩
theorem zth {a b : List (List Int)} (k : Nat) (h1 : k < a.length) (h2 : k < b.length) (h : (a[k] == b[k]) = false) : (a == b) = false := by
 rw [beq_eq_false_iff_ne] at h ⊢
 rintro rfl
 exact h rfl
theorem zrg {a b : List (List Int)} (hl : a.length = b.length) (h : ∀ i, i < a.length -> ∀ (h1 : i < a.length) (h2 : i < b.length), (a[i] == b[i]) = true) : (a == b) = true := by
 rw [beq_iff_eq]
 exact List.ext_getElem hl fun i h1 h2 => by have := h i h1 h1 h2; rwa [beq_iff_eq] at this
theorem znt {a b : List (List Int)} (h : a.length ≠ b.length) : (a == b) = false := by
 rw [beq_eq_false_iff_ne]
 rintro rfl
 exact h rfl
theorem zbh {w w' : World} {b o : Nat} {v : Value} (h : Ext w w') (hc : w.cell? ⟨b, o, none⟩ = some v) : w'.cell? ⟨b, o, none⟩ = some v := (h.cell (p := ⟨b, o, none⟩) (World.block_lt_of_cell? w _ hc)).trans hc
set_option maxHeartbeats 4000000 in
theorem zga (v u : Value) (ns ms : List (List Int)) (w : World) (hv : IRows w v ns) (hu : IRows w u ms) :
 Calls Tryz.prog 117 #[v, u, .func (.func 86) #[] #[]] w fun e w' => e = .returned (.bool (ns == ms)) /\ Ext w w' := by
 have HV := Hi hv
 have HU := Hi hu
 obtain ⟨a, cap, rfl, hcap, hmax, hc⟩ := hv.open
 obtain ⟨a2, cap2, rfl, hcap2, hmax2, hc2⟩ := hu.open
 unfold maxLen at hmax hmax2
 clear hv hu hc hc2
 by_cases hl : ns.length = ms.length
 . have h1' : ((ns.length : Int) != (ms.length : Int)) = false := by rw [hl]; simp
   have HL := Hi hl
   clear hl
   go_enter Tryz.func117, Tryz.ntmps117
   go_wp2_with fail
   go_loopw [7, 8, 9, 17] (fun _ _ _ i wr => ∃ k : Nat, k <= ns.length /\ i = .int .i64 k /\ Hid (∀ i, i < k -> ∀ (h1 : i < ns.length) (h2 : i < ms.length), (ns[i] == ms[i]) = true) /\ Ext w wr) (fun _ _ _ i _ => ns.length - (intOf i).toNat)
   case atStart => exact ⟨0, by omega, rfl, fun i hi => absurd hi (by omega), Ext.refl _⟩
   case round =>
    obtain ⟨k, hk, rfl, hr, hE⟩ := hrel
    by_cases hlt : k < ns.length
    . have hlt2 : k < ms.length := by have := HL.out; omega
      obtain ⟨a', cap', e', _, _, hc⟩ := (HV.out.below hE).open
      obtain ⟨b, off, x, rfl, hcell, hx⟩ := hc k hlt
      injection e' with e1 e2 e3
      subst e1
      obtain ⟨a3, cap3, e', _, _, hc2⟩ := (HU.out.below hE).open
      obtain ⟨b2, off2, y, rfl, hcell2, hy⟩ := hc2 k hlt2
      injection e' with e4 e5 e6
      subst e4
      clear hc hc2 e2 e3 e5 e6
      have HX := Hi hx
      have HY := Hi hy
      obtain ⟨ax, cx, rfl, _⟩ := hx.open
      obtain ⟨ay, cy, rfl, _⟩ := hy.open
      clear hx hy
      cases h0 : (ns[k] == ms[k]) with
      | true =>
       have H0 := Hi h0
       clear h0
       go_wp2_with fail
       refine (zbd _ _ ns[k] ms[k] _ HX.out HY.out).mono ?_
       rw [H0.out]
       rintro e w2 ⟨rfl, hE2⟩
       go_wp2_with fail
       go_roundw
       case rel =>
        refine ⟨k + 1, by omega, by go_num, fun i hi h1 h2 => ?_, hE.trans hE2⟩
        rcases Nat.lt_or_ge i k with h | h
        . exact hr.out i h h1 h2
        . obtain rfl : i = k := by omega
          exact H0.out
       case measure => simp [intOf]; omega
      | false =>
       have H0 := Hi h0
       clear h0
       go_wp2_with fail
       refine (zbd _ _ ns[k] ms[k] _ HX.out HY.out).mono ?_
       rw [H0.out]
       rintro e w2 ⟨rfl, hE2⟩
       go_wp2_with fail
       go_ret
       exact ⟨by rw [zth k hlt hlt2 H0.out]; rfl, hE.trans hE2⟩
    . have hs := Hi (zrg HL.out (fun i h => hr.out i (by omega)))
      clear hr
      go_wp2_with fail
      go_ret
      exact ⟨by rw [hs.out]; rfl, hE⟩
 . have h1' : ((ns.length : Int) != (ms.length : Int)) = true := by rw [bne_iff_ne]; omega
   have HL := Hi (znt hl)
   clear hl
   go_enter Tryz.func117, Tryz.ntmps117
   go_wp2_with fail
   go_ret
   exact ⟨by rw [HL.out]; rfl, Ext.refl _⟩
theorem zpv {a b : Term.C} (h : (a.term == b.term) = false) : Term.alike a b = false := by unfold Term.alike; rw [h]; rfl
theorem zp7 {a b : Term.C} (h : (a.seqs == b.seqs) = false) : Term.alike a b = false := by unfold Term.alike; rw [h]; simp
theorem zol {a b : Term.C} (h1 : (a.term == b.term) = true) (h2 : (a.seqs == b.seqs) = true) : Term.alike a b = (a.shards == b.shards) := by unfold Term.alike; rw [h1, h2]; rfl
set_option maxHeartbeats 4000000 in
theorem znz (v u : Value) (a b : Term.C) (w : World) (hv : IsConf w v a) (hu : IsConf w u b) :
 Calls Tryz.prog 94 #[v, u] w fun e w' => e = .returned (.bool (Term.alike a b)) /\ Ext w w' := by
 have hbx := zc4
 have HCV := Hi hv
 have HCU := Hi hu
 obtain ⟨s, d, rfl, hs, hd⟩ := hv
 obtain ⟨s2, d2, rfl, hs2, hd2⟩ := hu
 obtain ⟨t, S, D⟩ := a
 obtain ⟨t2, S2, D2⟩ := b
 unfold confV
 simp only at hs hd hs2 hd2 ⊢
 have HS := Hi hs
 have HD := Hi hd
 have HS2 := Hi hs2
 have HD2 := Hi hd2
 obtain ⟨a1, cap1, rfl, hcap1, hmax1, _, _⟩ := hs.open
 obtain ⟨a2, cap2, rfl, hcap2, hmax2, _⟩ := hd.open
 obtain ⟨a3, cap3, rfl, hcap3, hmax3, _, _⟩ := hs2.open
 obtain ⟨a4, cap4, rfl, hcap4, hmax4, _⟩ := hd2.open
 unfold maxLen at hmax1 hmax2 hmax3 hmax4
 clear hs hd hs2 hd2
 have hE0 : Ext w ((w.alloc (.cells #[.int .i64 t, .slice a1 S.length cap1, .slice a2 D.length cap2] 33)).alloc (.cells #[.int .i64 t2, .slice a3 S2.length cap3, .slice a4 D2.length cap4] 33)) := zf3 _ _ _
 have HH := Hi (zev w (.cells #[.int .i64 t, .slice a1 S.length cap1, .slice a2 D.length cap2] 33) (.cells #[.int .i64 t2, .slice a3 S2.length cap3, .slice a4 D2.length cap4] 33))
 cases ht : (t == t2) with
 | false =>
  have HR := Hi (zpv (a := ⟨t, S, D⟩) (b := ⟨t2, S2, D2⟩) ht)
  go_enter Tryz.func94, Tryz.ntmps94
  go_wp2_with fail
  go_ret
  exact ⟨by rw [HR.out]; rfl, hE0⟩
 | true =>
  cases hsq : (S == S2) with
  | false =>
   have HR := Hi (zp7 (a := ⟨t, S, D⟩) (b := ⟨t2, S2, D2⟩) hsq)
   have HQ := Hi hsq
   clear hsq
   go_enter Tryz.func94, Tryz.ntmps94
   go_wp2_with fail
   refine (zbd _ _ S S2 _ (HS.out.below hE0) (HS2.out.below hE0)).mono ?_
   rw [HQ.out]
   rintro e w2 ⟨rfl, hE2⟩
   go_wp2_with fail
   go_ret
   exact ⟨by rw [HR.out]; rfl, hE0.trans hE2⟩
  | true =>
   have HR := Hi (zol (a := ⟨t, S, D⟩) (b := ⟨t2, S2, D2⟩) ht hsq)
   have HQ := Hi hsq
   clear hsq
   go_enter Tryz.func94, Tryz.ntmps94
   go_wp2_with fail
   refine (zbd _ _ S S2 _ (HS.out.below hE0) (HS2.out.below hE0)).mono ?_
   rw [HQ.out]
   rintro e w2 ⟨rfl, hE2⟩
   have e2 := hE0.trans hE2
   obtain ⟨c0, c1, c2⟩ := ConfAt.cells (zad HH.out.1 hE2)
   obtain ⟨d0, d1, d2⟩ := ConfAt.cells (zad HH.out.2 hE2)
   go_wp2_with fail
   refine (zga _ _ D D2 _ (HD.out.below e2) (HD2.out.below e2)).mono ?_
   rintro e w3 ⟨rfl, hE3⟩
   obtain ⟨r, hr⟩ : ∃ r, (D == D2) = r := ⟨_, rfl⟩
   rw [hr] at HR ⊢
   clear hr
   go_wp2_with fail
   go_ret
   exact ⟨by rw [HR.out]; rfl, e2.trans hE3⟩
def RowConf (w : World) (v : Value) (c : Term.C) : Prop := ∃ s d, v = confV c.term s d /\ RowI w s c.seqs /\ RowRR w d c.shards
theorem RowConf.is {w : World} {v : Value} {c : Term.C} (h : RowConf w v c) : IsConf w v c := by
 obtain ⟨s, d, e, h1, h2⟩ := h
 exact ⟨s, d, e, h1.ints, h2.rows⟩
theorem zjx (w : World) : (Instr.build 33 #[]).run Tryz.prog w = .ok (.agg #[.int .i64 0, .slice none 0 0, .slice none 0 0]) w := by kernel_rfl
theorem ConfAt.later {T : TypeId} {w : World} {p : Nat} {n : Int} {s d : Value} {o : Obj} (h : ConfAt T w p n s d) : p <= (w.alloc o).heap.size := by have := h.lt; rw [World.size_alloc]; omega
theorem ConfAt.grown {T : TypeId} {w w' : World} {p : Nat} {n : Int} {s d : Value} {o : Option Nat} (h : ConfAt T w p n s d) (hg : w.grownBy w' o) (hne : some p ≠ o) : ConfAt T w' p n s d := (hg.block p h.lt hne).trans h
end Go.Proofs.YtnoeconcpgdjlaaGreat
namespace Go.Proofs.YtnoeconcpgdjlaaGreat
set_option linter.unusedSimpArgs false
set_option linter.unusedVariables false
set_option maxRecDepth 100000
open Go.ChangeShapes Go.WideShapes Go.ChangeAt Go.RowKit
section
variable {H : Type} {enc : TypeId × Value -> H} {w : World} {base : Nat} {spare : Nat -> Bool} {held : Bool}
end
end Go.Proofs.YtnoeconcpgdjlaaGreat
