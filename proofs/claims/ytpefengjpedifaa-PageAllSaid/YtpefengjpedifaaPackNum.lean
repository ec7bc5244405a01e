/-
  Layer 2, the program: a number is read.
-/
import Derived.Test.YtpefengjpedifaaPackRead
import Derived.Deep.DeepCutAuto
namespace Go.Proofs.Ytpefengjpedifaa
set_option linter.unusedSimpArgs false
set_option linter.unusedVariables false
open Go.RowKit

theorem ofInt_i64 (a : Nat) (ha : a < 9223372036854775808) : (BitVec.ofInt 64 (a : Int)).toNat = a := by
  rw [BitVec.ofInt_natCast, BitVec.toNat_ofNat]; exact Nat.mod_eq_of_lt (by omega)
theorem i64_or_nat (a b : Nat) (ha : a < 9223372036854775808) (hb : b < 9223372036854775808) : bits .or .i64 (a : Int) (b : Int) = ((a ||| b : Nat) : Int) := by
  have hx : a ||| b < 2 ^ 63 := Nat.or_lt_two_pow (by omega) (by omega)
  show IntKind.i64.wrap ((BitVec.ofInt 64 (a : Int) ||| BitVec.ofInt 64 (b : Int)).toNat : Int) = _
  rw [BitVec.toNat_or, ofInt_i64 a ha, ofInt_i64 b hb, IntWalk.i64_in _ (by omega)]
/-- Seven bits more. -/
theorem or_seven (k n x : Nat) (hk : k ≤ 8) (hn : n < 128 ^ k) (hx : x < 128) : n ||| (x * 128 ^ k) = n + 128 ^ k * x := by
  have e : (128 : Nat) ^ k = 2 ^ (7 * k) := by rw [Nat.pow_mul]
  rw [Nat.or_comm, nat_join (7 * k) _ _ (by rw [e]; exact Nat.mul_mod_left _ _) (by rw [← e]; exact hn), Nat.mul_comm, Nat.add_comm]
theorem pow_le (k : Nat) (hk : k ≤ 8) : 128 ^ k ≤ 72057594037927936 := by
  have : (128 : Nat) ^ k ≤ 128 ^ 8 := Nat.pow_le_pow_right (by decide) hk
  simpa using this
theorem low_seven (x : UInt8) : bits .andNot .u8 (x.toNat : Int) 128 = ((x.toNat % 128 : Nat) : Int) := by
  have h := u8_andNot_nat x.toNat 128 x.toNat_lt (by decide)
  rw [show (128 : Int) = ((128 : Nat) : Int) from rfl, h]
  congr 1
  exact nat_mask7 _

/-- All but two blocks is as it was. -/
structure But2 (p q : Nat) (w w' : World) : Prop where
  os : w'.os = w.os
  tape : w'.tape = w.tape
  output : w'.output = w.output
  size : w.heap.size ≤ w'.heap.size
  block : ∀ k, k < w.heap.size → k ≠ p → k ≠ q → w'.heap[k]? = w.heap[k]?
theorem But2.refl (p q : Nat) (w : World) : But2 p q w w := ⟨rfl, rfl, rfl, Nat.le_refl _, fun _ _ _ _ => rfl⟩
theorem But2.trans {p q : Nat} {a b c : World} (h : But2 p q a b) (k : But2 p q b c) : But2 p q a c :=
  ⟨k.os.trans h.os, k.tape.trans h.tape, k.output.trans h.output, Nat.le_trans h.size k.size, fun i hi hp hq => (k.block i (Nat.lt_of_lt_of_le hi h.size) hp hq).trans (h.block i hi hp hq)⟩
theorem But2.drew {p q : Nat} {a w : World} (h : But2 p q a w) : But2 p q a w.drew := h.trans ⟨rfl, rfl, rfl, Nat.le_refl _, fun _ _ _ _ => rfl⟩
theorem But2.set1 {p q : Nat} {a w : World} (h : But2 p q a w) (o : Nat) (s : Option Nat) (v : Value) : But2 p q a (w.setCell ⟨p, o, s⟩ v) :=
  h.trans ⟨rfl, rfl, rfl, by simp [World.setCell], fun k _ hk _ => Below.heap_setCell _ _ _ _ (by simpa using hk)⟩
theorem But2.set2 {p q : Nat} {a w : World} (h : But2 p q a w) (o : Nat) (s : Option Nat) (v : Value) : But2 p q a (w.setCell ⟨q, o, s⟩ v) :=
  h.trans ⟨rfl, rfl, rfl, by simp [World.setCell], fun k _ _ hk => Below.heap_setCell _ _ _ _ (by simpa using hk)⟩
theorem But2.below {p q B : Nat} {w w' : World} (h : But2 p q w w') (hp : B ≤ p) (hq : B ≤ q) (hB : B ≤ w.heap.size) : Below B w w' :=
  ⟨h.os, h.tape, h.output, h.size, fun k hk => h.block k (by omega) (by omega) (by omega)⟩

set_option maxRecDepth 100000 in
set_option maxHeartbeats 2000000 in
theorem take_any (p q0 q1 q2 k n : Nat) (s : Pack.St) (w : World) (h : RD w p s) (h0 : w.heap[q0]? = some (.cells #[.pointer (some ⟨p, 0, none⟩)] 152 (0, 0))) (h1 : w.heap[q1]? = some (.cells #[.int .i64 (k : Int)] 3 (0, 0))) (h2 : w.heap[q2]? = some (.cells #[.int .i64 (n : Int)] 3 (0, 0)))
    (hne : q1 ≠ q2) (hk : k ≤ 8) (hn : n < 128 ^ k) (hlt : k < s.left.length) :
    Calls Try.prog 96 #[.pointer (some ⟨q0, 0, none⟩), .pointer (some ⟨q1, 0, none⟩), .pointer (some ⟨q2, 0, none⟩)] w fun e w' => e = .returned (.int .u8 (s.left[k].toNat : Int)) ∧ But2 q1 q2 w w' ∧
      w'.heap[q1]? = some (.cells #[.int .i64 ((k + 1 : Nat) : Int)] 3 (0, 0)) ∧ w'.heap[q2]? = some (.cells #[.int .i64 ((n + 128 ^ k * (s.left[k].toNat % 128) : Nat) : Int)] 3 (0, 0)) := by
  obtain ⟨a, m, c, hr, hb, _⟩ := h
  obtain ⟨a', c', e', hcap, hmax, _, hc⟩ := hb.open
  injection e' with e1 e2 e3
  subst e1 e2 e3
  obtain ⟨b, off, rfl, hcell⟩ := hc k hlt
  have c0 := cell_of_heap h0 0
  have c1 := cell_of_heap h1 0
  have c2 := cell_of_heap h2 0
  have cr := cell_of_heap hr 0
  have f1 := frozen_of_heap h1 0
  have f2 := frozen_of_heap h2 0
  have hpow := pow_le k hk
  have hx : s.left[k].toNat % 128 < 128 := Nat.mod_lt _ (by decide)
  have hls := low_seven s.left[k]
  have hbig : (s.left[k].toNat % 128) * 128 ^ k ≤ 127 * 72057594037927936 := Nat.mul_le_mul (by omega) hpow
  have hor := i64_or_nat n ((s.left[k].toNat % 128) * 128 ^ k) (by omega) (by omega)
  rw [or_seven k n _ hk hn hx] at hor
  obtain ⟨V, hV⟩ : ∃ V : Int, V = ((n + 128 ^ k * (s.left[k].toNat % 128) : Nat) : Int) := ⟨_, rfl⟩
  rw [← hV] at hor ⊢
  have HV := Lib.hid hV
  clear hV
  have hor2 : bits .or .i64 (n : Int) (wrap64 (((s.left[k].toNat : Nat) : Int) % 128 * 2 ^ (7 * k))) = V := by
    have e1 : (((s.left[k].toNat : Nat) : Int) % 128 * 2 ^ (7 * k)) = (((s.left[k].toNat % 128) * 128 ^ k : Nat) : Int) := by
      rw [Int.natCast_mul, Int.natCast_pow, show ((128 : Nat) : Int) = 2 ^ 7 from by decide, ← Int.pow_mul]
      rfl
    rw [e1, IntWalk.wrap64_in _ (by omega)]
    exact hor
  simp at c0 c1 c2 cr
  clear hc
  go_enter Try.func96, Try.ntmps96
  go_wp2
  go_quiet (fail)
  go_wp2
  go_region
  go_wp2
  go_ret
  have hd : (w.drewN (nq + 1)).heap = w.heap := rfl
  have g1 : (w.drewN (nq + 1)).heap[q1]? = some (.cells #[.int .i64 (k : Int)] 3 (0, 0)) := by rw [hd]; exact h1
  have g2 : (w.drewN (nq + 1)).heap[q2]? = some (.cells #[.int .i64 (n : Int)] 3 (0, 0)) := by rw [hd]; exact h2
  have hb2 : But2 q1 q2 w (w.drewN (nq + 1)) := ⟨rfl, rfl, rfl, Nat.le_refl _, fun _ _ _ _ => rfl⟩
  refine ⟨rfl, (hb2.set2 0 none _).set1 0 none _, ?_, ?_⟩
  · have g3 : ((w.drewN (nq + 1)).setCell ⟨q2, 0, none⟩ (.int .i64 V)).heap[q1]? = some (.cells #[.int .i64 (k : Int)] 3 (0, 0)) := by
      rw [Below.heap_setCell _ _ _ _ (by simpa using hne)]; exact g1
    have := heap_setCell g3 0 (.int .i64 ((k : Int) + 1))
    simpa using this
  · rw [Below.heap_setCell _ _ _ _ (by simpa using hne.symm)]
    have := heap_setCell g2 0 (.int .i64 V)
    simpa using this
theorem Ext.drewN (w : World) (n : Nat) : Ext w (w.drewN n) := ⟨rfl, rfl, rfl, Nat.le_refl _, fun _ _ => rfl⟩
theorem Ext.two {w wr w1 : World} {j : Nat} (h : Ext w wr) (hb : But2 (w.heap.size + 1 + 1) (w.heap.size + 1) (wr.drewN j) w1) : Ext w w1 :=
  Below.trans (B := w.heap.size) (h.trans (Ext.drewN wr j)) (hb.below (by omega) (by omega) h.size)
/-- Ahead of each round: so many bytes are taken, all of them 128 or more. -/
structure Took (p : Nat) (s : Pack.St) (w wr : World) (k n : Nat) : Prop where
  ext : Ext w wr
  c0 : wr.heap[w.heap.size]? = some (.cells #[.pointer (some ⟨p, 0, none⟩)] 152 (0, 0))
  c1 : wr.heap[w.heap.size + 2]? = some (.cells #[.int .i64 (k : Int)] 3 (0, 0))
  c2 : wr.heap[w.heap.size + 1]? = some (.cells #[.int .i64 (n : Int)] 3 (0, 0))
  nine : k ≤ 9
  lead : k ≤ Pack.lead s.left
  val : n = Pack.val (s.left.take k)

theorem heap_three (w : World) (x y z : Obj) : (((w.alloc x).alloc y).alloc z).heap[w.heap.size]? = some x ∧ (((w.alloc x).alloc y).alloc z).heap[w.heap.size + 1]? = some y ∧ (((w.alloc x).alloc y).alloc z).heap[w.heap.size + 2]? = some z := by
  have s1 : (w.alloc x).heap.size = w.heap.size + 1 := World.size_alloc _ _
  have s2 : ((w.alloc x).alloc y).heap.size = w.heap.size + 2 := by rw [World.size_alloc, s1]
  have h1 : (w.alloc x).heap[w.heap.size]? = some x := heap_alloc_new _ _
  have h2 : ((w.alloc x).alloc y).heap[w.heap.size + 1]? = some y := by rw [← s1]; exact heap_alloc_new _ _
  have h3 : (((w.alloc x).alloc y).alloc z).heap[w.heap.size + 2]? = some z := by rw [← s2]; exact heap_alloc_new _ _
  refine ⟨?_, ?_, h3⟩
  · rw [Below.heap_alloc _ _ _ (by rw [s2]; omega), Below.heap_alloc _ _ _ (by rw [s1]; omega)]; exact h1
  · rw [Below.heap_alloc _ _ _ (by rw [s2]; omega)]; exact h2
theorem Took.first (p : Nat) (s : Pack.St) (w : World) : Took p s w (((w.alloc (.cells #[.pointer (some ⟨p, 0, none⟩)] 152)).alloc (.cells #[.int .i64 0] 3)).alloc (.cells #[.int .i64 0] 3)) 0 0 where
  ext := ((Ext.alloc _ _).trans (Ext.alloc _ _)).trans (Ext.alloc _ _)
  c0 := (heap_three _ _ _ _).1
  c1 := (heap_three _ _ _ _).2.2
  c2 := (heap_three _ _ _ _).2.1
  nine := by omega
  lead := by omega
  val := rfl
theorem Took.step {p k n j x : Nat} {s : Pack.St} {w wr w1 : World} (T : Took p s w wr k n) (hb : But2 (w.heap.size + 1 + 1) (w.heap.size + 1) (wr.drewN j) w1)
    (d1 : w1.heap[w.heap.size + 1 + 1]? = some (.cells #[.int .i64 ((k + 1 : Nat) : Int)] 3 (0, 0))) (d2 : w1.heap[w.heap.size + 1]? = some (.cells #[.int .i64 (x : Int)] 3 (0, 0)))
    (h9 : k + 1 ≤ 9) (hl : k + 1 ≤ Pack.lead s.left) (hlt : k < s.left.length) (hx : x = n + 128 ^ k * (s.left[k].toNat % 128)) : Took p s w w1 (k + 1) x where
  ext := T.ext.two hb
  c0 := by
    have := (Array.getElem?_eq_some_iff.1 T.c0).1
    rw [hb.block _ this (by omega) (by omega)]; exact T.c0
  c1 := d1
  c2 := d2
  nine := h9
  lead := hl
  val := by rw [hx, take_succ_getD s.left k hlt, Pack.val_snoc, T.val, List.length_take, Nat.min_eq_left (by omega)]

set_option maxRecDepth 100000 in
set_option maxHeartbeats 4000000 in
theorem num_any (p : Nat) (s : Pack.St) (most : Int) (w : World) (h : RD w p s) :
    Calls Try.prog 82 #[.pointer (some ⟨p, 0, none⟩), .int .i64 most] w (Turns p w (.int .i64 ((s.num most).2 : Nat)) (s.num most).1) := by
  have hmf : ∀ (fn : Fn) (first cap : Array Value) (w : World), (Instr.makeFunc fn first cap).run Try.prog w = .ok (.func fn first cap) w := fun _ _ _ _ => rfl
  have HR := Lib.hid h
  clear h
  go_enter Try.func82, Try.ntmps82
  go_wp2
  go_step3
  go_wp2
  go_step3
  go_wp2
  go_loopw [10] (fun _ wr => ∃ k n : Nat, Hid (Took p s w wr k n)) (fun _ wr => match wr.cell? ⟨w.heap.size + 2, 0, none⟩ with | some (.int _ i) => 9 - i.toNat | _ => 0)
  case atStart => exact ⟨0, 0, Took.first p s w⟩
  case round =>
    obtain ⟨k, n, T⟩ := hrel
    have c0 := cell_of_heap T.out.c0 0
    have c1 := cell_of_heap T.out.c1 0
    have c2 := cell_of_heap T.out.c2 0
    have hr := HR.out.ext T.out.ext
    have hk9 := T.out.nine
    have hkl := T.out.lead
    have hll := Pack.lead_le s.left
    obtain ⟨a, m, c, hheap, hby, hlw⟩ := hr
    have cr := cell_of_heap hheap 0
    have hm := hby.len.1
    simp at c0 c1 c2 cr
    by_cases h9 : k = 9
    · have hq : ((k : Int) == 9) = true := by simp [h9]
      have e : s.num most = (s.fail 21, 0) := by unfold Pack.St.num; rw [if_pos (by omega)]
      have hfail := fun w' => fail_any p s 21 w'
      rw [e]
      have hrr : RD wr p s := HR.out.ext T.out.ext
      clear e h9 hm hby hheap cr
      go_wp2_with (go_at_call 97; refine (fail_any p s 21 _ hrr).mono ?_; rintro e w1 ⟨rfl, hb1, hr1⟩)
      rw [Exit.noGoto_ret]
      go_ret
      exact ⟨rfl, (Ext.but T.out.ext p).trans hb1, hr1⟩
    · have hq : ((k : Int) == 9) = false := by simp; omega
      have hk8 : k ≤ 8 := by omega
      by_cases hl : k = s.left.length
      · have hq2 : ((k : Int) == (m : Int)) = true := by simp; omega
        have e : s.num most = (s.fail 20, 0) := by unfold Pack.St.num; rw [if_neg (by omega), if_pos (by omega)]
        rw [e]
        have hrr : RD wr p s := HR.out.ext T.out.ext
        clear e h9 hm hby hheap hl
        go_wp2
        go_quiet (fail)
        go_wp2_with (go_at_call 97; refine (fail_any p s 20 _ (hrr.ext (Ext.drewN _ _))).mono ?_; rintro e w1 ⟨rfl, hb1, hr1⟩)
        rw [Exit.noGoto_ret]
        go_ret
        exact ⟨rfl, (Ext.but (T.out.ext.trans (Ext.drewN _ _)) p).trans hb1, hr1⟩
      · have hq2 : ((k : Int) == (m : Int)) = false := by simp; omega
        have hlt : k < s.left.length := by omega
        have hrr : RD wr p s := HR.out.ext T.out.ext
        have hnv : n < 128 ^ k := by
          have := Pack.val_lt (s.left.take k)
          rw [List.length_take, Nat.min_eq_left (by omega), ← T.out.val] at this
          exact this
        have htk := fun j : Nat => take_any p w.heap.size (w.heap.size + 1 + 1) (w.heap.size + 1) k n s (wr.drewN j) (hrr.ext (Ext.drewN _ _)) T.out.c0 T.out.c1 T.out.c2 (by omega) (by omega) hnv hlt
        have hx8 := (s.left[k]).toNat_lt
        by_cases hx : s.left[k].toNat < 128
        · have hx1 : (s.left[k].toNat : Int) < 128 := by omega
          have hlead : Pack.lead s.left = k := Pack.lead_eq _ k hlt (fun i hi hik => Pack.lead_big _ i hi (by omega)) hx
          clear h9 hm hby hheap hl
          go_wp2
          go_quiet (fail)
          go_wp2_with (go_at_call 96; refine (htk _).mono ?_; rintro e w1 ⟨rfl, hb1, d1, d2⟩)
          have hE1 : Ext w w1 := T.out.ext.two hb1
          have hr1 : RD w1 p s := HR.out.ext hE1
          have hwr0 : w.heap.size < wr.heap.size := World.block_lt_of_cell? wr _ c0
          have d0 : w1.heap[w.heap.size]? = some (.cells #[.pointer (some ⟨p, 0, none⟩)] 152 (0, 0)) := by
            rw [hb1.block _ hwr0 (by omega) (by omega)]; exact T.out.c0
          obtain ⟨V, hV⟩ : ∃ V : Nat, V = n + 128 ^ k * (s.left[k].toNat % 128) := ⟨_, rfl⟩
          rw [← hV] at d2
          have hVv : V = Pack.val (s.left.take (k + 1)) := by rw [hV, take_succ_getD s.left k hlt, Pack.val_snoc, T.out.val, List.length_take, Nat.min_eq_left (by omega)]
          have hV63 : V < 9223372036854775808 := by
            have := Pack.val_lt (s.left.take (k + 1))
            rw [← hVv, List.length_take, Nat.min_eq_left (by omega), Nat.pow_succ] at this
            have := pow_le k (by omega)
            omega
          clear c0 c1 c2 cr htk hq hq2 hV hnv hx1 T hb1 hrr hwr0
          clear hkl
          have c0 := cell_of_heap d0 0
          have c1 := cell_of_heap d1 0
          have c2 := cell_of_heap d2 0
          obtain ⟨a1, m1, c3, hheap, hby, hlw1⟩ := hr1
          have cr := cell_of_heap hheap 0
          have hm := hby.len.1
          obtain ⟨a', c', e', hcap, hmax, _, hcell⟩ := hby.open
          injection e' with e1 e2 e3
          subst e1 e2 e3
          obtain ⟨b, off, rfl, hbk⟩ := hcell k hlt
          simp at c0 c1 c2 cr
          have hc1 : k + 1 ≤ c3 := by omega
          go_cut [8] (fun s8 wx => (∃ j : Nat, wx = w1.drewN j) ∧ s8 = .bool (decide (1 ≤ k ∧ s.left[k] = 0)))
          case first =>
            by_cases hk0 : k = 0
            · have hlong : decide (1 ≤ k ∧ s.left[k] = 0) = false := by simp; omega
              have hg : (decide ((1 : Int) < (k : Int) + 1)) = false := by simp; omega
              have HL := Lib.hid hlong
              clear hlong hk0
              go_quiet (fail)
              go_wp2_with fail
              go_meet
              exact ⟨⟨_, rfl⟩, by rw [HL.out]⟩
            · have hg : (1 : Int) < (k : Int) + 1 := by omega
              have hlong : decide (1 ≤ k ∧ s.left[k] = 0) = (((s.left[k].toNat : Nat) : Int) == 0) := by
                rw [Bool.eq_iff_iff]
                simp
                constructor
                · rintro ⟨_, h⟩; rw [h]; rfl
                · intro h; exact ⟨by omega, UInt8.toNat_inj.1 (by simpa using h)⟩
              have HL := Lib.hid hlong
              clear hlong hk0
              go_quiet (fail)
              go_wp2_with fail
              go_meet
              exact ⟨⟨_, rfl⟩, by rw [HL.out]⟩
          case rest =>
            obtain ⟨⟨j, rfl⟩, rfl⟩ := hcut
            have hEj : Ext w (w1.drewN j) := hE1.trans (Ext.drewN _ _)
            have hrj : RD (w1.drewN j) p s := HR.out.ext hEj
            have hwr : Pack.wrong (s.left.take (k + 1)) most ↔ (decide (1 ≤ k ∧ s.left[k] = 0) = true ∨ 4611686018427387904 < V ∨ most < (V : Int)) := by
              have hlast : (s.left.take (k + 1)).getLast? = some s.left[k] := by rw [take_succ_getD s.left k hlt]; exact List.getLast?_concat
              unfold Pack.wrong
              rw [← hVv, hlast, List.length_take, Nat.min_eq_left (by omega), decide_eq_true_eq, Option.some.injEq]
              have : 2 ≤ k + 1 ↔ 1 ≤ k := by omega
              rw [this]
            have hnum : s.num most = if Pack.wrong (s.left.take (k + 1)) most then (s.fail 21, 0) else (⟨s.left.drop (k + 1), s.err⟩, V) := by
              unfold Pack.St.num
              rw [hlead, if_neg (by omega), if_neg (by omega), ← hVv]
            have bad : decide (1 ≤ k ∧ s.left[k] = 0) = true ∨ 4611686018427387904 < V ∨ most < (V : Int) → s.num most = (s.fail 21, 0) := fun h => by rw [hnum, if_pos (hwr.2 h)]
            have good : ¬ (decide (1 ≤ k ∧ s.left[k] = 0) = true ∨ 4611686018427387904 < V ∨ most < (V : Int)) → s.num most = (⟨s.left.drop (k + 1), s.err⟩, V) := fun h => by rw [hnum, if_neg (fun hh => h (hwr.1 hh))]
            clear hwr hnum hVv hm hcell hlead
            generalize decide (1 ≤ k ∧ s.left[k] = 0) = B at *
            have done : ∀ (w2 : World), s.num most = (s.fail 21, 0) → But p (w1.drewN j) w2 → RD w2 p (s.fail 21) → Turns p w (.int .i64 ((s.num most).2 : Nat)) (s.num most).1 (.returned (.int .i64 0)) w2 := fun w2 e hb hr => by
              rw [e]; exact ⟨rfl, (Ext.but hEj p).trans hb, hr⟩
            cases B with
            | true =>
              have e := bad (.inl rfl)
              clear bad good
              go_wp2_with (go_at_call 97; refine (fail_any p s 21 _ hrj).mono ?_; rintro e w2 ⟨rfl, hb2, hr2⟩)
              rw [Exit.noGoto_ret]
              go_ret
              exact done _ e hb2 hr2
            | false =>
              by_cases h1 : (4611686018427387904 : Int) < (V : Int)
              · have e := bad (.inr (.inl (by omega)))
                clear bad good
                go_wp2_with (go_at_call 97; refine (fail_any p s 21 _ hrj).mono ?_; rintro e w2 ⟨rfl, hb2, hr2⟩)
                rw [Exit.noGoto_ret]
                go_ret
                exact done _ e hb2 hr2
              · by_cases h2 : most < (V : Int)
                · have e := bad (.inr (.inr h2))
                  clear bad good
                  go_wp2_with (go_at_call 97; refine (fail_any p s 21 _ hrj).mono ?_; rintro e w2 ⟨rfl, hb2, hr2⟩)
                  rw [Exit.noGoto_ret]
                  go_ret
                  exact done _ e hb2 hr2
                · have e := good (by
                    rintro (h | h | h)
                    · exact absurd h (by decide)
                    · omega
                    · omega)
                  have f0 := frozen_of_heap hheap 0
                  have hsub := hby.sub (k + 1) s.left.length (by omega) (Nat.le_refl _)
                  rw [List.take_length] at hsub
                  have hsl : ∀ w' : World, (Instr.sliceAt 22 (.slice (some ⟨b, off, none⟩) s.left.length c3) (some (.int .i64 ((k : Int) + 1))) none none).run Try.prog w' = .ok (.slice (if c3 = k + 1 then (some ⟨b, off, none⟩ : Option Addr) else (some ⟨b, off, none⟩ : Option Addr).map (·.add (k + 1))) (s.left.length - (k + 1)) (c3 - (k + 1))) w' := fun w' =>
                    run_sl_from (P := Try.prog) Try.underlying22 (by kernel_rfl) (k + 1) (by omega) .i64
                  have hlow : Low (if c3 = k + 1 then (some ⟨b, off, none⟩ : Option Addr) else (some ⟨b, off, none⟩ : Option Addr).map (·.add (k + 1))) p := hlw1.sub _ _
                  generalize hx1 : (if c3 = k + 1 then (some ⟨b, off, none⟩ : Option Addr) else (some ⟨b, off, none⟩ : Option Addr).map (·.add (k + 1))) = x1 at *
                  generalize hx2 : s.left.length - (k + 1) = x2 at *
                  generalize hx3 : c3 - (k + 1) = x3 at *
                  clear hx1 hx2 hx3 bad good done
                  have hplt := HR.out.lt
                  have hpc : ∀ (i : Nat) (v : Value), ((w1.drewN i).setCell ⟨p, 0, none⟩ v).cell? ⟨w.heap.size + 1, 0, none⟩ = some (.int .i64 (V : Int)) := by
                    intro i v
                    rw [World.cell?_of_block (w := w1.drewN i) (Below.heap_setCell _ _ _ _ (by show w.heap.size + 1 ≠ p; omega))]
                    exact c2
                  go_wp2
                  go_region
                  go_wp2
                  rw [Exit.noGoto_ret]
                  go_ret
                  rw [e]
                  have hheap' : (w1.drewN (j + 1)).heap[p]? = some (.cells #[.slice (some ⟨b, off, none⟩) s.left.length c3, .int .i64 s.err] 166 (0, 0)) := hheap
                  have hg := heap_setCell hheap' 0 (.slice x1 x2 x3)
                  have hbut : But p (w1.drewN (j + 1)) ((w1.drewN (j + 1)).setCell ⟨p, 0, none⟩ (.slice x1 x2 x3)) := (But.refl _ _).setCell 0 none _
                  refine ⟨rfl, (Ext.but (hE1.trans (Ext.drewN _ _)) p).trans hbut, RD.store (by simpa using hg) ?_ hlow⟩
                  exact (hsub.below (Ext.drewN w1 (j + 1))).off hheap' no_u8 hbut
        · have hx1 : ¬ (s.left[k].toNat : Int) < 128 := by omega
          have hlead : k + 1 ≤ Pack.lead s.left := by
            rcases Nat.lt_or_ge k (Pack.lead s.left) with h | h
            · exact h
            · have e : Pack.lead s.left = k := by omega
              have := Pack.lead_small s.left (by omega)
              simp only [e] at this
              exact absurd this hx
          clear h9 hm hby hheap hl
          go_wp2
          go_quiet (fail)
          go_wp2_with (go_at_call 96; refine (htk _).mono ?_; rintro e w1 ⟨rfl, hb1, d1, d2⟩)
          have hT : Took p s w w1 (k + 1) (n + 128 ^ k * (s.left[k].toNat % 128)) := T.out.step hb1 d1 d2 (by omega) hlead hlt rfl
          have cc := cell_of_heap d1 0
          refine ⟨⟨_, _, hT⟩, ?_⟩
          simp at cc
          have cc' : w1.cell? ⟨w.heap.size + 2, 0, none⟩ = some (.int .i64 ((k : Int) + 1)) := cc
          rw [cc', c1]
          simp only []
          omega
theorem str_len (l : List UInt8) : (ByteArray.mk l.toArray).size = l.length := by simp [ByteArray.size]

set_option maxRecDepth 100000 in
set_option maxHeartbeats 2000000 in
theorem text_any (p : Nat) (s : Pack.St) (most : Int) (w : World) (h : RD w p s) :
    Calls Try.prog 105 #[.pointer (some ⟨p, 0, none⟩), .int .i64 most] w (Turns p w (.string ⟨(s.text most).2.toArray⟩) (s.text most).1) := by
  obtain ⟨t, n, ht⟩ : ∃ t n, s.num most = (t, n) := ⟨_, _, rfl⟩
  have hnum := num_any p s most w h
  have hn63 : n < 9223372036854775808 := by
    have e : n = (s.num most).2 := by rw [ht]
    rw [e]
    unfold Pack.St.num
    split
    · simp
    · split
      · simp
      · split
        · simp
        · rename_i h1 h2 h3
          have := Pack.val_lt (s.left.take (Pack.lead s.left + 1))
          simp only [Pack.wrong] at h3
          omega
  rw [ht] at hnum
  by_cases hlt : t.left.length < n
  · have e : s.text most = (t.fail 20, []) := by unfold Pack.St.text; rw [ht]; simp only []; rw [if_pos hlt]
    have hq : (t.left.length : Int) < (n : Int) := by omega
    rw [e]
    clear e hlt
    go_enter Try.func105, Try.ntmps105
    go_wp2_with (go_at_call 82; refine hnum.mono ?_; rintro e w1 ⟨rfl, hb1, hr1⟩; have hrr := hr1; obtain ⟨a, m, c, hheap, hby, hlw⟩ := hr1; have cr := cell_of_heap hheap 0; have hm := hby.len.1; subst hm; simp at cr)
    refine (fail_any p t 20 _ hrr).mono ?_
    rintro e w2 ⟨rfl, hb2, hr2⟩
    go_wp2
    go_ret
    exact ⟨rfl, hb1.trans hb2, hr2⟩
  · have e : s.text most = (⟨t.left.drop n, t.err⟩, t.left.take n) := by unfold Pack.St.text; rw [ht]; simp only []; rw [if_neg hlt]
    have hq : ¬ (t.left.length : Int) < (n : Int) := by omega
    rw [e]
    have hle : n ≤ t.left.length := by omega
    clear e hlt
    go_enter Try.func105, Try.ntmps105
    go_wp2_with (go_at_call 82; refine hnum.mono ?_; rintro e w1 ⟨rfl, hb1, hr1⟩; have hrr := hr1; obtain ⟨a, m, c, hheap, hby, hlw⟩ := hr1; have cr := cell_of_heap hheap 0; have f0 := frozen_of_heap hheap 0; have hln := hby.len; obtain ⟨hm, hmc, hc63⟩ := hln; subst hm; simp at cr; have hsub := hby.sub n t.left.length hle (Nat.le_refl _); rw [List.take_length] at hsub; have hst := run_str (P := Try.prog) 22 9 5 Try.underlying22 Try.underlying5 Try.underlying9 (hby.take n hle); have hsl0 := fun w' : World => run_sl_to (P := Try.prog) (w := w') Try.underlying22 (by kernel_rfl) (a := a) (n := t.left.length) (cap := c) n (by omega) .i64; have hsl := fun w' : World => run_sl_from (P := Try.prog) (w := w') Try.underlying22 (by kernel_rfl) (a := a) (n := t.left.length) (cap := c) n hle .i64; have hlow : Low (if c = n then a else a.map (·.add n)) p := hlw.sub _ _; generalize (if c = n then a else a.map (·.add n)) = x1 at hsl hsub hlow; generalize t.left.length - n = x2 at hsl hsub; generalize c - n = x3 at hsl hsub)
    go_ret
    have hg := heap_setCell hheap 0 (.slice x1 x2 x3)
    have hbut : But p w1 (w1.setCell ⟨p, 0, none⟩ (.slice x1 x2 x3)) := (But.refl _ _).setCell 0 none _
    exact ⟨rfl, hb1.trans hbut, RD.store (by simpa using hg) (hsub.off hheap no_u8 hbut) hlow⟩

end Go.Proofs.Ytpefengjpedifaa
