/-
  CrcParts: in how many parts the bytes stand is not seen: for every input the statement's function returns true, and leaves what came in as it was.
-/
import Derived.Test.YtkgpcgcglbaehaaCrcT
namespace Go.Proofs.Ytkgpcgcglbaehaa
open Go.ChangeShapes Go.WideShapes Go.ChangeAt Go.RowKit

theorem run_row1p (w : World) (a : Option Addr) (n c : Nat) : (Instr.buildSlice 38 1 #[(0, .slice a n c)]).run Try.prog w = .ok (.slice (some ⟨w.heap.size, 0, none⟩) 1 1) (w.alloc (.cells #[.slice a n c] 22)) := by kernel_rfl
theorem run_row4p (w : World) (a a1 a3 : Option Addr) (n c n1 c1 n3 c3 : Nat) : (Instr.buildSlice 38 4 #[(0, .slice a n c), (1, .slice a1 n1 c1), (2, .slice none 0 0), (3, .slice a3 n3 c3)]).run Try.prog w = .ok (.slice (some ⟨w.heap.size, 0, none⟩) 4 4) (w.alloc (.cells #[.slice a n c, .slice a1 n1 c1, .slice none 0 0, .slice a3 n3 c3] 22)) := by kernel_rfl

theorem row1p {ps : List Nat} {w : World} {v : Value} {l : List UInt8} (h : BT ps w v l) : RT ps (w.alloc (.cells #[v] 22)) (.slice (some ⟨w.heap.size, 0, none⟩) 1 1) [l] :=
  ⟨Rows.made _ h.1, (LT.ext (Ext.alloc _ _)).tabs h.2⟩
theorem row4p {ps : List Nat} {w : World} {v1 v2 v4 : Value} {l1 l2 l4 : List UInt8} (h1 : BT ps w v1 l1) (h2 : BT ps w v2 l2) (h4 : BT ps w v4 l4) :
    RT ps (w.alloc (.cells #[v1, v2, .slice none 0 0, v4] 22)) (.slice (some ⟨w.heap.size, 0, none⟩) 4 4) [l1, l2, [], l4] :=
  ⟨Rows.mk [v1, v2, .slice none 0 0, v4] [l1, l2, [], l4] _ 4 rfl rfl (by simp [maxLen]) (fun i hi hi' => by
    have hi4 : i < 4 := by simpa using hi
    match i, hi4 with
    | 0, _ => exact h1.1
    | 1, _ => exact h2.1
    | 2, _ => exact ⟨none, 0, rfl, Nat.le_refl _, by simp [maxLen], fun _ => rfl, fun i hi => absurd hi (by simp)⟩
    | 3, _ => exact h4.1), (LT.ext (Ext.alloc _ _)).tabs h1.2⟩

set_option maxRecDepth 100000 in
set_option maxHeartbeats 4000000 in
theorem crcParts_walk (a : Option Addr) (n c : Nat) (l : List UInt8) (x y : Int) (W : World) (h0 : Bytes W (.slice a n c) l) (hx : (Lit.int .i64 x).wf = true) (hy : (Lit.int .i64 y).wf = true) :
    Calls Try.prog 5 #[.slice a n c, .int .i64 x, .int .i64 y] W fun e W' => e = .returned (.bool true) ∧ Below W.heap.size W W' := by
  obtain ⟨hx0, hx1⟩ := bounds_i64 hx
  obtain ⟨hy0, hy1⟩ := bounds_i64 hy
  have hn : n = l.length := by
    obtain ⟨_, _, e, _⟩ := h0.open
    injection e
  have hmax : c ≤ 9223372036854775807 ∧ n ≤ c := by
    obtain ⟨_, _, e, h1, h2, _⟩ := h0.open
    injection e with e1 e2 e3
    subst e3
    unfold maxLen at h2
    omega
  obtain ⟨hmax, hnc⟩ := hmax
  clear hx hy
  have bad : (x < 0 ∨ y < x ∨ (n : Int) < y ∨ 20000 < n) → Calls Try.prog 5 #[.slice a n c, .int .i64 x, .int .i64 y] W fun e W' => e = .returned (.bool true) ∧ Below W.heap.size W W' := by
    intro hbad
    have parts : x < 0 ∨ (¬ x < 0 ∧ y < x) ∨ (¬ x < 0 ∧ ¬ y < x ∧ (n : Int) < y) ∨ (¬ x < 0 ∧ ¬ y < x ∧ ¬ (n : Int) < y ∧ (20000 : Int) < (n : Int)) := by omega
    clear hbad hn
    rcases parts with p1 | ⟨p1, p2⟩ | ⟨p1, p2, p3⟩ | ⟨p1, p2, p3, p4⟩
    all_goals
      go_enter Try.func5, Try.ntmps5
      go_wp2_with fail
      refine (newT _).mono ?_
      rintro e w1 ⟨rfl, hb1, ht1⟩
      go_wp2_with fail
      refine (alive_any _).mono ?_
      rintro e w3 ⟨rfl, hb3⟩
      go_wp2_with fail
      go_ret
      exact ⟨rfl, (hb1.trans hb3).below⟩
  by_cases hbad : x < 0 ∨ y < x ∨ (n : Int) < y ∨ 20000 < n
  · exact bad hbad
  · clear bad
    have p1 : ¬ x < 0 := by omega
    have p2 : ¬ y < x := by omega
    have p3 : ¬ (n : Int) < y := by omega
    have p4 : ¬ (20000 : Int) < (n : Int) := by omega
    have hll : l.length ≤ 20000 := by omega
    clear hbad
    obtain ⟨i, rfl⟩ : ∃ i : Nat, x = (i : Int) := ⟨x.toNat, by omega⟩
    obtain ⟨j, rfl⟩ : ∃ j : Nat, y = (j : Int) := ⟨y.toNat, by omega⟩
    have hij : i ≤ j := by omega
    have hjn : j ≤ n := by omega
    have s1 := h0.take i (by omega)
    have s2 := h0.sub i j hij hjn
    have s3 := h0.sub j n hjn (Nat.le_refl _)
    have s4 := h0.sub i n (by omega) (Nat.le_refl _)
    have el : l.take n = l := by rw [hn]; exact List.take_length
    rw [el] at s3 s4
    have em : (l.take i ++ ((l.take j).drop i ++ ([] ++ l.drop j))) = l := by
      rw [List.nil_append, ← List.append_assoc]
      have : l.take i ++ (l.take j).drop i = l.take j := by
        conv => rhs; rw [← List.take_append_drop i (l.take j)]
        rw [List.take_take, Nat.min_eq_left hij]
      rw [this, List.take_append_drop]
    have emm : Crc.more (Crc.sum (l.take i)) (l.drop i) = Crc.sum l := by
      unfold Crc.sum
      rw [Crc.more_more, List.take_append_drop]
    have hsi : Crc.sum (l.take i) < 4294967296 := Crc.more_lt _ _
    obtain ⟨a2, ha2⟩ : ∃ a2, a2 = (if c = i then a else a.map (·.add i)) := ⟨_, rfl⟩
    obtain ⟨a3, ha3⟩ : ∃ a3, a3 = (if c = j then a else a.map (·.add j)) := ⟨_, rfl⟩
    rw [← ha2] at s2 s4
    rw [← ha3] at s3
    have r1 : ∀ w : World, (Instr.sliceAt 22 (.slice a n c) none (some (.int .i64 (i : Int))) none).run Try.prog w = .ok (.slice a i c) w := fun w => run_sl_to Try.underlying22 (by kernel_rfl) i (by omega) .i64
    have r2 : ∀ w : World, (Instr.sliceAt 22 (.slice a n c) (some (.int .i64 (i : Int))) (some (.int .i64 (j : Int))) none).run Try.prog w = .ok (.slice a2 (j - i) (c - i)) w := fun w => by rw [ha2]; exact run_sl_both Try.underlying22 (by kernel_rfl) i j hij (by omega) .i64 .i64
    have r3 : ∀ w : World, (Instr.sliceAt 22 (.slice a n c) (some (.int .i64 (j : Int))) none none).run Try.prog w = .ok (.slice a3 (n - j) (c - j)) w := fun w => by rw [ha3]; exact run_sl_from Try.underlying22 (by kernel_rfl) j hjn .i64
    have r4 : ∀ w : World, (Instr.sliceAt 22 (.slice a n c) (some (.int .i64 (i : Int))) none none).run Try.prog w = .ok (.slice a2 (n - i) (c - i)) w := fun w => by rw [ha2]; exact run_sl_from Try.underlying22 (by kernel_rfl) i (by omega) .i64
    have EM := Lib.hid em
    have EMM := Lib.hid emm
    clear hn el em emm ha2 ha3
    have R1 := Lib.hid r1
    have R2 := Lib.hid r2
    have R3 := Lib.hid r3
    have R4 := Lib.hid r4
    clear r1 r2 r3 r4
    go_enter Try.func5, Try.ntmps5
    go_wp2_with fail
    refine (newT _).mono ?_
    rintro e w1 ⟨rfl, hb1, ht1⟩
    go_wp2_with fail
    have hps : TBs [W.heap.size] w1 := by
      intro p hp
      simp only [List.mem_cons, List.not_mem_nil, or_false] at hp
      subst hp
      exact ht1
    have hB : BT [W.heap.size] w1 (.slice a n c) l := ⟨h0.below hb1, hps⟩
    have hB1 : BT [W.heap.size] w1 (.slice a i c) (l.take i) := ⟨s1.below hb1, hps⟩
    have hB2 : BT [W.heap.size] w1 (.slice a2 (j - i) (c - i)) ((l.take j).drop i) := ⟨s2.below hb1, hps⟩
    have hB3 : BT [W.heap.size] w1 (.slice a3 (n - j) (c - j)) (l.drop j) := ⟨s3.below hb1, hps⟩
    have hB4 : BT [W.heap.size] w1 (.slice a2 (n - i) (c - i)) (l.drop i) := ⟨s4.below hb1, hps⟩
    refine wp_region_facts (by kernel_rfl) (LT [W.heap.size]) (fun iop v w => match iop with
        | 0 => v = .bool true
        | 1 => v = .bool true
        | 2 => v = .pointer (some ⟨W.heap.size, 0, none⟩)
        | 3 => v = .slice a n c
        | 4 => RT [W.heap.size] w v [l]
        | 5 => v = .int .u32 (Crc.sum l : Nat)
        | 6 => v = .pointer (some ⟨W.heap.size, 0, none⟩)
        | 7 => v = .slice a n c
        | 8 => v = .int .i64 (i : Int)
        | 9 => v = .slice a i c
        | 10 => v = .slice a n c
        | 11 => v = .int .i64 (i : Int)
        | 12 => v = .int .i64 (j : Int)
        | 13 => v = .slice a2 (j - i) (c - i)
        | 14 => v = .slice a n c
        | 15 => v = .int .i64 (j : Int)
        | 16 => v = .slice a3 (n - j) (c - j)
        | 17 => RT [W.heap.size] w v [l.take i, (l.take j).drop i, [], l.drop j]
        | 18 => v = .int .u32 (Crc.sum l : Nat)
        | 19 => v = .bool true
        | 20 => v = .bool true
        | 21 => v = .bool true
        | 22 => v = .pointer (some ⟨W.heap.size, 0, none⟩)
        | 23 => v = .slice a n c
        | 24 => RT [W.heap.size] w v [l]
        | 25 => v = .int .u32 (Crc.sum l : Nat)
        | 26 => v = .pointer (some ⟨W.heap.size, 0, none⟩)
        | 27 => v = .pointer (some ⟨W.heap.size, 0, none⟩)
        | 28 => v = .slice a n c
        | 29 => v = .int .i64 (i : Int)
        | 30 => v = .slice a i c
        | 31 => RT [W.heap.size] w v [l.take i]
        | 32 => v = .int .u32 (Crc.sum (l.take i) : Nat)
        | 33 => v = .slice a n c
        | 34 => v = .int .i64 (i : Int)
        | 35 => v = .slice a2 (n - i) (c - i)
        | 36 => v = .int .u32 (Crc.sum l : Nat)
        | 37 => v = .bool true
        | 38 => v = .bool true
        | _ => v = .bool true
        ) (by kernel_rfl) (fun _ _ _ h k => LT.trans h k) (fun a => LT.refl _ a) (LT.drew _ _) ?_ ?_ ?_
    · intro iop v wa wb hF hL
      cases iop with
      | zero => exact hF
      | succ iop =>
        cases iop with
        | zero => exact hF
        | succ iop =>
          cases iop with
          | zero => exact hF
          | succ iop =>
            cases iop with
            | zero => exact hF
            | succ iop =>
              cases iop with
              | zero => (first | exact BT.later hF hL | exact RT.later hF hL)
              | succ iop =>
                cases iop with
                | zero => exact hF
                | succ iop =>
                  cases iop with
                  | zero => exact hF
                  | succ iop =>
                    cases iop with
                    | zero => exact hF
                    | succ iop =>
                      cases iop with
                      | zero => exact hF
                      | succ iop =>
                        cases iop with
                        | zero => exact hF
                        | succ iop =>
                          cases iop with
                          | zero => exact hF
                          | succ iop =>
                            cases iop with
                            | zero => exact hF
                            | succ iop =>
                              cases iop with
                              | zero => exact hF
                              | succ iop =>
                                cases iop with
                                | zero => exact hF
                                | succ iop =>
                                  cases iop with
                                  | zero => exact hF
                                  | succ iop =>
                                    cases iop with
                                    | zero => exact hF
                                    | succ iop =>
                                      cases iop with
                                      | zero => exact hF
                                      | succ iop =>
                                        cases iop with
                                        | zero => (first | exact BT.later hF hL | exact RT.later hF hL)
                                        | succ iop =>
                                          cases iop with
                                          | zero => exact hF
                                          | succ iop =>
                                            cases iop with
                                            | zero => exact hF
                                            | succ iop =>
                                              cases iop with
                                              | zero => exact hF
                                              | succ iop =>
                                                cases iop with
                                                | zero => exact hF
                                                | succ iop =>
                                                  cases iop with
                                                  | zero => exact hF
                                                  | succ iop =>
                                                    cases iop with
                                                    | zero => exact hF
                                                    | succ iop =>
                                                      cases iop with
                                                      | zero => (first | exact BT.later hF hL | exact RT.later hF hL)
                                                      | succ iop =>
                                                        cases iop with
                                                        | zero => exact hF
                                                        | succ iop =>
                                                          cases iop with
                                                          | zero => exact hF
                                                          | succ iop =>
                                                            cases iop with
                                                            | zero => exact hF
                                                            | succ iop =>
                                                              cases iop with
                                                              | zero => exact hF
                                                              | succ iop =>
                                                                cases iop with
                                                                | zero => exact hF
                                                                | succ iop =>
                                                                  cases iop with
                                                                  | zero => exact hF
                                                                  | succ iop =>
                                                                    cases iop with
                                                                    | zero => (first | exact BT.later hF hL | exact RT.later hF hL)
                                                                    | succ iop =>
                                                                      cases iop with
                                                                      | zero => exact hF
                                                                      | succ iop =>
                                                                        cases iop with
                                                                        | zero => exact hF
                                                                        | succ iop =>
                                                                          cases iop with
                                                                          | zero => exact hF
                                                                          | succ iop =>
                                                                            cases iop with
                                                                            | zero => exact hF
                                                                            | succ iop =>
                                                                              cases iop with
                                                                              | zero => exact hF
                                                                              | succ iop =>
                                                                                cases iop with
                                                                                | zero => exact hF
                                                                                | succ iop =>
                                                                                  cases iop with
                                                                                  | zero => exact hF
                                                                                  | succ iop =>
                                                                                    exact hF
    · refine Obls.cons ?_ (Obls.cons ?_ (Obls.cons ?_ (Obls.cons ?_ (Obls.cons ?_ (Obls.cons ?_ (Obls.cons ?_ (Obls.cons ?_ (Obls.cons ?_ (Obls.cons ?_ (Obls.cons ?_ (Obls.cons ?_ (Obls.cons ?_ (Obls.cons ?_ (Obls.cons ?_ (Obls.cons ?_ (Obls.cons ?_ (Obls.cons ?_ (Obls.cons ?_ (Obls.cons ?_ (Obls.cons ?_ (Obls.cons ?_ (Obls.cons ?_ (Obls.cons ?_ (Obls.cons ?_ (Obls.cons ?_ (Obls.cons ?_ (Obls.cons ?_ (Obls.cons ?_ (Obls.cons ?_ (Obls.cons ?_ (Obls.cons ?_ (Obls.cons ?_ (Obls.cons ?_ (Obls.cons ?_ (Obls.cons ?_ (Obls.cons ?_ (Obls.cons ?_ (Obls.cons ?_ (Obls.cons ?_ (Obls.nil))))))))))))))))))))))))))))))))))))))))
      · intro ev wy hp hl hk hd
        clear hk
        clear hd
        refine Yield.call rfl hp Try.func11 rfl (by kernel_rfl) ?_
        simp only [List.map_toArray, List.map_nil]
        exact (aliveT _ _).mono fun _ _ ⟨he, hb⟩ => ⟨_, he, hb, by first | rfl | simp⟩
      · intro ev wy hp hl hk hd
        have e36 : ev (.tmp 36) = .bool true := hk 36 (by decide)
        clear hk
        clear hd
        exact Yield.mv rfl ⟨LT.refl _ _, e36⟩
      · intro ev wy hp hl hk hd
        have e7 : ev (.tmp 7) = .pointer (some ⟨W.heap.size, 0, none⟩) := hk 7 (by decide)
        clear hk
        refine ⟨fun _ _ _ => ?_, fun _ hx hne => absurd hx hne⟩
        clear hd
        exact Yield.mv rfl ⟨LT.refl _ _, e7⟩
      · intro ev wy hp hl hk hd
        have e0 : ev (.tmp 0) = .slice a n c := hk 0 (by decide)
        clear hk
        refine ⟨fun _ _ _ => ?_, fun _ hx hne => absurd hx hne⟩
        clear hd
        exact Yield.mv rfl ⟨LT.refl _ _, e0⟩
      · intro ev wy hp hl hk hd
        have e39 : ev (.tmp 39) = .slice a n c := hk 39 (by decide)
        clear hk
        refine ⟨fun _ _ _ => ?_, fun _ hx hne => absurd hx hne⟩
        clear hd
        exact Yield.op (w' := wy.alloc (.cells #[.slice a n c] 22)) (by simp only [execOp, List.map_toArray, List.map_cons, List.map_nil, e39, Sem.run_bind, run_row1p]; rfl) ⟨LT.ext (Ext.alloc _ _), row1p (hB.later hl)⟩
      · intro ev wy hp hl hk hd
        have e38 : ev (.tmp 38) = .pointer (some ⟨W.heap.size, 0, none⟩) := hk 38 (by decide)
        have f40 : (fun (v : Value) (w : World) => RT [W.heap.size] w v [l]) (ev (.tmp 40)) wy := hk 40 (by decide)
        generalize hx40 : ev (.tmp 40) = x40 at *
        clear hk
        refine ⟨fun _ _ _ => ?_, fun _ hx hne => absurd hx hne⟩
        clear hd
        refine Yield.call rfl hp Try.func12 rfl (by kernel_rfl) ?_
        simp only [List.map_toArray, List.map_cons, List.map_nil, e38, hx40]
        exact (sumT (by simp) f40).mono fun _ _ ⟨he, hb⟩ => ⟨_, he, hb, by first | rfl | simp⟩
      · intro ev wy hp hl hk hd
        have e7 : ev (.tmp 7) = .pointer (some ⟨W.heap.size, 0, none⟩) := hk 7 (by decide)
        clear hk
        refine ⟨fun _ _ _ => ?_, fun _ hx hne => absurd hx hne⟩
        clear hd
        exact Yield.mv rfl ⟨LT.refl _ _, e7⟩
      · intro ev wy hp hl hk hd
        have e0 : ev (.tmp 0) = .slice a n c := hk 0 (by decide)
        clear hk
        refine ⟨fun _ _ _ => ?_, fun _ hx hne => absurd hx hne⟩
        clear hd
        exact Yield.mv rfl ⟨LT.refl _ _, e0⟩
      · intro ev wy hp hl hk hd
        have e1 : ev (.tmp 1) = .int .i64 (i : Int) := hk 1 (by decide)
        clear hk
        refine ⟨fun _ _ _ => ?_, fun _ hx hne => absurd hx hne⟩
        clear hd
        exact Yield.mv rfl ⟨LT.refl _ _, e1⟩
      · intro ev wy hp hl hk hd
        have e43 : ev (.tmp 43) = .slice a n c := hk 43 (by decide)
        have e44 : ev (.tmp 44) = .int .i64 (i : Int) := hk 44 (by decide)
        clear hk
        refine ⟨fun _ _ _ => ?_, fun _ hx hne => absurd hx hne⟩
        clear hd
        exact Yield.slice rfl e43 (by simp only [Option.map_none, Option.map_some, e44]; exact R1.out wy) ⟨LT.refl _ _, rfl⟩
      · intro ev wy hp hl hk hd
        have e0 : ev (.tmp 0) = .slice a n c := hk 0 (by decide)
        clear hk
        refine ⟨fun _ _ _ => ?_, fun _ hx hne => absurd hx hne⟩
        clear hd
        exact Yield.mv rfl ⟨LT.refl _ _, e0⟩
      · intro ev wy hp hl hk hd
        have e1 : ev (.tmp 1) = .int .i64 (i : Int) := hk 1 (by decide)
        clear hk
        refine ⟨fun _ _ _ => ?_, fun _ hx hne => absurd hx hne⟩
        clear hd
        exact Yield.mv rfl ⟨LT.refl _ _, e1⟩
      · intro ev wy hp hl hk hd
        have e2 : ev (.tmp 2) = .int .i64 (j : Int) := hk 2 (by decide)
        clear hk
        refine ⟨fun _ _ _ => ?_, fun _ hx hne => absurd hx hne⟩
        clear hd
        exact Yield.mv rfl ⟨LT.refl _ _, e2⟩
      · intro ev wy hp hl hk hd
        have e46 : ev (.tmp 46) = .slice a n c := hk 46 (by decide)
        have e47 : ev (.tmp 47) = .int .i64 (i : Int) := hk 47 (by decide)
        have e48 : ev (.tmp 48) = .int .i64 (j : Int) := hk 48 (by decide)
        clear hk
        refine ⟨fun _ _ _ => ?_, fun _ hx hne => absurd hx hne⟩
        clear hd
        exact Yield.slice rfl e46 (by simp only [Option.map_none, Option.map_some, e47, e48]; exact R2.out wy) ⟨LT.refl _ _, rfl⟩
      · intro ev wy hp hl hk hd
        have e0 : ev (.tmp 0) = .slice a n c := hk 0 (by decide)
        clear hk
        refine ⟨fun _ _ _ => ?_, fun _ hx hne => absurd hx hne⟩
        clear hd
        exact Yield.mv rfl ⟨LT.refl _ _, e0⟩
      · intro ev wy hp hl hk hd
        have e2 : ev (.tmp 2) = .int .i64 (j : Int) := hk 2 (by decide)
        clear hk
        refine ⟨fun _ _ _ => ?_, fun _ hx hne => absurd hx hne⟩
        clear hd
        exact Yield.mv rfl ⟨LT.refl _ _, e2⟩
      · intro ev wy hp hl hk hd
        have e50 : ev (.tmp 50) = .slice a n c := hk 50 (by decide)
        have e51 : ev (.tmp 51) = .int .i64 (j : Int) := hk 51 (by decide)
        clear hk
        refine ⟨fun _ _ _ => ?_, fun _ hx hne => absurd hx hne⟩
        clear hd
        exact Yield.slice rfl e50 (by simp only [Option.map_none, Option.map_some, e51]; exact R3.out wy) ⟨LT.refl _ _, rfl⟩
      · intro ev wy hp hl hk hd
        have e45 : ev (.tmp 45) = .slice a i c := hk 45 (by decide)
        have e49 : ev (.tmp 49) = .slice a2 (j - i) (c - i) := hk 49 (by decide)
        have e52 : ev (.tmp 52) = .slice a3 (n - j) (c - j) := hk 52 (by decide)
        clear hk
        refine ⟨fun _ _ _ => ?_, fun _ hx hne => absurd hx hne⟩
        clear hd
        exact Yield.op (w' := wy.alloc (.cells #[.slice a i c, .slice a2 (j - i) (c - i), .slice none 0 0, .slice a3 (n - j) (c - j)] 22)) (by simp only [execOp, List.map_toArray, List.map_cons, List.map_nil, e45, e49, e52, hp.const, Sem.run_bind, run_row4p]; rfl) ⟨LT.ext (Ext.alloc _ _), row4p (hB1.later hl) (hB2.later hl) (hB3.later hl)⟩
      · intro ev wy hp hl hk hd
        have e42 : ev (.tmp 42) = .pointer (some ⟨W.heap.size, 0, none⟩) := hk 42 (by decide)
        have f53 : (fun (v : Value) (w : World) => RT [W.heap.size] w v [l.take i, (l.take j).drop i, [], l.drop j]) (ev (.tmp 53)) wy := hk 53 (by decide)
        generalize hx53 : ev (.tmp 53) = x53 at *
        clear hk
        refine ⟨fun _ _ _ => ?_, fun _ hx hne => absurd hx hne⟩
        clear hd
        refine Yield.call rfl hp Try.func12 rfl (by kernel_rfl) ?_
        simp only [List.map_toArray, List.map_cons, List.map_nil, e42, hx53]
        exact (sumT (by simp) f53).mono fun _ _ ⟨he, hb⟩ => ⟨_, he, hb, by simp only [List.flatten_cons, List.flatten_nil, List.append_nil, EM.out]⟩
      · intro ev wy hp hl hk hd
        have e41 : ev (.tmp 41) = .int .u32 (Crc.sum l : Nat) := hk 41 (by decide)
        have e54 : ev (.tmp 54) = .int .u32 (Crc.sum l : Nat) := hk 54 (by decide)
        clear hk
        refine ⟨fun _ _ _ => ?_, fun _ hx hne => absurd hx hne⟩
        clear hd
        exact Yield.op (v := .bool true) (w' := wy) (by simp [execOp, go_sem, e41, e54]) ⟨LT.refl _ _, rfl⟩
      · intro ev wy hp hl hk hd
        have e37 : ev (.tmp 37) = .bool true := hk 37 (by decide)
        have e55 : ev (.tmp 55) = .bool true := hk 55 (by decide)
        clear hk
        clear hd
        exact Yield.pick (t := true) rfl e37 ⟨LT.refl _ _, e55⟩
      · intro ev wy hp hl hk hd
        have e56 : ev (.tmp 56) = .bool true := hk 56 (by decide)
        clear hk
        clear hd
        exact Yield.mv rfl ⟨LT.refl _ _, e56⟩
      · intro ev wy hp hl hk hd
        have e7 : ev (.tmp 7) = .pointer (some ⟨W.heap.size, 0, none⟩) := hk 7 (by decide)
        clear hk
        refine ⟨fun _ _ _ => ?_, fun _ hx hne => absurd hx hne⟩
        clear hd
        exact Yield.mv rfl ⟨LT.refl _ _, e7⟩
      · intro ev wy hp hl hk hd
        have e0 : ev (.tmp 0) = .slice a n c := hk 0 (by decide)
        clear hk
        refine ⟨fun _ _ _ => ?_, fun _ hx hne => absurd hx hne⟩
        clear hd
        exact Yield.mv rfl ⟨LT.refl _ _, e0⟩
      · intro ev wy hp hl hk hd
        have e59 : ev (.tmp 59) = .slice a n c := hk 59 (by decide)
        clear hk
        refine ⟨fun _ _ _ => ?_, fun _ hx hne => absurd hx hne⟩
        clear hd
        exact Yield.op (w' := wy.alloc (.cells #[.slice a n c] 22)) (by simp only [execOp, List.map_toArray, List.map_cons, List.map_nil, e59, Sem.run_bind, run_row1p]; rfl) ⟨LT.ext (Ext.alloc _ _), row1p (hB.later hl)⟩
      · intro ev wy hp hl hk hd
        have e58 : ev (.tmp 58) = .pointer (some ⟨W.heap.size, 0, none⟩) := hk 58 (by decide)
        have f60 : (fun (v : Value) (w : World) => RT [W.heap.size] w v [l]) (ev (.tmp 60)) wy := hk 60 (by decide)
        generalize hx60 : ev (.tmp 60) = x60 at *
        clear hk
        refine ⟨fun _ _ _ => ?_, fun _ hx hne => absurd hx hne⟩
        clear hd
        refine Yield.call rfl hp Try.func12 rfl (by kernel_rfl) ?_
        simp only [List.map_toArray, List.map_cons, List.map_nil, e58, hx60]
        exact (sumT (by simp) f60).mono fun _ _ ⟨he, hb⟩ => ⟨_, he, hb, by first | rfl | simp⟩
      · intro ev wy hp hl hk hd
        have e7 : ev (.tmp 7) = .pointer (some ⟨W.heap.size, 0, none⟩) := hk 7 (by decide)
        clear hk
        refine ⟨fun _ _ _ => ?_, fun _ hx hne => absurd hx hne⟩
        clear hd
        exact Yield.mv rfl ⟨LT.refl _ _, e7⟩
      · intro ev wy hp hl hk hd
        have e7 : ev (.tmp 7) = .pointer (some ⟨W.heap.size, 0, none⟩) := hk 7 (by decide)
        clear hk
        refine ⟨fun _ _ _ => ?_, fun _ hx hne => absurd hx hne⟩
        clear hd
        exact Yield.mv rfl ⟨LT.refl _ _, e7⟩
      · intro ev wy hp hl hk hd
        have e0 : ev (.tmp 0) = .slice a n c := hk 0 (by decide)
        clear hk
        refine ⟨fun _ _ _ => ?_, fun _ hx hne => absurd hx hne⟩
        clear hd
        exact Yield.mv rfl ⟨LT.refl _ _, e0⟩
      · intro ev wy hp hl hk hd
        have e1 : ev (.tmp 1) = .int .i64 (i : Int) := hk 1 (by decide)
        clear hk
        refine ⟨fun _ _ _ => ?_, fun _ hx hne => absurd hx hne⟩
        clear hd
        exact Yield.mv rfl ⟨LT.refl _ _, e1⟩
      · intro ev wy hp hl hk hd
        have e64 : ev (.tmp 64) = .slice a n c := hk 64 (by decide)
        have e65 : ev (.tmp 65) = .int .i64 (i : Int) := hk 65 (by decide)
        clear hk
        refine ⟨fun _ _ _ => ?_, fun _ hx hne => absurd hx hne⟩
        clear hd
        exact Yield.slice rfl e64 (by simp only [Option.map_none, Option.map_some, e65]; exact R1.out wy) ⟨LT.refl _ _, rfl⟩
      · intro ev wy hp hl hk hd
        have e66 : ev (.tmp 66) = .slice a i c := hk 66 (by decide)
        clear hk
        refine ⟨fun _ _ _ => ?_, fun _ hx hne => absurd hx hne⟩
        clear hd
        exact Yield.op (w' := wy.alloc (.cells #[.slice a i c] 22)) (by simp only [execOp, List.map_toArray, List.map_cons, List.map_nil, e66, Sem.run_bind, run_row1p]; rfl) ⟨LT.ext (Ext.alloc _ _), row1p (hB1.later hl)⟩
      · intro ev wy hp hl hk hd
        have e63 : ev (.tmp 63) = .pointer (some ⟨W.heap.size, 0, none⟩) := hk 63 (by decide)
        have f67 : (fun (v : Value) (w : World) => RT [W.heap.size] w v [l.take i]) (ev (.tmp 67)) wy := hk 67 (by decide)
        generalize hx67 : ev (.tmp 67) = x67 at *
        clear hk
        refine ⟨fun _ _ _ => ?_, fun _ hx hne => absurd hx hne⟩
        clear hd
        refine Yield.call rfl hp Try.func12 rfl (by kernel_rfl) ?_
        simp only [List.map_toArray, List.map_cons, List.map_nil, e63, hx67]
        exact (sumT (by simp) f67).mono fun _ _ ⟨he, hb⟩ => ⟨_, he, hb, by first | rfl | simp⟩
      · intro ev wy hp hl hk hd
        have e0 : ev (.tmp 0) = .slice a n c := hk 0 (by decide)
        clear hk
        refine ⟨fun _ _ _ => ?_, fun _ hx hne => absurd hx hne⟩
        clear hd
        exact Yield.mv rfl ⟨LT.refl _ _, e0⟩
      · intro ev wy hp hl hk hd
        have e1 : ev (.tmp 1) = .int .i64 (i : Int) := hk 1 (by decide)
        clear hk
        refine ⟨fun _ _ _ => ?_, fun _ hx hne => absurd hx hne⟩
        clear hd
        exact Yield.mv rfl ⟨LT.refl _ _, e1⟩
      · intro ev wy hp hl hk hd
        have e69 : ev (.tmp 69) = .slice a n c := hk 69 (by decide)
        have e70 : ev (.tmp 70) = .int .i64 (i : Int) := hk 70 (by decide)
        clear hk
        refine ⟨fun _ _ _ => ?_, fun _ hx hne => absurd hx hne⟩
        clear hd
        exact Yield.slice rfl e69 (by simp only [Option.map_none, Option.map_some, e70]; exact R4.out wy) ⟨LT.refl _ _, rfl⟩
      · intro ev wy hp hl hk hd
        have e62 : ev (.tmp 62) = .pointer (some ⟨W.heap.size, 0, none⟩) := hk 62 (by decide)
        have e68 : ev (.tmp 68) = .int .u32 (Crc.sum (l.take i) : Nat) := hk 68 (by decide)
        have e71 : ev (.tmp 71) = .slice a2 (n - i) (c - i) := hk 71 (by decide)
        clear hk
        refine ⟨fun _ _ _ => ?_, fun _ hx hne => absurd hx hne⟩
        clear hd
        refine Yield.call rfl hp Try.func14 rfl (by kernel_rfl) ?_
        simp only [List.map_toArray, List.map_cons, List.map_nil, e62, e68, e71]
        exact (moreT (by simp) hsi (hB4.later hl)).mono fun _ _ ⟨he, hb⟩ => ⟨_, he, hb, by rw [EMM.out]⟩
      · intro ev wy hp hl hk hd
        have e61 : ev (.tmp 61) = .int .u32 (Crc.sum l : Nat) := hk 61 (by decide)
        have e72 : ev (.tmp 72) = .int .u32 (Crc.sum l : Nat) := hk 72 (by decide)
        clear hk
        refine ⟨fun _ _ _ => ?_, fun _ hx hne => absurd hx hne⟩
        clear hd
        exact Yield.op (v := .bool true) (w' := wy) (by simp [execOp, go_sem, e61, e72]) ⟨LT.refl _ _, rfl⟩
      · intro ev wy hp hl hk hd
        have e57 : ev (.tmp 57) = .bool true := hk 57 (by decide)
        have e73 : ev (.tmp 73) = .bool true := hk 73 (by decide)
        clear hk
        clear hd
        exact Yield.pick (t := true) rfl e57 ⟨LT.refl _ _, e73⟩
      · intro ev wy hp hl hk hd
        have e74 : ev (.tmp 74) = .bool true := hk 74 (by decide)
        clear hk
        clear hd
        exact Yield.as rfl ⟨LT.refl _ _, e74⟩
    · intro vals wz hz hv
      have g36 : vals 0 = .bool true := hv 0 (by decide)
      have g37 : vals 1 = .bool true := hv 1 (by decide)
      have g38 : vals 2 = .pointer (some ⟨W.heap.size, 0, none⟩) := hv 2 (by decide)
      have g39 : vals 3 = .slice a n c := hv 3 (by decide)
      have g40 : (fun (v : Value) (w : World) => RT [W.heap.size] w v [l]) (vals 4) wz := hv 4 (by decide)
      have g41 : vals 5 = .int .u32 (Crc.sum l : Nat) := hv 5 (by decide)
      have g42 : vals 6 = .pointer (some ⟨W.heap.size, 0, none⟩) := hv 6 (by decide)
      have g43 : vals 7 = .slice a n c := hv 7 (by decide)
      have g44 : vals 8 = .int .i64 (i : Int) := hv 8 (by decide)
      have g45 : vals 9 = .slice a i c := hv 9 (by decide)
      have g46 : vals 10 = .slice a n c := hv 10 (by decide)
      have g47 : vals 11 = .int .i64 (i : Int) := hv 11 (by decide)
      have g48 : vals 12 = .int .i64 (j : Int) := hv 12 (by decide)
      have g49 : vals 13 = .slice a2 (j - i) (c - i) := hv 13 (by decide)
      have g50 : vals 14 = .slice a n c := hv 14 (by decide)
      have g51 : vals 15 = .int .i64 (j : Int) := hv 15 (by decide)
      have g52 : vals 16 = .slice a3 (n - j) (c - j) := hv 16 (by decide)
      have g53 : (fun (v : Value) (w : World) => RT [W.heap.size] w v [l.take i, (l.take j).drop i, [], l.drop j]) (vals 17) wz := hv 17 (by decide)
      have g54 : vals 18 = .int .u32 (Crc.sum l : Nat) := hv 18 (by decide)
      have g55 : vals 19 = .bool true := hv 19 (by decide)
      have g56 : vals 20 = .bool true := hv 20 (by decide)
      have g57 : vals 21 = .bool true := hv 21 (by decide)
      have g58 : vals 22 = .pointer (some ⟨W.heap.size, 0, none⟩) := hv 22 (by decide)
      have g59 : vals 23 = .slice a n c := hv 23 (by decide)
      have g60 : (fun (v : Value) (w : World) => RT [W.heap.size] w v [l]) (vals 24) wz := hv 24 (by decide)
      have g61 : vals 25 = .int .u32 (Crc.sum l : Nat) := hv 25 (by decide)
      have g62 : vals 26 = .pointer (some ⟨W.heap.size, 0, none⟩) := hv 26 (by decide)
      have g63 : vals 27 = .pointer (some ⟨W.heap.size, 0, none⟩) := hv 27 (by decide)
      have g64 : vals 28 = .slice a n c := hv 28 (by decide)
      have g65 : vals 29 = .int .i64 (i : Int) := hv 29 (by decide)
      have g66 : vals 30 = .slice a i c := hv 30 (by decide)
      have g67 : (fun (v : Value) (w : World) => RT [W.heap.size] w v [l.take i]) (vals 31) wz := hv 31 (by decide)
      have g68 : vals 32 = .int .u32 (Crc.sum (l.take i) : Nat) := hv 32 (by decide)
      have g69 : vals 33 = .slice a n c := hv 33 (by decide)
      have g70 : vals 34 = .int .i64 (i : Int) := hv 34 (by decide)
      have g71 : vals 35 = .slice a2 (n - i) (c - i) := hv 35 (by decide)
      have g72 : vals 36 = .int .u32 (Crc.sum l : Nat) := hv 36 (by decide)
      have g73 : vals 37 = .bool true := hv 37 (by decide)
      have g74 : vals 38 = .bool true := hv 38 (by decide)
      have g6 : vals 39 = .bool true := hv 39 (by decide)
      clear hv
      simp only [putAll, Act.put, List.setIfInBounds_toArray, List.set_cons_zero, List.set_cons_succ, g36, g37, g38, g39, g41, g42, g43, g44, g45, g46, g47, g48, g49, g50, g51, g52, g54, g55, g56, g57, g58, g59, g61, g62, g63, g64, g65, g66, g68, g69, g70, g71, g72, g73, g74, g6]
      clear g36
      clear g37
      clear g38
      clear g39
      generalize vals 4 = v40 at *
      clear g41
      clear g42
      clear g43
      clear g44
      clear g45
      clear g46
      clear g47
      clear g48
      clear g49
      clear g50
      clear g51
      clear g52
      generalize vals 17 = v53 at *
      clear g54
      clear g55
      clear g56
      clear g57
      clear g58
      clear g59
      generalize vals 24 = v60 at *
      clear g61
      clear g62
      clear g63
      clear g64
      clear g65
      clear g66
      generalize vals 31 = v67 at *
      clear g68
      clear g69
      clear g70
      clear g71
      clear g72
      clear g73
      clear g74
      clear g6
      go_wp2_with fail
      go_ret
      exact ⟨rfl, ((LT.ext hb1).trans hz).below (Nat.le_refl _) (by intro p hp; simp only [List.mem_cons, List.not_mem_nil, or_false] at hp; omega)⟩

namespace crcParts
theorem own : ownKnob Try.prog.godebug = none := by kernel_rfl
theorem laidOut : laidOutB Try.prog = true := by kernel_rfl
set_option linter.unusedVariables false in
set_option maxRecDepth 100000 in
theorem lifted (os : Os) (started : os.Started) (H : Type) (enc : TypeId × Value → H) :
    ReturnsInHanded {} Try.checked os 5 .any (Rows.crcPartsSpec.pre6 enc Try.prog Try.f5 Rows.crcPartsRow.domain false) (Rows.crcPartsSpec.post enc Try.prog Try.f5 false true false false) := by
  refine returnsInHanded_of_change (C := Try.checked) own started (by kernel_rfl) Try.func5
    (ChangeSpec.witness6 (enc := enc) (C := Try.checked) false ⟨#[], #[.slice none 0 0, .int .i64 0, .int .i64 0], []⟩ 8 (by kernel_rfl) (by kernel_rfl) (by kernel_rfl) (by kernel_rfl)) ?_
  intro W base args ds gs before hval0 hW hcnd _
  have hval : ∀ (j : Nat) t v, Try.f5.params[j]? = some t → args[j]? = some v → Value.okWide Try.prog W .any base t v := hval0
  have hW' := hW
  obtain ⟨p, q, hA0, hV, rfl, hfz, hnd⟩ := hW
  have hA : DataW.TrodAll enc Try.prog W 0 (fun _ => true) true Try.f5.params.toList args.toList ds p := hA0
  rw [Try.params5] at hA hval
  obtain ⟨v0, vs0, d0, ds0, p0, q0, hargs, rfl, rfl, h0, r0⟩ := trodAll_cons hA
  obtain ⟨v1, vs1, d1, ds1, p1, q1, rfl, rfl, rfl, h1, r1⟩ := trodAll_cons r0
  obtain ⟨v2, vs2, d2, ds2, p2, q2, rfl, rfl, rfl, h2, r2⟩ := trodAll_cons r1
  obtain ⟨rfl, rfl, rfl⟩ := trodAll_nil r2
  obtain rfl : args = #[v0, v1, v2] := by cases args; simp_all
  obtain ⟨rfl, rfl⟩ := trodVars_none hV
  have k0 := h0
  have lt0 : ∀ x ∈ p0, x.block < W.heap.size := by obtain ⟨m, hm⟩ := k0; exact DataW.trod_lt m _ _ _ hm
  obtain ⟨a0, len0, cap0, rfl⟩ := okWide_slice Try.underlying22 (hval 0 22 v0 rfl rfl)
  obtain ⟨l0, w0⟩ : ∃ l, Bytes W (.slice a0 len0 cap0) l := by
    obtain ⟨fuel, hf⟩ := h0
    obtain ⟨v, l, hcs, hb⟩ := bytes_of_raw Try.underlying22 Try.underlying5 (by kernel_rfl) hf
    simp [Value.cells] at hcs
    subst hcs
    exact ⟨l, hb⟩
  have k1 := h1
  have lt1 : ∀ x ∈ p1, x.block < W.heap.size := by obtain ⟨m, hm⟩ := k1; exact DataW.trod_lt m _ _ _ hm
  obtain ⟨a1, rfl, _, _, w1⟩ := open_int Try.underlying3 (hval 1 3 v1 rfl rfl) h1
  have k2 := h2
  have lt2 : ∀ x ∈ p2, x.block < W.heap.size := by obtain ⟨m, hm⟩ := k2; exact DataW.trod_lt m _ _ _ hm
  obtain ⟨a2, rfl, _, _, w2⟩ := open_int Try.underlying3 (hval 2 3 v2 rfl rfl) h2
  clear hA0 hval0
  refine (crcParts_walk a0 len0 cap0 l0 a1 a2 W w0 w1 w2).mono fun e W' ⟨he, bel⟩ => ?_
  subst he
  exact ⟨_, rfl, _, _, _, [], _, [], hW', trodAll_mk1 (shut_bool Try.underlying4 _), (trodAll_cons_mk (Below.trod laidOut (by kernel_rfl) (of_decide_eq_true (by kernel_rfl)) k0 bel lt0) (trodAll_cons_mk (Below.trod laidOut (by kernel_rfl) (of_decide_eq_true (by kernel_rfl)) k1 bel lt1) (trodAll_cons_mk (Below.trod laidOut (by kernel_rfl) (of_decide_eq_true (by kernel_rfl)) k2 bel lt2) trodAll_mk0))), rfl, bel.frame _, fun h => by cases h⟩
theorem over : Rows.crcPartsRow.holds Try.pinned (OpenSpec.ofChange Rows.crcPartsSpec) :=
  OpenClaim.holds_of_wide 5 Try.f5 rfl rfl rfl rfl rfl rfl rfl ⟨rfl, rfl, rfl, rfl, rfl⟩ rfl rfl rfl rfl rfl (by kernel_rfl) Try.func5 (by kernel_rfl)
    (of_decide_eq_true (by kernel_rfl)) (by unfold Func.isWrapper; first | (rw [if_pos (by decide +kernel)]; kernel_rfl) | (rw [if_neg (by decide +kernel)]; exact ⟨rfl, rfl⟩))
    (fun os started H enc _ => lifted os started H enc)
theorem proved : Rows.CrcPartsSaid := over
end crcParts
end Go.Proofs.Ytkgpcgcglbaehaa
