/-
  CrcTwo: two tables make the same sums: for every input the statement's function returns true, and leaves what came in as it was.
-/
import Derived.Test.YtkgpcgcglbaehaaCrcT
namespace Go.Proofs.Ytkgpcgcglbaehaa
open Go.ChangeShapes Go.WideShapes Go.ChangeAt Go.RowKit

theorem run_row1 (w : World) (a : Option Addr) (n c : Nat) : (Instr.buildSlice 38 1 #[(0, .slice a n c)]).run Try.prog w = .ok (.slice (some ⟨w.heap.size, 0, none⟩) 1 1) (w.alloc (.cells #[.slice a n c] 22)) := by kernel_rfl

set_option maxRecDepth 100000 in
set_option maxHeartbeats 2000000 in
theorem crcTwo_walk (a : Option Addr) (n c : Nat) (l : List UInt8) (s : Int) (W : World) (h0 : Bytes W (.slice a n c) l) (hs : (Lit.int .u32 s).wf = true) :
    Calls Try.prog 9 #[.slice a n c, .int .u32 s] W fun e W' => e = .returned (.bool true) ∧ Below W.heap.size W W' := by
  obtain ⟨hs0, hs1⟩ := bounds_u32 hs
  obtain ⟨m, rfl⟩ : ∃ m : Nat, s = (m : Int) := ⟨s.toNat, by omega⟩
  have hm : m < 4294967296 := by omega
  have hn : n = l.length := by
    obtain ⟨_, _, e, _⟩ := h0.open
    injection e
  have hmax : c ≤ 9223372036854775807 ∧ n ≤ c := by
    obtain ⟨_, _, e, h1, h2, _⟩ := h0.open
    injection e with e1 e2 e3
    subst e3
    unfold maxLen at h2
    omega
  obtain ⟨hmax, hnc⟩ := hmax
  clear hs hs0 hs1
  by_cases hlen : 20000 < n
  · clear hn
    go_enter Try.func9, Try.ntmps9
    go_wp2_with fail
    refine (newT _).mono ?_
    rintro e w1 ⟨rfl, hb1, ht1⟩
    go_wp2_with fail
    refine (newT _).mono ?_
    rintro e w2 ⟨rfl, hb2, ht2⟩
    go_wp2_with fail
    refine (alive_any _).mono ?_
    rintro e w3 ⟨rfl, hb3⟩
    go_wp2_with fail
    go_ret
    exact ⟨rfl, ((hb1.trans hb2).trans hb3).below⟩
  · have hll : l.length ≤ 20000 := by omega
    clear hn
    go_enter Try.func9, Try.ntmps9
    go_wp2_with fail
    refine (newT _).mono ?_
    rintro e w1 ⟨rfl, hb1, ht1⟩
    go_wp2_with fail
    refine (newT _).mono ?_
    rintro e w2 ⟨rfl, hb2, ht2⟩
    go_wp2_with fail
    have hps : TBs [W.heap.size, w1.heap.size] w2 := by
      intro p hp
      simp only [List.mem_cons, List.not_mem_nil, or_false] at hp
      rcases hp with rfl | rfl
      · exact ht1.ext hb2
      · exact ht2
    have hB2 : BT [W.heap.size, w1.heap.size] w2 (.slice a n c) l := ⟨h0.below (hb1.trans hb2), hps⟩
    have hsz := hb1.size
    refine (sumT (p := w1.heap.size) (by simp) (row1T hB2)).mono ?_
    rintro e w3 ⟨rfl, hl3⟩
    have hB3 := hB2.later ((LT.ext (Ext.alloc _ _)).trans hl3)
    have hl03 : LT [W.heap.size, w1.heap.size] W w3 := (LT.ext (hb1.trans hb2)).trans ((LT.ext (Ext.alloc _ _)).trans hl3)
    clear hl3
    go_wp2_with fail
    refine wp_region_facts (by kernel_rfl) (LT [W.heap.size, w1.heap.size]) (fun iop v w => match iop with
        | 0 => v = .bool true
        | 1 => v = .bool true
        | 2 => v = .pointer (some ⟨W.heap.size, 0, none⟩)
        | 3 => v = .slice a n c
        | 4 => RT [W.heap.size, w1.heap.size] w v [l]
        | 5 => v = .int .u32 (Crc.sum l : Nat)
        | 6 => v = .pointer (some ⟨w1.heap.size, 0, none⟩)
        | 7 => v = .slice a n c
        | 8 => RT [W.heap.size, w1.heap.size] w v [l]
        | 9 => v = .int .u32 (Crc.sum l : Nat)
        | 10 => v = .bool true
        | 11 => v = .bool true
        | 12 => v = .bool true
        | 13 => v = .pointer (some ⟨W.heap.size, 0, none⟩)
        | 14 => v = .int .u32 (m : Int)
        | 15 => v = .slice a n c
        | 16 => v = .int .u32 (Crc.more m l : Nat)
        | 17 => v = .pointer (some ⟨w1.heap.size, 0, none⟩)
        | 18 => v = .int .u32 (m : Int)
        | 19 => v = .slice a n c
        | 20 => v = .int .u32 (Crc.more m l : Nat)
        | 21 => v = .bool true
        | 22 => v = .bool true
        | 23 => v = .bool true
        | 24 => v = .pointer (some ⟨W.heap.size, 0, none⟩)
        | 25 => v = .slice a n c
        | 26 => BT [W.heap.size, w1.heap.size] w v (l ++ Crc.low (Crc.sum l))
        | 27 => v = .string ⟨(l ++ Crc.low (Crc.sum l)).toArray⟩
        | 28 => v = .pointer (some ⟨w1.heap.size, 0, none⟩)
        | 29 => v = .slice a n c
        | 30 => BT [W.heap.size, w1.heap.size] w v (l ++ Crc.low (Crc.sum l))
        | 31 => v = .string ⟨(l ++ Crc.low (Crc.sum l)).toArray⟩
        | 32 => v = .bool true
        | 33 => v = .bool true
        | _ => v = .bool true
        ) (by kernel_rfl) (fun _ _ _ h k => LT.trans h k) (fun a => LT.refl _ a) (LT.drew _ _) ?_ ?_ ?_
    · intro iop v wa wb hF hL
      cases iop with
      | zero => exact hF
      | succ iop =>
        cases iop with
        | zero => exact hF
        | succ iop =>
          cases iop with
          | zero => exact hF
          | succ iop =>
            cases iop with
            | zero => exact hF
            | succ iop =>
              cases iop with
              | zero => (first | exact BT.later hF hL | exact RT.later hF hL)
              | succ iop =>
                cases iop with
                | zero => exact hF
                | succ iop =>
                  cases iop with
                  | zero => exact hF
                  | succ iop =>
                    cases iop with
                    | zero => exact hF
                    | succ iop =>
                      cases iop with
                      | zero => (first | exact BT.later hF hL | exact RT.later hF hL)
                      | succ iop =>
                        cases iop with
                        | zero => exact hF
                        | succ iop =>
                          cases iop with
                          | zero => exact hF
                          | succ iop =>
                            cases iop with
                            | zero => exact hF
                            | succ iop =>
                              cases iop with
                              | zero => exact hF
                              | succ iop =>
                                cases iop with
                                | zero => exact hF
                                | succ iop =>
                                  cases iop with
                                  | zero => exact hF
                                  | succ iop =>
                                    cases iop with
                                    | zero => exact hF
                                    | succ iop =>
                                      cases iop with
                                      | zero => exact hF
                                      | succ iop =>
                                        cases iop with
                                        | zero => exact hF
                                        | succ iop =>
                                          cases iop with
                                          | zero => exact hF
                                          | succ iop =>
                                            cases iop with
                                            | zero => exact hF
                                            | succ iop =>
                                              cases iop with
                                              | zero => exact hF
                                              | succ iop =>
                                                cases iop with
                                                | zero => exact hF
                                                | succ iop =>
                                                  cases iop with
                                                  | zero => exact hF
                                                  | succ iop =>
                                                    cases iop with
                                                    | zero => exact hF
                                                    | succ iop =>
                                                      cases iop with
                                                      | zero => exact hF
                                                      | succ iop =>
                                                        cases iop with
                                                        | zero => exact hF
                                                        | succ iop =>
                                                          cases iop with
                                                          | zero => (first | exact BT.later hF hL | exact RT.later hF hL)
                                                          | succ iop =>
                                                            cases iop with
                                                            | zero => exact hF
                                                            | succ iop =>
                                                              cases iop with
                                                              | zero => exact hF
                                                              | succ iop =>
                                                                cases iop with
                                                                | zero => exact hF
                                                                | succ iop =>
                                                                  cases iop with
                                                                  | zero => (first | exact BT.later hF hL | exact RT.later hF hL)
                                                                  | succ iop =>
                                                                    cases iop with
                                                                    | zero => exact hF
                                                                    | succ iop =>
                                                                      cases iop with
                                                                      | zero => exact hF
                                                                      | succ iop =>
                                                                        cases iop with
                                                                        | zero => exact hF
                                                                        | succ iop =>
                                                                          exact hF
    · refine Obls.cons ?_ (Obls.cons ?_ (Obls.cons ?_ (Obls.cons ?_ (Obls.cons ?_ (Obls.cons ?_ (Obls.cons ?_ (Obls.cons ?_ (Obls.cons ?_ (Obls.cons ?_ (Obls.cons ?_ (Obls.cons ?_ (Obls.cons ?_ (Obls.cons ?_ (Obls.cons ?_ (Obls.cons ?_ (Obls.cons ?_ (Obls.cons ?_ (Obls.cons ?_ (Obls.cons ?_ (Obls.cons ?_ (Obls.cons ?_ (Obls.cons ?_ (Obls.cons ?_ (Obls.cons ?_ (Obls.cons ?_ (Obls.cons ?_ (Obls.cons ?_ (Obls.cons ?_ (Obls.cons ?_ (Obls.cons ?_ (Obls.cons ?_ (Obls.cons ?_ (Obls.cons ?_ (Obls.cons ?_ (Obls.nil)))))))))))))))))))))))))))))))))))
      · intro ev wy hp hl hk hd
        clear hk
        clear hd
        refine Yield.call rfl hp Try.func11 rfl (by kernel_rfl) ?_
        simp only [List.map_toArray, List.map_nil]
        exact (aliveT _ _).mono fun _ _ ⟨he, hb⟩ => ⟨_, he, hb, by first | rfl | simp⟩
      · intro ev wy hp hl hk hd
        have e33 : ev (.tmp 33) = .bool true := hk 33 (by decide)
        clear hk
        clear hd
        exact Yield.mv rfl ⟨LT.refl _ _, e33⟩
      · intro ev wy hp hl hk hd
        have e5 : ev (.tmp 5) = .pointer (some ⟨W.heap.size, 0, none⟩) := hk 5 (by decide)
        clear hk
        refine ⟨fun _ _ _ => ?_, fun _ hx hne => absurd hx hne⟩
        clear hd
        exact Yield.mv rfl ⟨LT.refl _ _, e5⟩
      · intro ev wy hp hl hk hd
        have e0 : ev (.tmp 0) = .slice a n c := hk 0 (by decide)
        clear hk
        refine ⟨fun _ _ _ => ?_, fun _ hx hne => absurd hx hne⟩
        clear hd
        exact Yield.mv rfl ⟨LT.refl _ _, e0⟩
      · intro ev wy hp hl hk hd
        have e36 : ev (.tmp 36) = .slice a n c := hk 36 (by decide)
        clear hk
        refine ⟨fun _ _ _ => ?_, fun _ hx hne => absurd hx hne⟩
        clear hd
        exact Yield.op (w' := wy.alloc (.cells #[.slice a n c] 22)) (by simp only [execOp, List.map_toArray, List.map_cons, List.map_nil, e36, Sem.run_bind, run_row1]; rfl) ⟨LT.ext (Ext.alloc _ _), row1T (hB3.later hl)⟩
      · intro ev wy hp hl hk hd
        have e35 : ev (.tmp 35) = .pointer (some ⟨W.heap.size, 0, none⟩) := hk 35 (by decide)
        have f37 : (fun (v : Value) (w : World) => RT [W.heap.size, w1.heap.size] w v [l]) (ev (.tmp 37)) wy := hk 37 (by decide)
        generalize hx37 : ev (.tmp 37) = x37 at *
        clear hk
        refine ⟨fun _ _ _ => ?_, fun _ hx hne => absurd hx hne⟩
        clear hd
        refine Yield.call rfl hp Try.func12 rfl (by kernel_rfl) ?_
        simp only [List.map_toArray, List.map_cons, List.map_nil, e35, hx37]
        exact (sumT (by simp) f37).mono fun _ _ ⟨he, hb⟩ => ⟨_, he, hb, by first | rfl | simp⟩
      · intro ev wy hp hl hk hd
        have e6 : ev (.tmp 6) = .pointer (some ⟨w1.heap.size, 0, none⟩) := hk 6 (by decide)
        clear hk
        refine ⟨fun _ _ _ => ?_, fun _ hx hne => absurd hx hne⟩
        clear hd
        exact Yield.mv rfl ⟨LT.refl _ _, e6⟩
      · intro ev wy hp hl hk hd
        have e0 : ev (.tmp 0) = .slice a n c := hk 0 (by decide)
        clear hk
        refine ⟨fun _ _ _ => ?_, fun _ hx hne => absurd hx hne⟩
        clear hd
        exact Yield.mv rfl ⟨LT.refl _ _, e0⟩
      · intro ev wy hp hl hk hd
        have e40 : ev (.tmp 40) = .slice a n c := hk 40 (by decide)
        clear hk
        refine ⟨fun _ _ _ => ?_, fun _ hx hne => absurd hx hne⟩
        clear hd
        exact Yield.op (w' := wy.alloc (.cells #[.slice a n c] 22)) (by simp only [execOp, List.map_toArray, List.map_cons, List.map_nil, e40, Sem.run_bind, run_row1]; rfl) ⟨LT.ext (Ext.alloc _ _), row1T (hB3.later hl)⟩
      · intro ev wy hp hl hk hd
        have e39 : ev (.tmp 39) = .pointer (some ⟨w1.heap.size, 0, none⟩) := hk 39 (by decide)
        have f41 : (fun (v : Value) (w : World) => RT [W.heap.size, w1.heap.size] w v [l]) (ev (.tmp 41)) wy := hk 41 (by decide)
        generalize hx41 : ev (.tmp 41) = x41 at *
        clear hk
        refine ⟨fun _ _ _ => ?_, fun _ hx hne => absurd hx hne⟩
        clear hd
        refine Yield.call rfl hp Try.func12 rfl (by kernel_rfl) ?_
        simp only [List.map_toArray, List.map_cons, List.map_nil, e39, hx41]
        exact (sumT (by simp) f41).mono fun _ _ ⟨he, hb⟩ => ⟨_, he, hb, by first | rfl | simp⟩
      · intro ev wy hp hl hk hd
        have e38 : ev (.tmp 38) = .int .u32 (Crc.sum l : Nat) := hk 38 (by decide)
        have e42 : ev (.tmp 42) = .int .u32 (Crc.sum l : Nat) := hk 42 (by decide)
        clear hk
        refine ⟨fun _ _ _ => ?_, fun _ hx hne => absurd hx hne⟩
        clear hd
        exact Yield.op (v := .bool true) (w' := wy) (by simp [execOp, go_sem, e38, e42]) ⟨LT.refl _ _, rfl⟩
      · intro ev wy hp hl hk hd
        have e34 : ev (.tmp 34) = .bool true := hk 34 (by decide)
        have e43 : ev (.tmp 43) = .bool true := hk 43 (by decide)
        clear hk
        clear hd
        exact Yield.pick (t := true) rfl e34 ⟨LT.refl _ _, e43⟩
      · intro ev wy hp hl hk hd
        have e44 : ev (.tmp 44) = .bool true := hk 44 (by decide)
        clear hk
        clear hd
        exact Yield.mv rfl ⟨LT.refl _ _, e44⟩
      · intro ev wy hp hl hk hd
        have e5 : ev (.tmp 5) = .pointer (some ⟨W.heap.size, 0, none⟩) := hk 5 (by decide)
        clear hk
        refine ⟨fun _ _ _ => ?_, fun _ hx hne => absurd hx hne⟩
        clear hd
        exact Yield.mv rfl ⟨LT.refl _ _, e5⟩
      · intro ev wy hp hl hk hd
        have e1 : ev (.tmp 1) = .int .u32 (m : Int) := hk 1 (by decide)
        clear hk
        refine ⟨fun _ _ _ => ?_, fun _ hx hne => absurd hx hne⟩
        clear hd
        exact Yield.mv rfl ⟨LT.refl _ _, e1⟩
      · intro ev wy hp hl hk hd
        have e0 : ev (.tmp 0) = .slice a n c := hk 0 (by decide)
        clear hk
        refine ⟨fun _ _ _ => ?_, fun _ hx hne => absurd hx hne⟩
        clear hd
        exact Yield.mv rfl ⟨LT.refl _ _, e0⟩
      · intro ev wy hp hl hk hd
        have e46 : ev (.tmp 46) = .pointer (some ⟨W.heap.size, 0, none⟩) := hk 46 (by decide)
        have e47 : ev (.tmp 47) = .int .u32 (m : Int) := hk 47 (by decide)
        have e48 : ev (.tmp 48) = .slice a n c := hk 48 (by decide)
        clear hk
        refine ⟨fun _ _ _ => ?_, fun _ hx hne => absurd hx hne⟩
        clear hd
        refine Yield.call rfl hp Try.func14 rfl (by kernel_rfl) ?_
        simp only [List.map_toArray, List.map_cons, List.map_nil, e46, e47, e48]
        exact (moreT (by simp) hm (hB3.later hl)).mono fun _ _ ⟨he, hb⟩ => ⟨_, he, hb, by first | rfl | simp⟩
      · intro ev wy hp hl hk hd
        have e6 : ev (.tmp 6) = .pointer (some ⟨w1.heap.size, 0, none⟩) := hk 6 (by decide)
        clear hk
        refine ⟨fun _ _ _ => ?_, fun _ hx hne => absurd hx hne⟩
        clear hd
        exact Yield.mv rfl ⟨LT.refl _ _, e6⟩
      · intro ev wy hp hl hk hd
        have e1 : ev (.tmp 1) = .int .u32 (m : Int) := hk 1 (by decide)
        clear hk
        refine ⟨fun _ _ _ => ?_, fun _ hx hne => absurd hx hne⟩
        clear hd
        exact Yield.mv rfl ⟨LT.refl _ _, e1⟩
      · intro ev wy hp hl hk hd
        have e0 : ev (.tmp 0) = .slice a n c := hk 0 (by decide)
        clear hk
        refine ⟨fun _ _ _ => ?_, fun _ hx hne => absurd hx hne⟩
        clear hd
        exact Yield.mv rfl ⟨LT.refl _ _, e0⟩
      · intro ev wy hp hl hk hd
        have e50 : ev (.tmp 50) = .pointer (some ⟨w1.heap.size, 0, none⟩) := hk 50 (by decide)
        have e51 : ev (.tmp 51) = .int .u32 (m : Int) := hk 51 (by decide)
        have e52 : ev (.tmp 52) = .slice a n c := hk 52 (by decide)
        clear hk
        refine ⟨fun _ _ _ => ?_, fun _ hx hne => absurd hx hne⟩
        clear hd
        refine Yield.call rfl hp Try.func14 rfl (by kernel_rfl) ?_
        simp only [List.map_toArray, List.map_cons, List.map_nil, e50, e51, e52]
        exact (moreT (by simp) hm (hB3.later hl)).mono fun _ _ ⟨he, hb⟩ => ⟨_, he, hb, by first | rfl | simp⟩
      · intro ev wy hp hl hk hd
        have e49 : ev (.tmp 49) = .int .u32 (Crc.more m l : Nat) := hk 49 (by decide)
        have e53 : ev (.tmp 53) = .int .u32 (Crc.more m l : Nat) := hk 53 (by decide)
        clear hk
        refine ⟨fun _ _ _ => ?_, fun _ hx hne => absurd hx hne⟩
        clear hd
        exact Yield.op (v := .bool true) (w' := wy) (by simp [execOp, go_sem, e49, e53]) ⟨LT.refl _ _, rfl⟩
      · intro ev wy hp hl hk hd
        have e45 : ev (.tmp 45) = .bool true := hk 45 (by decide)
        have e54 : ev (.tmp 54) = .bool true := hk 54 (by decide)
        clear hk
        clear hd
        exact Yield.pick (t := true) rfl e45 ⟨LT.refl _ _, e54⟩
      · intro ev wy hp hl hk hd
        have e55 : ev (.tmp 55) = .bool true := hk 55 (by decide)
        clear hk
        clear hd
        exact Yield.mv rfl ⟨LT.refl _ _, e55⟩
      · intro ev wy hp hl hk hd
        have e5 : ev (.tmp 5) = .pointer (some ⟨W.heap.size, 0, none⟩) := hk 5 (by decide)
        clear hk
        refine ⟨fun _ _ _ => ?_, fun _ hx hne => absurd hx hne⟩
        clear hd
        exact Yield.mv rfl ⟨LT.refl _ _, e5⟩
      · intro ev wy hp hl hk hd
        have e0 : ev (.tmp 0) = .slice a n c := hk 0 (by decide)
        clear hk
        refine ⟨fun _ _ _ => ?_, fun _ hx hne => absurd hx hne⟩
        clear hd
        exact Yield.mv rfl ⟨LT.refl _ _, e0⟩
      · intro ev wy hp hl hk hd
        have e57 : ev (.tmp 57) = .pointer (some ⟨W.heap.size, 0, none⟩) := hk 57 (by decide)
        have e58 : ev (.tmp 58) = .slice a n c := hk 58 (by decide)
        clear hk
        refine ⟨fun _ _ _ => ?_, fun _ hx hne => absurd hx hne⟩
        clear hd
        refine Yield.call rfl hp Try.func18 rfl (by kernel_rfl) ?_
        simp only [List.map_toArray, List.map_cons, List.map_nil, e57, e58]
        exact (putT (by simp) (hB3.later hl) (by omega)).mono fun _ _ ⟨u, he, hb, hu⟩ => ⟨u, he, hb, hu⟩
      · intro ev wy hp hl hk hd
        have f59 : (fun (v : Value) (w : World) => BT [W.heap.size, w1.heap.size] w v (l ++ Crc.low (Crc.sum l))) (ev (.tmp 59)) wy := hk 59 (by decide)
        generalize hx59 : ev (.tmp 59) = x59 at *
        clear hk
        refine ⟨fun _ _ _ => ?_, fun _ hx hne => absurd hx hne⟩
        clear hd
        exact Yield.conv rfl hx59 (run_str _ _ 5 Try.underlying22 Try.underlying5 Try.underlying9 (f59.1)) ⟨LT.refl _ _, rfl⟩
      · intro ev wy hp hl hk hd
        have e6 : ev (.tmp 6) = .pointer (some ⟨w1.heap.size, 0, none⟩) := hk 6 (by decide)
        clear hk
        refine ⟨fun _ _ _ => ?_, fun _ hx hne => absurd hx hne⟩
        clear hd
        exact Yield.mv rfl ⟨LT.refl _ _, e6⟩
      · intro ev wy hp hl hk hd
        have e0 : ev (.tmp 0) = .slice a n c := hk 0 (by decide)
        clear hk
        refine ⟨fun _ _ _ => ?_, fun _ hx hne => absurd hx hne⟩
        clear hd
        exact Yield.mv rfl ⟨LT.refl _ _, e0⟩
      · intro ev wy hp hl hk hd
        have e61 : ev (.tmp 61) = .pointer (some ⟨w1.heap.size, 0, none⟩) := hk 61 (by decide)
        have e62 : ev (.tmp 62) = .slice a n c := hk 62 (by decide)
        clear hk
        refine ⟨fun _ _ _ => ?_, fun _ hx hne => absurd hx hne⟩
        clear hd
        refine Yield.call rfl hp Try.func18 rfl (by kernel_rfl) ?_
        simp only [List.map_toArray, List.map_cons, List.map_nil, e61, e62]
        exact (putT (by simp) (hB3.later hl) (by omega)).mono fun _ _ ⟨u, he, hb, hu⟩ => ⟨u, he, hb, hu⟩
      · intro ev wy hp hl hk hd
        have f63 : (fun (v : Value) (w : World) => BT [W.heap.size, w1.heap.size] w v (l ++ Crc.low (Crc.sum l))) (ev (.tmp 63)) wy := hk 63 (by decide)
        generalize hx63 : ev (.tmp 63) = x63 at *
        clear hk
        refine ⟨fun _ _ _ => ?_, fun _ hx hne => absurd hx hne⟩
        clear hd
        exact Yield.conv rfl hx63 (run_str _ _ 5 Try.underlying22 Try.underlying5 Try.underlying9 (f63.1)) ⟨LT.refl _ _, rfl⟩
      · intro ev wy hp hl hk hd
        have e60 : ev (.tmp 60) = .string ⟨(l ++ Crc.low (Crc.sum l)).toArray⟩ := hk 60 (by decide)
        have e64 : ev (.tmp 64) = .string ⟨(l ++ Crc.low (Crc.sum l)).toArray⟩ := hk 64 (by decide)
        clear hk
        refine ⟨fun _ _ _ => ?_, fun _ hx hne => absurd hx hne⟩
        clear hd
        exact Yield.op (v := .bool true) (w' := wy) (by simp [execOp, go_sem, e60, e64]) ⟨LT.refl _ _, rfl⟩
      · intro ev wy hp hl hk hd
        have e56 : ev (.tmp 56) = .bool true := hk 56 (by decide)
        have e65 : ev (.tmp 65) = .bool true := hk 65 (by decide)
        clear hk
        clear hd
        exact Yield.pick (t := true) rfl e56 ⟨LT.refl _ _, e65⟩
      · intro ev wy hp hl hk hd
        have e66 : ev (.tmp 66) = .bool true := hk 66 (by decide)
        clear hk
        clear hd
        exact Yield.as rfl ⟨LT.refl _ _, e66⟩
    · intro vals wz hz hv
      have g33 : vals 0 = .bool true := hv 0 (by decide)
      have g34 : vals 1 = .bool true := hv 1 (by decide)
      have g35 : vals 2 = .pointer (some ⟨W.heap.size, 0, none⟩) := hv 2 (by decide)
      have g36 : vals 3 = .slice a n c := hv 3 (by decide)
      have g37 : (fun (v : Value) (w : World) => RT [W.heap.size, w1.heap.size] w v [l]) (vals 4) wz := hv 4 (by decide)
      have g38 : vals 5 = .int .u32 (Crc.sum l : Nat) := hv 5 (by decide)
      have g39 : vals 6 = .pointer (some ⟨w1.heap.size, 0, none⟩) := hv 6 (by decide)
      have g40 : vals 7 = .slice a n c := hv 7 (by decide)
      have g41 : (fun (v : Value) (w : World) => RT [W.heap.size, w1.heap.size] w v [l]) (vals 8) wz := hv 8 (by decide)
      have g42 : vals 9 = .int .u32 (Crc.sum l : Nat) := hv 9 (by decide)
      have g43 : vals 10 = .bool true := hv 10 (by decide)
      have g44 : vals 11 = .bool true := hv 11 (by decide)
      have g45 : vals 12 = .bool true := hv 12 (by decide)
      have g46 : vals 13 = .pointer (some ⟨W.heap.size, 0, none⟩) := hv 13 (by decide)
      have g47 : vals 14 = .int .u32 (m : Int) := hv 14 (by decide)
      have g48 : vals 15 = .slice a n c := hv 15 (by decide)
      have g49 : vals 16 = .int .u32 (Crc.more m l : Nat) := hv 16 (by decide)
      have g50 : vals 17 = .pointer (some ⟨w1.heap.size, 0, none⟩) := hv 17 (by decide)
      have g51 : vals 18 = .int .u32 (m : Int) := hv 18 (by decide)
      have g52 : vals 19 = .slice a n c := hv 19 (by decide)
      have g53 : vals 20 = .int .u32 (Crc.more m l : Nat) := hv 20 (by decide)
      have g54 : vals 21 = .bool true := hv 21 (by decide)
      have g55 : vals 22 = .bool true := hv 22 (by decide)
      have g56 : vals 23 = .bool true := hv 23 (by decide)
      have g57 : vals 24 = .pointer (some ⟨W.heap.size, 0, none⟩) := hv 24 (by decide)
      have g58 : vals 25 = .slice a n c := hv 25 (by decide)
      have g59 : (fun (v : Value) (w : World) => BT [W.heap.size, w1.heap.size] w v (l ++ Crc.low (Crc.sum l))) (vals 26) wz := hv 26 (by decide)
      have g60 : vals 27 = .string ⟨(l ++ Crc.low (Crc.sum l)).toArray⟩ := hv 27 (by decide)
      have g61 : vals 28 = .pointer (some ⟨w1.heap.size, 0, none⟩) := hv 28 (by decide)
      have g62 : vals 29 = .slice a n c := hv 29 (by decide)
      have g63 : (fun (v : Value) (w : World) => BT [W.heap.size, w1.heap.size] w v (l ++ Crc.low (Crc.sum l))) (vals 30) wz := hv 30 (by decide)
      have g64 : vals 31 = .string ⟨(l ++ Crc.low (Crc.sum l)).toArray⟩ := hv 31 (by decide)
      have g65 : vals 32 = .bool true := hv 32 (by decide)
      have g66 : vals 33 = .bool true := hv 33 (by decide)
      have g4 : vals 34 = .bool true := hv 34 (by decide)
      clear hv
      simp only [putAll, Act.put, List.setIfInBounds_toArray, List.set_cons_zero, List.set_cons_succ, g33, g34, g35, g36, g38, g39, g40, g42, g43, g44, g45, g46, g47, g48, g49, g50, g51, g52, g53, g54, g55, g56, g57, g58, g60, g61, g62, g64, g65, g66, g4]
      clear g33
      clear g34
      clear g35
      clear g36
      generalize vals 4 = v37 at *
      clear g38
      clear g39
      clear g40
      generalize vals 8 = v41 at *
      clear g42
      clear g43
      clear g44
      clear g45
      clear g46
      clear g47
      clear g48
      clear g49
      clear g50
      clear g51
      clear g52
      clear g53
      clear g54
      clear g55
      clear g56
      clear g57
      clear g58
      generalize vals 26 = v59 at *
      clear g60
      clear g61
      clear g62
      generalize vals 30 = v63 at *
      clear g64
      clear g65
      clear g66
      clear g4
      go_wp2_with fail
      go_ret
      exact ⟨rfl, (hl03.trans hz).below (Nat.le_refl _) (by intro p hp; simp only [List.mem_cons, List.not_mem_nil, or_false] at hp; omega)⟩

namespace crcTwo
theorem own : ownKnob Try.prog.godebug = none := by kernel_rfl
theorem laidOut : laidOutB Try.prog = true := by kernel_rfl
set_option linter.unusedVariables false in
set_option maxRecDepth 100000 in
theorem lifted (os : Os) (started : os.Started) (H : Type) (enc : TypeId × Value → H) :
    ReturnsInHanded {} Try.checked os 9 .any (Rows.crcTwoSpec.pre6 enc Try.prog Try.f9 Rows.crcTwoRow.domain false) (Rows.crcTwoSpec.post enc Try.prog Try.f9 false true false false) := by
  refine returnsInHanded_of_change (C := Try.checked) own started (by kernel_rfl) Try.func9
    (ChangeSpec.witness6 (enc := enc) (C := Try.checked) false ⟨#[], #[.slice none 0 0, .int .u32 0], []⟩ 8 (by kernel_rfl) (by kernel_rfl) (by kernel_rfl) (by kernel_rfl)) ?_
  intro W base args ds gs before hval0 hW hcnd _
  have hval : ∀ (j : Nat) t v, Try.f9.params[j]? = some t → args[j]? = some v → Value.okWide Try.prog W .any base t v := hval0
  have hW' := hW
  obtain ⟨p, q, hA0, hV, rfl, hfz, hnd⟩ := hW
  have hA : DataW.TrodAll enc Try.prog W 0 (fun _ => true) true Try.f9.params.toList args.toList ds p := hA0
  rw [Try.params9] at hA hval
  obtain ⟨v0, vs0, d0, ds0, p0, q0, hargs, rfl, rfl, h0, r0⟩ := trodAll_cons hA
  obtain ⟨v1, vs1, d1, ds1, p1, q1, rfl, rfl, rfl, h1, r1⟩ := trodAll_cons r0
  obtain ⟨rfl, rfl, rfl⟩ := trodAll_nil r1
  obtain rfl : args = #[v0, v1] := by cases args; simp_all
  obtain ⟨rfl, rfl⟩ := trodVars_none hV
  have k0 := h0
  have lt0 : ∀ x ∈ p0, x.block < W.heap.size := by obtain ⟨m, hm⟩ := k0; exact DataW.trod_lt m _ _ _ hm
  obtain ⟨a0, len0, cap0, rfl⟩ := okWide_slice Try.underlying22 (hval 0 22 v0 rfl rfl)
  obtain ⟨l0, w0⟩ : ∃ l, Bytes W (.slice a0 len0 cap0) l := by
    obtain ⟨fuel, hf⟩ := h0
    obtain ⟨v, l, hcs, hb⟩ := bytes_of_raw Try.underlying22 Try.underlying5 (by kernel_rfl) hf
    simp [Value.cells] at hcs
    subst hcs
    exact ⟨l, hb⟩
  have k1 := h1
  have lt1 : ∀ x ∈ p1, x.block < W.heap.size := by obtain ⟨m, hm⟩ := k1; exact DataW.trod_lt m _ _ _ hm
  obtain ⟨a1, rfl, _, _, w1⟩ := open_int Try.underlying23 (hval 1 23 v1 rfl rfl) h1
  clear hA0 hval0
  refine (crcTwo_walk a0 len0 cap0 l0 a1 W w0 w1).mono fun e W' ⟨he, bel⟩ => ?_
  subst he
  exact ⟨_, rfl, _, _, _, [], _, [], hW', trodAll_mk1 (shut_bool Try.underlying4 _), (trodAll_cons_mk (Below.trod laidOut (by kernel_rfl) (of_decide_eq_true (by kernel_rfl)) k0 bel lt0) (trodAll_cons_mk (Below.trod laidOut (by kernel_rfl) (of_decide_eq_true (by kernel_rfl)) k1 bel lt1) trodAll_mk0)), rfl, bel.frame _, fun h => by cases h⟩
theorem over : Rows.crcTwoRow.holds Try.pinned (OpenSpec.ofChange Rows.crcTwoSpec) :=
  OpenClaim.holds_of_wide 9 Try.f9 rfl rfl rfl rfl rfl rfl rfl ⟨rfl, rfl, rfl, rfl, rfl⟩ rfl rfl rfl rfl rfl (by kernel_rfl) Try.func9 (by kernel_rfl)
    (of_decide_eq_true (by kernel_rfl)) (by unfold Func.isWrapper; first | (rw [if_pos (by decide +kernel)]; kernel_rfl) | (rw [if_neg (by decide +kernel)]; exact ⟨rfl, rfl⟩))
    (fun os started H enc _ => lifted os started H enc)
theorem proved : Rows.CrcTwoSaid := over
end crcTwo
end Go.Proofs.Ytkgpcgcglbaehaa
