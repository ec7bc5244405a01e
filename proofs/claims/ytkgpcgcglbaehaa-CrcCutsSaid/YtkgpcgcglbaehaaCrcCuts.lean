/-
  CrcCuts: bytes with their sum behind, and what is cut off, are what the document says: for every input the statement's function returns true, and leaves what came in as it was.
-/
import Derived.Test.YtkgpcgcglbaehaaCrcT
namespace Go.Proofs.Ytkgpcgcglbaehaa
open Go.ChangeShapes Go.WideShapes Go.ChangeAt Go.RowKit

set_option maxRecDepth 100000 in
set_option maxHeartbeats 4000000 in
theorem crcCuts_walk (a : Option Addr) (n c : Nat) (l : List UInt8) (W : World) (h0 : Bytes W (.slice a n c) l) :
    Calls Try.prog 4 #[.slice a n c] W fun e W' => e = .returned (.bool true) ∧ Below W.heap.size W W' := by
  obtain ⟨hn, hnc, hc⟩ := h0.len
  by_cases hbad : 20000 < n
  · clear hn
    go_enter Try.func4, Try.ntmps4
    go_wp2_with fail
    refine (newT _).mono ?_
    rintro e w1 ⟨rfl, hb1, ht1⟩
    go_wp2_with fail
    refine (alive_any _).mono ?_
    rintro e w3 ⟨rfl, hb3⟩
    go_wp2_with fail
    go_ret
    exact ⟨rfl, (hb1.trans hb3).below⟩
  · have hll : l.length ≤ 20000 := by omega
    clear hn
    go_enter Try.func4, Try.ntmps4
    go_wp2_with fail
    refine (newT _).mono ?_
    rintro e w1 ⟨rfl, hb1, ht1⟩
    have hmem : W.heap.size ∈ [W.heap.size] := by simp
    have hA1 : BT [W.heap.size] w1 (.slice a n c) l := ⟨h0.below hb1, TBs.one ht1⟩
    have hL1 : LT [W.heap.size] W w1 := LT.ext hb1
    go_wp2_with fail
    refine (cutT hmem hA1 (by omega)).mono ?_
    rintro e w2 ⟨hl2, vb, rfl, hvb⟩
    have hA2 := hA1.later hl2
    have hL2 := hL1.trans hl2
    clear hl2 hA1 hL1
    go_wp2_with fail
    refine (cutRT hA2 (by omega)).mono ?_
    rintro e w3 ⟨hl3, vc, rfl, hvc⟩
    have hA3 := hA2.later hl3
    have hvb3 := hvb.later hl3
    have hL3 := hL2.trans hl3
    clear hl3 hA2 hL2 hvb
    go_wp2_with fail
    refine (putT hmem hA3 (by omega)).mono ?_
    rintro e w4 ⟨vp, rfl, hl4, hvp⟩
    have hA4 := hA3.later hl4
    have hvb4 := hvb3.later hl4
    have hvc4 := hvc.later hl4
    have hL4 := hL3.trans hl4
    clear hl4 hA3 hL3 hvb3 hvc
    go_wp2_with fail
    refine (cutT hmem hvp (by rw [List.length_append, Crc.low_length]; omega)).mono ?_
    rw [Crc.cut_put]
    rintro e w5 ⟨hl5, vd, rfl, hvd⟩
    simp only [Option.getD_some, Option.isSome_some] at hvd ⊢
    have hA5 := hA4.later hl5
    have hvb5 := hvb4.later hl5
    have hvc5 := hvc4.later hl5
    have hvp5 := hvp.later hl5
    have hL5 := hL4.trans hl5
    clear hl5 hA4 hL4 hvb4 hvc4 hvp
    obtain ⟨is, his⟩ : ∃ is, is = (Crc.cutOf l).isSome := ⟨_, rfl⟩
    obtain ⟨cu, hcu⟩ : ∃ cu, cu = (Crc.cutOf l).getD [] := ⟨_, rfl⟩
    rw [← his]
    rw [← hcu] at hvb5 hvc5
    clear his hcu
    go_wp2_with fail
    refine wp_region_facts (by kernel_rfl) (LT [W.heap.size]) (fun iop v w => match iop with
        | 0 => v = .bool true
        | 1 => v = .bool true
        | 2 => v = vb
        | 3 => v = .string ⟨cu.toArray⟩
        | 4 => v = vc
        | 5 => v = .string ⟨cu.toArray⟩
        | 6 => v = .bool true
        | 7 => v = .bool true
        | 8 => v = .bool true
        | 9 => v = .bool is
        | 10 => v = .bool is
        | 11 => v = .bool true
        | 12 => v = .bool true
        | 13 => v = .bool true
        | 14 => v = vp
        | 15 => v = .string ⟨(l ++ Crc.low (Crc.sum l)).toArray⟩
        | 16 => v = .slice a n c
        | 17 => BT [W.heap.size] w v (l ++ Crc.low (Crc.sum l))
        | 18 => v = .string ⟨(l ++ Crc.low (Crc.sum l)).toArray⟩
        | 19 => v = .bool true
        | 20 => v = .bool true
        | 21 => v = .bool true
        | 22 => v = .bool true
        | 23 => v = .bool true
        | 24 => v = .bool true
        | 25 => v = vd
        | 26 => v = .string ⟨l.toArray⟩
        | 27 => v = .slice a n c
        | 28 => v = .string ⟨l.toArray⟩
        | 29 => v = .bool true
        | 30 => v = .bool true
        | _ => v = .bool true
        ) (by kernel_rfl) (fun _ _ _ h k => LT.trans h k) (fun a => LT.refl _ a) (LT.drew _ _) ?_ ?_ ?_
    · intro iop v wa wb hF hL
      cases iop with
      | zero => exact hF
      | succ iop =>
        cases iop with
        | zero => exact hF
        | succ iop =>
          cases iop with
          | zero => exact hF
          | succ iop =>
            cases iop with
            | zero => exact hF
            | succ iop =>
              cases iop with
              | zero => exact hF
              | succ iop =>
                cases iop with
                | zero => exact hF
                | succ iop =>
                  cases iop with
                  | zero => exact hF
                  | succ iop =>
                    cases iop with
                    | zero => exact hF
                    | succ iop =>
                      cases iop with
                      | zero => exact hF
                      | succ iop =>
                        cases iop with
                        | zero => exact hF
                        | succ iop =>
                          cases iop with
                          | zero => exact hF
                          | succ iop =>
                            cases iop with
                            | zero => exact hF
                            | succ iop =>
                              cases iop with
                              | zero => exact hF
                              | succ iop =>
                                cases iop with
                                | zero => exact hF
                                | succ iop =>
                                  cases iop with
                                  | zero => exact hF
                                  | succ iop =>
                                    cases iop with
                                    | zero => exact hF
                                    | succ iop =>
                                      cases iop with
                                      | zero => exact hF
                                      | succ iop =>
                                        cases iop with
                                        | zero => (first | exact BT.later hF hL | exact RT.later hF hL)
                                        | succ iop =>
                                          cases iop with
                                          | zero => exact hF
                                          | succ iop =>
                                            cases iop with
                                            | zero => exact hF
                                            | succ iop =>
                                              cases iop with
                                              | zero => exact hF
                                              | succ iop =>
                                                cases iop with
                                                | zero => exact hF
                                                | succ iop =>
                                                  cases iop with
                                                  | zero => exact hF
                                                  | succ iop =>
                                                    cases iop with
                                                    | zero => exact hF
                                                    | succ iop =>
                                                      cases iop with
                                                      | zero => exact hF
                                                      | succ iop =>
                                                        cases iop with
                                                        | zero => exact hF
                                                        | succ iop =>
                                                          cases iop with
                                                          | zero => exact hF
                                                          | succ iop =>
                                                            cases iop with
                                                            | zero => exact hF
                                                            | succ iop =>
                                                              cases iop with
                                                              | zero => exact hF
                                                              | succ iop =>
                                                                cases iop with
                                                                | zero => exact hF
                                                                | succ iop =>
                                                                  cases iop with
                                                                  | zero => exact hF
                                                                  | succ iop =>
                                                                    exact hF
    · refine Obls.cons ?_ (Obls.cons ?_ (Obls.cons ?_ (Obls.cons ?_ (Obls.cons ?_ (Obls.cons ?_ (Obls.cons ?_ (Obls.cons ?_ (Obls.cons ?_ (Obls.cons ?_ (Obls.cons ?_ (Obls.cons ?_ (Obls.cons ?_ (Obls.cons ?_ (Obls.cons ?_ (Obls.cons ?_ (Obls.cons ?_ (Obls.cons ?_ (Obls.cons ?_ (Obls.cons ?_ (Obls.cons ?_ (Obls.cons ?_ (Obls.cons ?_ (Obls.cons ?_ (Obls.cons ?_ (Obls.cons ?_ (Obls.cons ?_ (Obls.cons ?_ (Obls.cons ?_ (Obls.cons ?_ (Obls.cons ?_ (Obls.cons ?_ (Obls.nil))))))))))))))))))))))))))))))))
      · intro ev wy hp hl hk hd
        clear hk
        clear hd
        refine Yield.call rfl hp Try.func11 rfl (by kernel_rfl) ?_
        simp only [List.map_toArray, List.map_nil]
        exact (aliveT _ _).mono fun _ _ ⟨he, hb⟩ => ⟨_, he, hb, by first | rfl | simp⟩
      · intro ev wy hp hl hk hd
        have e44 : ev (.tmp 44) = .bool true := hk 44 (by decide)
        clear hk
        clear hd
        exact Yield.mv rfl ⟨LT.refl _ _, e44⟩
      · intro ev wy hp hl hk hd
        have e4 : ev (.tmp 4) = vb := hk 4 (by decide)
        clear hk
        refine ⟨fun _ _ _ => ?_, fun _ hx hne => absurd hx hne⟩
        clear hd
        exact Yield.mv rfl ⟨LT.refl _ _, e4⟩
      · intro ev wy hp hl hk hd
        have e46 : ev (.tmp 46) = vb := hk 46 (by decide)
        clear hk
        refine ⟨fun _ _ _ => ?_, fun _ hx hne => absurd hx hne⟩
        clear hd
        exact Yield.conv rfl e46 (run_str _ _ 5 Try.underlying22 Try.underlying5 Try.underlying9 ((hvb5.later hl).1)) ⟨LT.refl _ _, rfl⟩
      · intro ev wy hp hl hk hd
        have e6 : ev (.tmp 6) = vc := hk 6 (by decide)
        clear hk
        refine ⟨fun _ _ _ => ?_, fun _ hx hne => absurd hx hne⟩
        clear hd
        exact Yield.mv rfl ⟨LT.refl _ _, e6⟩
      · intro ev wy hp hl hk hd
        have e48 : ev (.tmp 48) = vc := hk 48 (by decide)
        clear hk
        refine ⟨fun _ _ _ => ?_, fun _ hx hne => absurd hx hne⟩
        clear hd
        exact Yield.conv rfl e48 (run_str _ _ 5 Try.underlying22 Try.underlying5 Try.underlying9 ((hvc5.later hl).1)) ⟨LT.refl _ _, rfl⟩
      · intro ev wy hp hl hk hd
        have e47 : ev (.tmp 47) = .string ⟨cu.toArray⟩ := hk 47 (by decide)
        have e49 : ev (.tmp 49) = .string ⟨cu.toArray⟩ := hk 49 (by decide)
        clear hk
        refine ⟨fun _ _ _ => ?_, fun _ hx hne => absurd hx hne⟩
        clear hd
        exact Yield.op (v := .bool true) (w' := wy) (by simp [execOp, go_sem, e47, e49]) ⟨LT.refl _ _, rfl⟩
      · intro ev wy hp hl hk hd
        have e45 : ev (.tmp 45) = .bool true := hk 45 (by decide)
        have e50 : ev (.tmp 50) = .bool true := hk 50 (by decide)
        clear hk
        clear hd
        exact Yield.pick (t := true) rfl e45 ⟨LT.refl _ _, e50⟩
      · intro ev wy hp hl hk hd
        have e51 : ev (.tmp 51) = .bool true := hk 51 (by decide)
        clear hk
        clear hd
        exact Yield.mv rfl ⟨LT.refl _ _, e51⟩
      · intro ev wy hp hl hk hd
        have e5 : ev (.tmp 5) = .bool is := hk 5 (by decide)
        clear hk
        refine ⟨fun _ _ _ => ?_, fun _ hx hne => absurd hx hne⟩
        clear hd
        exact Yield.mv rfl ⟨LT.refl _ _, e5⟩
      · intro ev wy hp hl hk hd
        have e7 : ev (.tmp 7) = .bool is := hk 7 (by decide)
        clear hk
        refine ⟨fun _ _ _ => ?_, fun _ hx hne => absurd hx hne⟩
        clear hd
        exact Yield.mv rfl ⟨LT.refl _ _, e7⟩
      · intro ev wy hp hl hk hd
        have e53 : ev (.tmp 53) = .bool is := hk 53 (by decide)
        have e54 : ev (.tmp 54) = .bool is := hk 54 (by decide)
        clear hk
        refine ⟨fun _ _ _ => ?_, fun _ hx hne => absurd hx hne⟩
        clear hd
        exact Yield.op (v := .bool true) (w' := wy) (by simp [execOp, go_sem, e53, e54]) ⟨LT.refl _ _, rfl⟩
      · intro ev wy hp hl hk hd
        have e52 : ev (.tmp 52) = .bool true := hk 52 (by decide)
        have e55 : ev (.tmp 55) = .bool true := hk 55 (by decide)
        clear hk
        clear hd
        exact Yield.pick (t := true) rfl e52 ⟨LT.refl _ _, e55⟩
      · intro ev wy hp hl hk hd
        have e56 : ev (.tmp 56) = .bool true := hk 56 (by decide)
        clear hk
        clear hd
        exact Yield.mv rfl ⟨LT.refl _ _, e56⟩
      · intro ev wy hp hl hk hd
        have e8 : ev (.tmp 8) = vp := hk 8 (by decide)
        clear hk
        refine ⟨fun _ _ _ => ?_, fun _ hx hne => absurd hx hne⟩
        clear hd
        exact Yield.mv rfl ⟨LT.refl _ _, e8⟩
      · intro ev wy hp hl hk hd
        have e58 : ev (.tmp 58) = vp := hk 58 (by decide)
        clear hk
        refine ⟨fun _ _ _ => ?_, fun _ hx hne => absurd hx hne⟩
        clear hd
        exact Yield.conv rfl e58 (run_str _ _ 5 Try.underlying22 Try.underlying5 Try.underlying9 ((hvp5.later hl).1)) ⟨LT.refl _ _, rfl⟩
      · intro ev wy hp hl hk hd
        have e0 : ev (.tmp 0) = .slice a n c := hk 0 (by decide)
        clear hk
        refine ⟨fun _ _ _ => ?_, fun _ hx hne => absurd hx hne⟩
        clear hd
        exact Yield.mv rfl ⟨LT.refl _ _, e0⟩
      · intro ev wy hp hl hk hd
        have e60 : ev (.tmp 60) = .slice a n c := hk 60 (by decide)
        clear hk
        refine ⟨fun _ _ _ => ?_, fun _ hx hne => absurd hx hne⟩
        clear hd
        refine Yield.call rfl hp Try.func19 rfl (by kernel_rfl) ?_
        simp only [List.map_toArray, List.map_cons, List.map_nil, e60]
        exact (putRT (hA5.later hl) (by omega)).mono fun _ _ ⟨u, he, hb, hu⟩ => ⟨u, he, hb, hu⟩
      · intro ev wy hp hl hk hd
        have f61 : (fun (v : Value) (w : World) => BT [W.heap.size] w v (l ++ Crc.low (Crc.sum l))) (ev (.tmp 61)) wy := hk 61 (by decide)
        generalize hx61 : ev (.tmp 61) = x61 at *
        clear hk
        refine ⟨fun _ _ _ => ?_, fun _ hx hne => absurd hx hne⟩
        clear hd
        exact Yield.conv rfl hx61 (run_str _ _ 5 Try.underlying22 Try.underlying5 Try.underlying9 (f61.1)) ⟨LT.refl _ _, rfl⟩
      · intro ev wy hp hl hk hd
        have e59 : ev (.tmp 59) = .string ⟨(l ++ Crc.low (Crc.sum l)).toArray⟩ := hk 59 (by decide)
        have e62 : ev (.tmp 62) = .string ⟨(l ++ Crc.low (Crc.sum l)).toArray⟩ := hk 62 (by decide)
        clear hk
        refine ⟨fun _ _ _ => ?_, fun _ hx hne => absurd hx hne⟩
        clear hd
        exact Yield.op (v := .bool true) (w' := wy) (by simp [execOp, go_sem, e59, e62]) ⟨LT.refl _ _, rfl⟩
      · intro ev wy hp hl hk hd
        have e57 : ev (.tmp 57) = .bool true := hk 57 (by decide)
        have e63 : ev (.tmp 63) = .bool true := hk 63 (by decide)
        clear hk
        clear hd
        exact Yield.pick (t := true) rfl e57 ⟨LT.refl _ _, e63⟩
      · intro ev wy hp hl hk hd
        have e64 : ev (.tmp 64) = .bool true := hk 64 (by decide)
        clear hk
        clear hd
        exact Yield.mv rfl ⟨LT.refl _ _, e64⟩
      · intro ev wy hp hl hk hd
        have e10 : ev (.tmp 10) = .bool true := hk 10 (by decide)
        clear hk
        refine ⟨fun _ _ _ => ?_, fun _ hx hne => absurd hx hne⟩
        clear hd
        exact Yield.mv rfl ⟨LT.refl _ _, e10⟩
      · intro ev wy hp hl hk hd
        have e65 : ev (.tmp 65) = .bool true := hk 65 (by decide)
        have e66 : ev (.tmp 66) = .bool true := hk 66 (by decide)
        clear hk
        clear hd
        exact Yield.pick (t := true) rfl e65 ⟨LT.refl _ _, e66⟩
      · intro ev wy hp hl hk hd
        have e67 : ev (.tmp 67) = .bool true := hk 67 (by decide)
        clear hk
        clear hd
        exact Yield.mv rfl ⟨LT.refl _ _, e67⟩
      · intro ev wy hp hl hk hd
        have e9 : ev (.tmp 9) = vd := hk 9 (by decide)
        clear hk
        refine ⟨fun _ _ _ => ?_, fun _ hx hne => absurd hx hne⟩
        clear hd
        exact Yield.mv rfl ⟨LT.refl _ _, e9⟩
      · intro ev wy hp hl hk hd
        have e69 : ev (.tmp 69) = vd := hk 69 (by decide)
        clear hk
        refine ⟨fun _ _ _ => ?_, fun _ hx hne => absurd hx hne⟩
        clear hd
        exact Yield.conv rfl e69 (run_str _ _ 5 Try.underlying22 Try.underlying5 Try.underlying9 ((hvd.later hl).1)) ⟨LT.refl _ _, rfl⟩
      · intro ev wy hp hl hk hd
        have e0 : ev (.tmp 0) = .slice a n c := hk 0 (by decide)
        clear hk
        refine ⟨fun _ _ _ => ?_, fun _ hx hne => absurd hx hne⟩
        clear hd
        exact Yield.mv rfl ⟨LT.refl _ _, e0⟩
      · intro ev wy hp hl hk hd
        have e71 : ev (.tmp 71) = .slice a n c := hk 71 (by decide)
        clear hk
        refine ⟨fun _ _ _ => ?_, fun _ hx hne => absurd hx hne⟩
        clear hd
        exact Yield.conv rfl e71 (run_str _ _ 5 Try.underlying22 Try.underlying5 Try.underlying9 ((hA5.later hl).1)) ⟨LT.refl _ _, rfl⟩
      · intro ev wy hp hl hk hd
        have e70 : ev (.tmp 70) = .string ⟨l.toArray⟩ := hk 70 (by decide)
        have e72 : ev (.tmp 72) = .string ⟨l.toArray⟩ := hk 72 (by decide)
        clear hk
        refine ⟨fun _ _ _ => ?_, fun _ hx hne => absurd hx hne⟩
        clear hd
        exact Yield.op (v := .bool true) (w' := wy) (by simp [execOp, go_sem, e70, e72]) ⟨LT.refl _ _, rfl⟩
      · intro ev wy hp hl hk hd
        have e68 : ev (.tmp 68) = .bool true := hk 68 (by decide)
        have e73 : ev (.tmp 73) = .bool true := hk 73 (by decide)
        clear hk
        clear hd
        exact Yield.pick (t := true) rfl e68 ⟨LT.refl _ _, e73⟩
      · intro ev wy hp hl hk hd
        have e74 : ev (.tmp 74) = .bool true := hk 74 (by decide)
        clear hk
        clear hd
        exact Yield.as rfl ⟨LT.refl _ _, e74⟩
    · intro vals wz hz hv
      have g44 : vals 0 = .bool true := hv 0 (by decide)
      have g45 : vals 1 = .bool true := hv 1 (by decide)
      have g46 : vals 2 = vb := hv 2 (by decide)
      have g47 : vals 3 = .string ⟨cu.toArray⟩ := hv 3 (by decide)
      have g48 : vals 4 = vc := hv 4 (by decide)
      have g49 : vals 5 = .string ⟨cu.toArray⟩ := hv 5 (by decide)
      have g50 : vals 6 = .bool true := hv 6 (by decide)
      have g51 : vals 7 = .bool true := hv 7 (by decide)
      have g52 : vals 8 = .bool true := hv 8 (by decide)
      have g53 : vals 9 = .bool is := hv 9 (by decide)
      have g54 : vals 10 = .bool is := hv 10 (by decide)
      have g55 : vals 11 = .bool true := hv 11 (by decide)
      have g56 : vals 12 = .bool true := hv 12 (by decide)
      have g57 : vals 13 = .bool true := hv 13 (by decide)
      have g58 : vals 14 = vp := hv 14 (by decide)
      have g59 : vals 15 = .string ⟨(l ++ Crc.low (Crc.sum l)).toArray⟩ := hv 15 (by decide)
      have g60 : vals 16 = .slice a n c := hv 16 (by decide)
      have g61 : (fun (v : Value) (w : World) => BT [W.heap.size] w v (l ++ Crc.low (Crc.sum l))) (vals 17) wz := hv 17 (by decide)
      have g62 : vals 18 = .string ⟨(l ++ Crc.low (Crc.sum l)).toArray⟩ := hv 18 (by decide)
      have g63 : vals 19 = .bool true := hv 19 (by decide)
      have g64 : vals 20 = .bool true := hv 20 (by decide)
      have g65 : vals 21 = .bool true := hv 21 (by decide)
      have g66 : vals 22 = .bool true := hv 22 (by decide)
      have g67 : vals 23 = .bool true := hv 23 (by decide)
      have g68 : vals 24 = .bool true := hv 24 (by decide)
      have g69 : vals 25 = vd := hv 25 (by decide)
      have g70 : vals 26 = .string ⟨l.toArray⟩ := hv 26 (by decide)
      have g71 : vals 27 = .slice a n c := hv 27 (by decide)
      have g72 : vals 28 = .string ⟨l.toArray⟩ := hv 28 (by decide)
      have g73 : vals 29 = .bool true := hv 29 (by decide)
      have g74 : vals 30 = .bool true := hv 30 (by decide)
      have g2 : vals 31 = .bool true := hv 31 (by decide)
      clear hv
      simp only [putAll, Act.put, List.setIfInBounds_toArray, List.set_cons_zero, List.set_cons_succ, g44, g45, g46, g47, g48, g49, g50, g51, g52, g53, g54, g55, g56, g57, g58, g59, g60, g62, g63, g64, g65, g66, g67, g68, g69, g70, g71, g72, g73, g74, g2]
      clear g44
      clear g45
      clear g46
      clear g47
      clear g48
      clear g49
      clear g50
      clear g51
      clear g52
      clear g53
      clear g54
      clear g55
      clear g56
      clear g57
      clear g58
      clear g59
      clear g60
      generalize vals 17 = v61 at *
      clear g62
      clear g63
      clear g64
      clear g65
      clear g66
      clear g67
      clear g68
      clear g69
      clear g70
      clear g71
      clear g72
      clear g73
      clear g74
      clear g2
      go_wp2_with fail
      go_ret
      exact ⟨rfl, (hL5.trans hz).below (Nat.le_refl _) (by intro p hp; simp only [List.mem_cons, List.not_mem_nil, or_false] at hp; omega)⟩

namespace crcCuts
theorem own : ownKnob Try.prog.godebug = none := by kernel_rfl
theorem laidOut : laidOutB Try.prog = true := by kernel_rfl
set_option linter.unusedVariables false in
set_option maxRecDepth 100000 in
theorem lifted (os : Os) (started : os.Started) (H : Type) (enc : TypeId × Value → H) :
    ReturnsInHanded {} Try.checked os 4 .any (Rows.crcCutsSpec.pre6 enc Try.prog Try.f4 Rows.crcCutsRow.domain false) (Rows.crcCutsSpec.post enc Try.prog Try.f4 false true false false) := by
  refine returnsInHanded_of_change (C := Try.checked) own started (by kernel_rfl) Try.func4
    (ChangeSpec.witness6 (enc := enc) (C := Try.checked) false ⟨#[], #[.slice none 0 0], []⟩ 8 (by kernel_rfl) (by kernel_rfl) (by kernel_rfl) (by kernel_rfl)) ?_
  intro W base args ds gs before hval0 hW hcnd _
  have hval : ∀ (j : Nat) t v, Try.f4.params[j]? = some t → args[j]? = some v → Value.okWide Try.prog W .any base t v := hval0
  have hW' := hW
  obtain ⟨p, q, hA0, hV, rfl, hfz, hnd⟩ := hW
  have hA : DataW.TrodAll enc Try.prog W 0 (fun _ => true) true Try.f4.params.toList args.toList ds p := hA0
  rw [Try.params4] at hA hval
  obtain ⟨v0, vs0, d0, ds0, p0, q0, hargs, rfl, rfl, h0, r0⟩ := trodAll_cons hA
  obtain ⟨rfl, rfl, rfl⟩ := trodAll_nil r0
  obtain rfl : args = #[v0] := by cases args; simp_all
  obtain ⟨rfl, rfl⟩ := trodVars_none hV
  have k0 := h0
  have lt0 : ∀ x ∈ p0, x.block < W.heap.size := by obtain ⟨m, hm⟩ := k0; exact DataW.trod_lt m _ _ _ hm
  obtain ⟨a0, len0, cap0, rfl⟩ := okWide_slice Try.underlying22 (hval 0 22 v0 rfl rfl)
  obtain ⟨l0, w0⟩ : ∃ l, Bytes W (.slice a0 len0 cap0) l := by
    obtain ⟨fuel, hf⟩ := h0
    obtain ⟨v, l, hcs, hb⟩ := bytes_of_raw Try.underlying22 Try.underlying5 (by kernel_rfl) hf
    simp [Value.cells] at hcs
    subst hcs
    exact ⟨l, hb⟩
  clear hA0 hval0
  refine (crcCuts_walk a0 len0 cap0 l0 W w0).mono fun e W' ⟨he, bel⟩ => ?_
  subst he
  exact ⟨_, rfl, _, _, _, [], _, [], hW', trodAll_mk1 (shut_bool Try.underlying4 _), (trodAll_cons_mk (Below.trod laidOut (by kernel_rfl) (of_decide_eq_true (by kernel_rfl)) k0 bel lt0) trodAll_mk0), rfl, bel.frame _, fun h => by cases h⟩
theorem over : Rows.crcCutsRow.holds Try.pinned (OpenSpec.ofChange Rows.crcCutsSpec) :=
  OpenClaim.holds_of_wide 4 Try.f4 rfl rfl rfl rfl rfl rfl rfl ⟨rfl, rfl, rfl, rfl, rfl⟩ rfl rfl rfl rfl rfl (by kernel_rfl) Try.func4 (by kernel_rfl)
    (of_decide_eq_true (by kernel_rfl)) (by unfold Func.isWrapper; first | (rw [if_pos (by decide +kernel)]; kernel_rfl) | (rw [if_neg (by decide +kernel)]; exact ⟨rfl, rfl⟩))
    (fun os started H enc _ => lifted os started H enc)
theorem proved : Rows.CrcCutsSaid := over
end crcCuts
end Go.Proofs.Ytkgpcgcglbaehaa
