/-
  EntryBegins: each beginning of a chain is a chain; the last cut covers all cuts ahead of it: for every input the statement's function returns true, and leaves what came in as it was.
-/
import Derived.Test.YtboopfbflfimlaaEntZ
namespace Go.Proofs.Ytboopfbflfimlaa
set_option maxRecDepth 100000
set_option linter.unusedSimpArgs false
set_option linter.unusedVariables false
open Go.ChangeShapes Go.WideShapes Go.ChangeAt Go.RowKit

theorem coversE_any (v u : Value) (ns ms : List Int) (w : World) (hv : Ints w v ns) (hu : Ints w u ms) :
    Calls Try.prog 25 #[v, u] w fun e w' => e = .returned (.bool (Vec.covers ns ms)) ∧ Ext w w' :=
  (covers_any v u ns ms w hv hu).mono fun e w' h => ⟨h.1, by rw [← h.2]; exact Ext.refl _⟩
theorem totalE_any (v : Value) (ns : List Int) (w : World) (hv : Ints w v ns) :
    Calls Try.prog 26 #[v] w fun e w' => e = .returned (.int .i64 (Vec.total ns)) ∧ Ext w w' :=
  (total_any v ns w hv).mono fun e w' h => ⟨h.1, by rw [← h.2]; exact Ext.refl _⟩
theorem Ent.begins_covers {l : List Ent.E} {i : Nat} (hi : i < Ent.chain l) (z : List Int) (hk : (l[i]'(Nat.lt_of_lt_of_le hi (Ent.chain_le l))).kind = 1) :
    Vec.covers (Ent.lastOf l z) (l[i]'(Nat.lt_of_lt_of_le hi (Ent.chain_le l))).cut = true := by
  have hl := Nat.lt_of_lt_of_le hi (Ent.chain_le l)
  have hm : l[i] ∈ l.take (Ent.chain l) := by
    rw [List.mem_take_iff_getElem]
    exact ⟨i, by omega, rfl⟩
  obtain ⟨c, h1, h2⟩ := Ent.chain_covers _ _ rfl (Ent.isChain_take l) _ hm hk
  unfold Ent.lastOf
  rw [h1]
  exact h2

set_option maxHeartbeats 8000000 in
theorem entryBegins_walk (v : Value) (l : List Ent.E) (n : Int) (W : World) (hv : Ents W v l) (h64 : l.length * 64 ≤ 140737488355328) :
    Calls Try.prog 7 #[v, .int .i64 n] W fun e W' => e = .returned (.bool true) ∧ Below W.heap.size W W' := by
  have HV := Lib.hid hv
  obtain ⟨a, cap, rfl, hcap, hmax⟩ := hv.shape
  clear hv
  have hcl := Ent.chain_le l
  have htk := fun k => Ent.chain_take l k
  have hbc := fun i hi hk => Ent.begins_covers (l := l) (i := i) hi (zeros 1) hk
  by_cases g1 : (200 : Int) < (l.length : Int)
  · clear htk hbc hcl
    go_enter Try.func7, Try.ntmps7
    go_wp2_with fail
    refine (own5_any _ l _ HV.out h64).mono ?_
    rintro e w1 ⟨u1, rfl, ho1, hE1⟩
    have HO1 := Lib.hid (ho1.ents hE1)
    obtain ⟨a1, c1, rfl⟩ := ho1.isSlice
    clear ho1
    go_wp2_with fail
    refine (chain5_any _ l _ HO1.out).mono ?_
    rintro e w2 ⟨rfl, hE2⟩
    go_wp2_with fail
    refine (entAlive_any _).mono ?_
    rintro e w3 ⟨rfl, hE3⟩
    go_wp2_with fail
    go_ret
    exact ⟨rfl, (hE1.trans hE2).trans hE3⟩
  by_cases g2 : n < 0
  · clear htk hbc hcl
    go_enter Try.func7, Try.ntmps7
    go_wp2_with fail
    refine (own5_any _ l _ HV.out h64).mono ?_
    rintro e w1 ⟨u1, rfl, ho1, hE1⟩
    have HO1 := Lib.hid (ho1.ents hE1)
    obtain ⟨a1, c1, rfl⟩ := ho1.isSlice
    clear ho1
    go_wp2_with fail
    refine (chain5_any _ l _ HO1.out).mono ?_
    rintro e w2 ⟨rfl, hE2⟩
    go_wp2_with fail
    refine (entAlive_any _).mono ?_
    rintro e w3 ⟨rfl, hE3⟩
    go_wp2_with fail
    go_ret
    exact ⟨rfl, (hE1.trans hE2).trans hE3⟩
  by_cases g3 : (l.length : Int) < n
  · clear htk hbc hcl
    go_enter Try.func7, Try.ntmps7
    go_wp2_with fail
    refine (own5_any _ l _ HV.out h64).mono ?_
    rintro e w1 ⟨u1, rfl, ho1, hE1⟩
    have HO1 := Lib.hid (ho1.ents hE1)
    obtain ⟨a1, c1, rfl⟩ := ho1.isSlice
    clear ho1
    go_wp2_with fail
    refine (chain5_any _ l _ HO1.out).mono ?_
    rintro e w2 ⟨rfl, hE2⟩
    go_wp2_with fail
    refine (entAlive_any _).mono ?_
    rintro e w3 ⟨rfl, hE3⟩
    go_wp2_with fail
    go_ret
    exact ⟨rfl, (hE1.trans hE2).trans hE3⟩
  obtain ⟨k, rfl⟩ : ∃ k : Nat, n = (k : Int) := ⟨n.toNat, by omega⟩
  have htk := htk k
  obtain ⟨T, hT⟩ : ∃ T, Ent.lastOf l (zeros 1) = T := ⟨_, rfl⟩
  rw [hT] at hbc
  have hlast := fun v w h => last5_any v l 1 w h
  rw [hT] at hlast
  have HLAST := Lib.hid hlast
  have HTK := Lib.hid htk
  have hch := fun v w h => chain5_any v l w h
  obtain ⟨M, hM⟩ : ∃ M, Ent.chain l = M := ⟨_, rfl⟩
  have hbc2 : ∀ i (hi : i < l.length), i < M → l[i].kind = 1 → Vec.covers T l[i].cut = true := fun i hi h hk => hbc i (by omega) hk
  have HBC := Lib.hid hbc2
  rw [hM] at hch hcl
  rw [hM] at HTK
  have HCH := Lib.hid hch
  clear htk hbc hbc2 hT hM hlast hch
  by_cases hkm : (k : Int) ≤ (M : Int)
  · replace HTK := Lib.hid (show Ent.chain (l.take k) = k by rw [HTK.out]; omega)
    go_enter Try.func7, Try.ntmps7
    go_wp2_with fail
    refine (own5_any _ l _ HV.out h64).mono ?_
    rintro e w1 ⟨u1, rfl, ho1, hE1⟩
    have HO1 := Lib.hid (ho1.ents hE1)
    obtain ⟨a1, c1, e1, hc1, hc1m⟩ := HO1.out.shape
    subst e1
    clear ho1
    go_wp2_with fail
    refine (HCH.out _ _ HO1.out).mono ?_
    rintro e w2 ⟨rfl, hE2⟩
    have e2 := hE1.trans hE2
    have hsl : ∀ wy : World, (Instr.sliceAt 45 (.slice a1 l.length c1) none (some (.int .i64 (k : Int))) none).run Try.prog wy = .ok (.slice a1 k c1) wy := fun wy => runTo (size := 6) Try.underlying45 (by kernel_rfl) k (by omega) .i64
    have HO2 := Lib.hid (HO1.out.below hE2)
    go_wp2_with fail
    have hcall := chain5_any (.slice a1 k c1) (l.take k) w2 (HO2.out.take k (by omega))
    rw [HTK.out] at hcall
    refine hcall.mono ?_
    clear hcall
    rintro e w3 ⟨rfl, hE3⟩
    have e3 := e2.trans hE3
    have HO3 := Lib.hid (HO2.out.below hE3)
    go_wp2_with fail
    refine (HLAST.out _ _ HO3.out).mono ?_
    rintro e w4 ⟨u4, rfl, hi4, hE4⟩
    have e4 := e3.trans hE4
    obtain ⟨a4, n4, c4, rfl⟩ := Ints.isSlice hi4
    have HI4 := Lib.hid hi4
    have hsl2 : ∀ wy : World, (Instr.sliceAt 43 (.slice a l.length cap) none (some (.int .i64 (M : Int))) none).run Try.prog wy = .ok (.slice a M cap) wy := fun wy => runTo (size := 6) Try.underlying43 (by kernel_rfl) M (by omega) .i64
    clear hi4 hsl
    go_wp2_with fail
    clear hsl2
    go_loopw [9, 42] (fun _ i wr => ∃ j : Nat, j ≤ M ∧ i = .int .i64 j ∧ Ext w4 wr) (fun _ i _ => M - (intOf i).toNat)
    case atStart => exact ⟨0, by omega, rfl, Ext.refl _⟩
    case round =>
      obtain ⟨j, hj, rfl, hE⟩ := hrel
      by_cases hlt : j < M
      · have hjl : j < l.length := by omega
        obtain ⟨a', cap', e', _, _, _, hc⟩ := HV.out.below (e4.trans hE)
        obtain ⟨b, off, rfl, t, p0, p1, p2, p3, p4, p5, ht⟩ := hc j hjl
        injection e' with e1' e2' e3'
        subst e1'
        clear hc e2' e3'
        obtain ⟨a5, cap5, rfl, hcap5, hmax5, _, _⟩ := ht.open
        have hcov := HBC.out j hjl hlt
        have HT := Lib.hid ht
        generalize l[j] = R at *
        obtain ⟨x, kd, c, tg, m, p⟩ := R
        simp only at *
        have hEa : Ext wr (wr.alloc (.cells #[.int .i64 x, .int .i64 kd, .slice a5 c.length cap5, .int .i64 tg, .int .i64 m, .int .i64 p] 26)) := Ext.alloc _ _
        have HX := Lib.hid (EntAt.new 26 wr (.slice a5 c.length cap5) ⟨x, kd, c, tg, m, p⟩)
        have HTa := Lib.hid (HT.out.below hEa)
        have HIa := Lib.hid (HI4.out.below (hE.trans hEa))
        have ea := hE.trans hEa
        have HCOV := Lib.hid hcov
        clear ht hcov
        go_wp2_with fail
        generalize hwa : wr.alloc (.cells #[.int .i64 x, .int .i64 kd, .slice a5 c.length cap5, .int .i64 tg, .int .i64 m, .int .i64 p] 26) = wa at *
        generalize hq : wr.heap.size = q at *
        clear hwa hq p0 p1 p2 p3 p4 p5
        by_cases k1 : kd = 1
        · subst k1
          have hcv := HCOV.out rfl
          have htot := Ent.covers_total hcv
          obtain ⟨A, hA⟩ : ∃ A, Vec.total T = A := ⟨_, rfl⟩
          obtain ⟨B, hB⟩ : ∃ B, Vec.total c = B := ⟨_, rfl⟩
          rw [hA, hB] at htot
          have HCV := Lib.hid hcv
          have HA := Lib.hid hA
          have HB := Lib.hid hB
          clear hcv hA hB
          refine wp_region_facts (by kernel_rfl) Ext (fun iop v w => match iop with
              | 0 => v = .pointer (some ⟨q, 1, none⟩)
              | 1 => v = .int .i64 1
              | 2 => v = .bool true
              | 3 => v = .bool true
              | 4 => v = .slice a4 n4 c4
              | 5 => v = .pointer (some ⟨q, 2, none⟩)
              | 6 => v = .slice a5 c.length cap5
              | 7 => v = .bool true
              | 8 => v = .bool false
              | 9 => v = .bool false
              | 10 => v = .slice a4 n4 c4
              | 11 => v = .int .i64 A
              | 12 => v = .pointer (some ⟨q, 2, none⟩)
              | 13 => v = .slice a5 c.length cap5
              | 14 => v = .int .i64 B
              | 15 => v = .bool false
              | 16 => v = .bool false
              | _ => v = .bool false
              ) (by kernel_rfl) (fun _ _ _ h k => Ext.trans h k) (fun a => Ext.refl a) (Ext.drew _) ?_ ?_ ?_
          · intro iop v wa wb hF hL
            cases iop with
            | zero => exact hF
            | succ iop =>
              cases iop with
              | zero => exact hF
              | succ iop =>
                cases iop with
                | zero => exact hF
                | succ iop =>
                  cases iop with
                  | zero => exact hF
                  | succ iop =>
                    cases iop with
                    | zero => exact hF
                    | succ iop =>
                      cases iop with
                      | zero => exact hF
                      | succ iop =>
                        cases iop with
                        | zero => exact hF
                        | succ iop =>
                          cases iop with
                          | zero => exact hF
                          | succ iop =>
                            cases iop with
                            | zero => exact hF
                            | succ iop =>
                              cases iop with
                              | zero => exact hF
                              | succ iop =>
                                cases iop with
                                | zero => exact hF
                                | succ iop =>
                                  cases iop with
                                  | zero => exact hF
                                  | succ iop =>
                                    cases iop with
                                    | zero => exact hF
                                    | succ iop =>
                                      cases iop with
                                      | zero => exact hF
                                      | succ iop =>
                                        cases iop with
                                        | zero => exact hF
                                        | succ iop =>
                                          cases iop with
                                          | zero => exact hF
                                          | succ iop =>
                                            cases iop with
                                            | zero => exact hF
                                            | succ iop =>
                                              exact hF
          · refine Obls.cons ?_ (Obls.cons ?_ (Obls.cons ?_ (Obls.cons ?_ (Obls.cons ?_ (Obls.cons ?_ (Obls.cons ?_ (Obls.cons ?_ (Obls.cons ?_ (Obls.cons ?_ (Obls.cons ?_ (Obls.cons ?_ (Obls.cons ?_ (Obls.cons ?_ (Obls.cons ?_ (Obls.cons ?_ (Obls.cons ?_ (Obls.cons ?_ (Obls.nil))))))))))))))))))
            · intro ev wy hp hl hk hd
              have e9 : ev (.tmp 9) = .pointer (some ⟨q, 0, none⟩) := hk 9 (by decide)
              clear hk
              clear hd
              exact Yield.op (v := .pointer (some ⟨q, 1, none⟩)) (w' := wy) (by simp [execOp, go_sem, e9]) ⟨Ext.refl _, rfl⟩
            · intro ev wy hp hl hk hd
              have e46 : ev (.tmp 46) = .pointer (some ⟨q, 1, none⟩) := hk 46 (by decide)
              clear hk
              clear hd
              exact Yield.load rfl e46 (ldInt (HX.out.ext hl).cells.2.1) ⟨Ext.refl _, rfl⟩
            · intro ev wy hp hl hk hd
              have e47 : ev (.tmp 47) = .int .i64 1 := hk 47 (by decide)
              clear hk
              clear hd
              exact Yield.op (v := .bool true) (w' := wy) (by simp [execOp, go_sem, e47, hp.const]) ⟨Ext.refl _, rfl⟩
            · intro ev wy hp hl hk hd
              have e48 : ev (.tmp 48) = .bool true := hk 48 (by decide)
              clear hk
              clear hd
              exact Yield.mv rfl ⟨Ext.refl _, e48⟩
            · intro ev wy hp hl hk hd
              have e7 : ev (.tmp 7) = .slice a4 n4 c4 := hk 7 (by decide)
              clear hk
              refine ⟨fun _ _ _ => ?_, fun _ hx hne => absurd hx hne⟩
              clear hd
              exact Yield.mv rfl ⟨Ext.refl _, e7⟩
            · intro ev wy hp hl hk hd
              have e9 : ev (.tmp 9) = .pointer (some ⟨q, 0, none⟩) := hk 9 (by decide)
              clear hk
              refine ⟨fun _ _ _ => ?_, fun _ hx hne => absurd hx hne⟩
              clear hd
              exact Yield.op (v := .pointer (some ⟨q, 2, none⟩)) (w' := wy) (by simp [execOp, go_sem, e9]) ⟨Ext.refl _, rfl⟩
            · intro ev wy hp hl hk hd
              have e51 : ev (.tmp 51) = .pointer (some ⟨q, 2, none⟩) := hk 51 (by decide)
              clear hk
              refine ⟨fun _ _ _ => ?_, fun _ hx hne => absurd hx hne⟩
              clear hd
              exact Yield.load rfl e51 (ldInts (HX.out.ext hl).cells.2.2.1) ⟨Ext.refl _, rfl⟩
            · intro ev wy hp hl hk hd
              have e50 : ev (.tmp 50) = .slice a4 n4 c4 := hk 50 (by decide)
              have e52 : ev (.tmp 52) = .slice a5 c.length cap5 := hk 52 (by decide)
              clear hk
              refine ⟨fun _ _ _ => ?_, fun _ hx hne => absurd hx hne⟩
              clear hd
              refine Yield.call rfl hp Try.func25 rfl (by kernel_rfl) ?_
              simp only [List.map_toArray, List.map_cons, List.map_nil, e50, e52]
              exact ((HCV.out ▸ coversE_any _ _ T c wy (HIa.out.below hl) (HTa.out.below hl))).mono fun _ _ ⟨he, hb⟩ => ⟨_, he, hb, by first | rfl | simp⟩
            · intro ev wy hp hl hk hd
              have e53 : ev (.tmp 53) = .bool true := hk 53 (by decide)
              clear hk
              refine ⟨fun _ _ _ => ?_, fun _ hx hne => absurd hx hne⟩
              clear hd
              exact Yield.op (v := .bool false) (w' := wy) (by simp [execOp, go_sem, e53]) ⟨Ext.refl _, rfl⟩
            · intro ev wy hp hl hk hd
              have e54 : ev (.tmp 54) = .bool false := hk 54 (by decide)
              clear hk
              refine ⟨fun _ _ _ => ?_, fun _ hx hne => absurd hx hne⟩
              clear hd
              exact Yield.mv rfl ⟨Ext.refl _, e54⟩
            · intro ev wy hp hl hk hd
              have e7 : ev (.tmp 7) = .slice a4 n4 c4 := hk 7 (by decide)
              clear hk
              refine ⟨fun _ _ _ => ?_, fun _ hx hne => absurd hx hne⟩
              clear hd
              exact Yield.mv rfl ⟨Ext.refl _, e7⟩
            · intro ev wy hp hl hk hd
              have e56 : ev (.tmp 56) = .slice a4 n4 c4 := hk 56 (by decide)
              clear hk
              refine ⟨fun _ _ _ => ?_, fun _ hx hne => absurd hx hne⟩
              clear hd
              refine Yield.call rfl hp Try.func26 rfl (by kernel_rfl) ?_
              simp only [List.map_toArray, List.map_cons, List.map_nil, e56]
              exact ((HA.out ▸ totalE_any _ T wy (HIa.out.below hl))).mono fun _ _ ⟨he, hb⟩ => ⟨_, he, hb, by first | rfl | simp⟩
            · intro ev wy hp hl hk hd
              have e9 : ev (.tmp 9) = .pointer (some ⟨q, 0, none⟩) := hk 9 (by decide)
              clear hk
              refine ⟨fun _ _ _ => ?_, fun _ hx hne => absurd hx hne⟩
              clear hd
              exact Yield.op (v := .pointer (some ⟨q, 2, none⟩)) (w' := wy) (by simp [execOp, go_sem, e9]) ⟨Ext.refl _, rfl⟩
            · intro ev wy hp hl hk hd
              have e58 : ev (.tmp 58) = .pointer (some ⟨q, 2, none⟩) := hk 58 (by decide)
              clear hk
              refine ⟨fun _ _ _ => ?_, fun _ hx hne => absurd hx hne⟩
              clear hd
              exact Yield.load rfl e58 (ldInts (HX.out.ext hl).cells.2.2.1) ⟨Ext.refl _, rfl⟩
            · intro ev wy hp hl hk hd
              have e59 : ev (.tmp 59) = .slice a5 c.length cap5 := hk 59 (by decide)
              clear hk
              refine ⟨fun _ _ _ => ?_, fun _ hx hne => absurd hx hne⟩
              clear hd
              refine Yield.call rfl hp Try.func26 rfl (by kernel_rfl) ?_
              simp only [List.map_toArray, List.map_cons, List.map_nil, e59]
              exact ((HB.out ▸ totalE_any _ c wy (HTa.out.below hl))).mono fun _ _ ⟨he, hb⟩ => ⟨_, he, hb, by first | rfl | simp⟩
            · intro ev wy hp hl hk hd
              have e57 : ev (.tmp 57) = .int .i64 A := hk 57 (by decide)
              have e60 : ev (.tmp 60) = .int .i64 B := hk 60 (by decide)
              clear hk
              refine ⟨fun _ _ _ => ?_, fun _ hx hne => absurd hx hne⟩
              clear hd
              exact Yield.op (w' := wy) (by simp [execOp, go_sem, e57, e60]; omega) ⟨Ext.refl _, rfl⟩
            · intro ev wy hp hl hk hd
              have e55 : ev (.tmp 55) = .bool false := hk 55 (by decide)
              have e61 : ev (.tmp 61) = .bool false := hk 61 (by decide)
              clear hk
              refine ⟨fun _ _ _ => ?_, fun _ hx hne => absurd hx hne⟩
              clear hd
              exact Yield.pick (t := false) rfl e55 ⟨Ext.refl _, e61⟩
            · intro ev wy hp hl hk hd
              have e49 : ev (.tmp 49) = .bool true := hk 49 (by decide)
              have e62 : ev (.tmp 62) = .bool false := hk 62 (by decide)
              clear hk
              clear hd
              exact Yield.pick (t := true) rfl e49 ⟨Ext.refl _, e62⟩
          · intro vals wz hz hv
            have g46 : vals 0 = .pointer (some ⟨q, 1, none⟩) := hv 0 (by decide)
            have g47 : vals 1 = .int .i64 1 := hv 1 (by decide)
            have g48 : vals 2 = .bool true := hv 2 (by decide)
            have g49 : vals 3 = .bool true := hv 3 (by decide)
            have g50 : vals 4 = .slice a4 n4 c4 := hv 4 (by decide)
            have g51 : vals 5 = .pointer (some ⟨q, 2, none⟩) := hv 5 (by decide)
            have g52 : vals 6 = .slice a5 c.length cap5 := hv 6 (by decide)
            have g53 : vals 7 = .bool true := hv 7 (by decide)
            have g54 : vals 8 = .bool false := hv 8 (by decide)
            have g55 : vals 9 = .bool false := hv 9 (by decide)
            have g56 : vals 10 = .slice a4 n4 c4 := hv 10 (by decide)
            have g57 : vals 11 = .int .i64 A := hv 11 (by decide)
            have g58 : vals 12 = .pointer (some ⟨q, 2, none⟩) := hv 12 (by decide)
            have g59 : vals 13 = .slice a5 c.length cap5 := hv 13 (by decide)
            have g60 : vals 14 = .int .i64 B := hv 14 (by decide)
            have g61 : vals 15 = .bool false := hv 15 (by decide)
            have g62 : vals 16 = .bool false := hv 16 (by decide)
            have g63 : vals 17 = .bool false := hv 17 (by decide)
            clear hv
            simp only [putAll, Act.put, List.setIfInBounds_toArray, List.set_cons_zero, List.set_cons_succ, g46, g47, g48, g49, g50, g51, g52, g53, g54, g55, g56, g57, g58, g59, g60, g61, g62, g63]
            clear g46
            clear g47
            clear g48
            clear g49
            clear g50
            clear g51
            clear g52
            clear g53
            clear g54
            clear g55
            clear g56
            clear g57
            clear g58
            clear g59
            clear g60
            clear g61
            clear g62
            clear g63
            go_wp2_with fail
            go_roundw
            case rel => exact ⟨j + 1, by omega, by go_num, ea.trans hz⟩
            case measure => simp [intOf]; omega
        · have hkb : (kd == 1) = false := beq_eq_false_iff_ne.2 k1
          refine wp_region_facts (by kernel_rfl) Ext (fun iop v w => match iop with
              | 0 => v = .pointer (some ⟨q, 1, none⟩)
              | 1 => v = .int .i64 kd
              | 2 => v = .bool false
              | 3 => v = .bool false
              | 4 => v = undef
              | 5 => v = undef
              | 6 => v = undef
              | 7 => v = undef
              | 8 => v = undef
              | 9 => v = undef
              | 10 => v = undef
              | 11 => v = undef
              | 12 => v = undef
              | 13 => v = undef
              | 14 => v = undef
              | 15 => v = undef
              | 16 => v = undef
              | _ => v = .bool false
              ) (by kernel_rfl) (fun _ _ _ h k => Ext.trans h k) (fun a => Ext.refl a) (Ext.drew _) ?_ ?_ ?_
          · intro iop v wa wb hF hL
            cases iop with
            | zero => exact hF
            | succ iop =>
              cases iop with
              | zero => exact hF
              | succ iop =>
                cases iop with
                | zero => exact hF
                | succ iop =>
                  cases iop with
                  | zero => exact hF
                  | succ iop =>
                    cases iop with
                    | zero => exact hF
                    | succ iop =>
                      cases iop with
                      | zero => exact hF
                      | succ iop =>
                        cases iop with
                        | zero => exact hF
                        | succ iop =>
                          cases iop with
                          | zero => exact hF
                          | succ iop =>
                            cases iop with
                            | zero => exact hF
                            | succ iop =>
                              cases iop with
                              | zero => exact hF
                              | succ iop =>
                                cases iop with
                                | zero => exact hF
                                | succ iop =>
                                  cases iop with
                                  | zero => exact hF
                                  | succ iop =>
                                    cases iop with
                                    | zero => exact hF
                                    | succ iop =>
                                      cases iop with
                                      | zero => exact hF
                                      | succ iop =>
                                        cases iop with
                                        | zero => exact hF
                                        | succ iop =>
                                          cases iop with
                                          | zero => exact hF
                                          | succ iop =>
                                            cases iop with
                                            | zero => exact hF
                                            | succ iop =>
                                              exact hF
          · refine Obls.cons ?_ (Obls.cons ?_ (Obls.cons ?_ (Obls.cons ?_ (Obls.cons ?_ (Obls.cons ?_ (Obls.cons ?_ (Obls.cons ?_ (Obls.cons ?_ (Obls.cons ?_ (Obls.cons ?_ (Obls.cons ?_ (Obls.cons ?_ (Obls.cons ?_ (Obls.cons ?_ (Obls.cons ?_ (Obls.cons ?_ (Obls.cons ?_ (Obls.nil))))))))))))))))))
            · intro ev wy hp hl hk hd
              have e9 : ev (.tmp 9) = .pointer (some ⟨q, 0, none⟩) := hk 9 (by decide)
              clear hk
              clear hd
              exact Yield.op (v := .pointer (some ⟨q, 1, none⟩)) (w' := wy) (by simp [execOp, go_sem, e9]) ⟨Ext.refl _, rfl⟩
            · intro ev wy hp hl hk hd
              have e46 : ev (.tmp 46) = .pointer (some ⟨q, 1, none⟩) := hk 46 (by decide)
              clear hk
              clear hd
              exact Yield.load rfl e46 (ldInt (HX.out.ext hl).cells.2.1) ⟨Ext.refl _, rfl⟩
            · intro ev wy hp hl hk hd
              have e47 : ev (.tmp 47) = .int .i64 kd := hk 47 (by decide)
              clear hk
              clear hd
              exact Yield.op (w' := wy) (by simp [execOp, go_sem, e47, hp.const, k1]) ⟨Ext.refl _, rfl⟩
            · intro ev wy hp hl hk hd
              have e48 : ev (.tmp 48) = .bool false := hk 48 (by decide)
              clear hk
              clear hd
              exact Yield.mv rfl ⟨Ext.refl _, e48⟩
            · intro ev wy hp hl hk hd
              have e7 : ev (.tmp 7) = .slice a4 n4 c4 := hk 7 (by decide)
              clear hk
              exact ⟨fun x hx he => (by rw [show x = .bool false from hx] at he; cases he), fun _ _ _ => rfl⟩
            · intro ev wy hp hl hk hd
              have e9 : ev (.tmp 9) = .pointer (some ⟨q, 0, none⟩) := hk 9 (by decide)
              clear hk
              exact ⟨fun x hx he => (by rw [show x = .bool false from hx] at he; cases he), fun _ _ _ => rfl⟩
            · intro ev wy hp hl hk hd
              have e51 : ev (.tmp 51) = undef := hk 51 (by decide)
              clear hk
              exact ⟨fun x hx he => (by rw [show x = .bool false from hx] at he; cases he), fun _ _ _ => rfl⟩
            · intro ev wy hp hl hk hd
              have e50 : ev (.tmp 50) = undef := hk 50 (by decide)
              have e52 : ev (.tmp 52) = undef := hk 52 (by decide)
              clear hk
              exact ⟨fun x hx he => (by rw [show x = .bool false from hx] at he; cases he), fun _ _ _ => rfl⟩
            · intro ev wy hp hl hk hd
              have e53 : ev (.tmp 53) = undef := hk 53 (by decide)
              clear hk
              exact ⟨fun x hx he => (by rw [show x = .bool false from hx] at he; cases he), fun _ _ _ => rfl⟩
            · intro ev wy hp hl hk hd
              have e54 : ev (.tmp 54) = undef := hk 54 (by decide)
              clear hk
              exact ⟨fun x hx he => (by rw [show x = .bool false from hx] at he; cases he), fun _ _ _ => rfl⟩
            · intro ev wy hp hl hk hd
              have e7 : ev (.tmp 7) = .slice a4 n4 c4 := hk 7 (by decide)
              clear hk
              exact ⟨fun x hx he => (by rw [show x = undef from hx] at he; cases he), fun _ _ _ => rfl⟩
            · intro ev wy hp hl hk hd
              have e56 : ev (.tmp 56) = undef := hk 56 (by decide)
              clear hk
              exact ⟨fun x hx he => (by rw [show x = undef from hx] at he; cases he), fun _ _ _ => rfl⟩
            · intro ev wy hp hl hk hd
              have e9 : ev (.tmp 9) = .pointer (some ⟨q, 0, none⟩) := hk 9 (by decide)
              clear hk
              exact ⟨fun x hx he => (by rw [show x = undef from hx] at he; cases he), fun _ _ _ => rfl⟩
            · intro ev wy hp hl hk hd
              have e58 : ev (.tmp 58) = undef := hk 58 (by decide)
              clear hk
              exact ⟨fun x hx he => (by rw [show x = undef from hx] at he; cases he), fun _ _ _ => rfl⟩
            · intro ev wy hp hl hk hd
              have e59 : ev (.tmp 59) = undef := hk 59 (by decide)
              clear hk
              exact ⟨fun x hx he => (by rw [show x = undef from hx] at he; cases he), fun _ _ _ => rfl⟩
            · intro ev wy hp hl hk hd
              have e57 : ev (.tmp 57) = undef := hk 57 (by decide)
              have e60 : ev (.tmp 60) = undef := hk 60 (by decide)
              clear hk
              exact ⟨fun x hx he => (by rw [show x = undef from hx] at he; cases he), fun _ _ _ => rfl⟩
            · intro ev wy hp hl hk hd
              have e55 : ev (.tmp 55) = undef := hk 55 (by decide)
              have e61 : ev (.tmp 61) = undef := hk 61 (by decide)
              clear hk
              exact ⟨fun x hx he => (by rw [show x = .bool false from hx] at he; cases he), fun _ _ _ => rfl⟩
            · intro ev wy hp hl hk hd
              have e49 : ev (.tmp 49) = .bool false := hk 49 (by decide)
              have e62 : ev (.tmp 62) = undef := hk 62 (by decide)
              clear hk
              clear hd
              exact Yield.pick (t := false) rfl e49 ⟨Ext.refl _, hp.const _⟩
          · intro vals wz hz hv
            have g46 : vals 0 = .pointer (some ⟨q, 1, none⟩) := hv 0 (by decide)
            have g47 : vals 1 = .int .i64 kd := hv 1 (by decide)
            have g48 : vals 2 = .bool false := hv 2 (by decide)
            have g49 : vals 3 = .bool false := hv 3 (by decide)
            have g50 : vals 4 = undef := hv 4 (by decide)
            have g51 : vals 5 = undef := hv 5 (by decide)
            have g52 : vals 6 = undef := hv 6 (by decide)
            have g53 : vals 7 = undef := hv 7 (by decide)
            have g54 : vals 8 = undef := hv 8 (by decide)
            have g55 : vals 9 = undef := hv 9 (by decide)
            have g56 : vals 10 = undef := hv 10 (by decide)
            have g57 : vals 11 = undef := hv 11 (by decide)
            have g58 : vals 12 = undef := hv 12 (by decide)
            have g59 : vals 13 = undef := hv 13 (by decide)
            have g60 : vals 14 = undef := hv 14 (by decide)
            have g61 : vals 15 = undef := hv 15 (by decide)
            have g62 : vals 16 = undef := hv 16 (by decide)
            have g63 : vals 17 = .bool false := hv 17 (by decide)
            clear hv
            simp only [putAll, Act.put, List.setIfInBounds_toArray, List.set_cons_zero, List.set_cons_succ, g46, g47, g48, g49, g50, g51, g52, g53, g54, g55, g56, g57, g58, g59, g60, g61, g62, g63]
            clear g46
            clear g47
            clear g48
            clear g49
            clear g50
            clear g51
            clear g52
            clear g53
            clear g54
            clear g55
            clear g56
            clear g57
            clear g58
            clear g59
            clear g60
            clear g61
            clear g62
            clear g63
            go_wp2_with fail
            go_roundw
            case rel => exact ⟨j + 1, by omega, by go_num, ea.trans hz⟩
            case measure => simp [intOf]; omega
      · obtain rfl : j = M := by omega
        go_wp2_with fail
        refine (entAlive_any _).mono ?_
        rintro e w9 ⟨rfl, hE9⟩
        go_wp2_with fail
        go_ret
        exact ⟨rfl, (e4.trans hE).trans hE9⟩
  · replace HTK := Lib.hid (show Ent.chain (l.take k) = M by rw [HTK.out]; omega)
    go_enter Try.func7, Try.ntmps7
    go_wp2_with fail
    refine (own5_any _ l _ HV.out h64).mono ?_
    rintro e w1 ⟨u1, rfl, ho1, hE1⟩
    have HO1 := Lib.hid (ho1.ents hE1)
    obtain ⟨a1, c1, e1, hc1, hc1m⟩ := HO1.out.shape
    subst e1
    clear ho1
    go_wp2_with fail
    refine (HCH.out _ _ HO1.out).mono ?_
    rintro e w2 ⟨rfl, hE2⟩
    have e2 := hE1.trans hE2
    have hsl : ∀ wy : World, (Instr.sliceAt 45 (.slice a1 l.length c1) none (some (.int .i64 (k : Int))) none).run Try.prog wy = .ok (.slice a1 k c1) wy := fun wy => runTo (size := 6) Try.underlying45 (by kernel_rfl) k (by omega) .i64
    have HO2 := Lib.hid (HO1.out.below hE2)
    go_wp2_with fail
    have hcall := chain5_any (.slice a1 k c1) (l.take k) w2 (HO2.out.take k (by omega))
    rw [HTK.out] at hcall
    refine hcall.mono ?_
    clear hcall
    rintro e w3 ⟨rfl, hE3⟩
    have e3 := e2.trans hE3
    have HO3 := Lib.hid (HO2.out.below hE3)
    go_wp2_with fail
    refine (HLAST.out _ _ HO3.out).mono ?_
    rintro e w4 ⟨u4, rfl, hi4, hE4⟩
    have e4 := e3.trans hE4
    obtain ⟨a4, n4, c4, rfl⟩ := Ints.isSlice hi4
    have HI4 := Lib.hid hi4
    have hsl2 : ∀ wy : World, (Instr.sliceAt 43 (.slice a l.length cap) none (some (.int .i64 (M : Int))) none).run Try.prog wy = .ok (.slice a M cap) wy := fun wy => runTo (size := 6) Try.underlying43 (by kernel_rfl) M (by omega) .i64
    clear hi4 hsl
    go_wp2_with fail
    clear hsl2
    go_loopw [9, 42] (fun _ i wr => ∃ j : Nat, j ≤ M ∧ i = .int .i64 j ∧ Ext w4 wr) (fun _ i _ => M - (intOf i).toNat)
    case atStart => exact ⟨0, by omega, rfl, Ext.refl _⟩
    case round =>
      obtain ⟨j, hj, rfl, hE⟩ := hrel
      by_cases hlt : j < M
      · have hjl : j < l.length := by omega
        obtain ⟨a', cap', e', _, _, _, hc⟩ := HV.out.below (e4.trans hE)
        obtain ⟨b, off, rfl, t, p0, p1, p2, p3, p4, p5, ht⟩ := hc j hjl
        injection e' with e1' e2' e3'
        subst e1'
        clear hc e2' e3'
        obtain ⟨a5, cap5, rfl, hcap5, hmax5, _, _⟩ := ht.open
        have hcov := HBC.out j hjl hlt
        have HT := Lib.hid ht
        generalize l[j] = R at *
        obtain ⟨x, kd, c, tg, m, p⟩ := R
        simp only at *
        have hEa : Ext wr (wr.alloc (.cells #[.int .i64 x, .int .i64 kd, .slice a5 c.length cap5, .int .i64 tg, .int .i64 m, .int .i64 p] 26)) := Ext.alloc _ _
        have HX := Lib.hid (EntAt.new 26 wr (.slice a5 c.length cap5) ⟨x, kd, c, tg, m, p⟩)
        have HTa := Lib.hid (HT.out.below hEa)
        have HIa := Lib.hid (HI4.out.below (hE.trans hEa))
        have ea := hE.trans hEa
        have HCOV := Lib.hid hcov
        clear ht hcov
        go_wp2_with fail
        generalize hwa : wr.alloc (.cells #[.int .i64 x, .int .i64 kd, .slice a5 c.length cap5, .int .i64 tg, .int .i64 m, .int .i64 p] 26) = wa at *
        generalize hq : wr.heap.size = q at *
        clear hwa hq p0 p1 p2 p3 p4 p5
        by_cases k1 : kd = 1
        · subst k1
          have hcv := HCOV.out rfl
          have htot := Ent.covers_total hcv
          obtain ⟨A, hA⟩ : ∃ A, Vec.total T = A := ⟨_, rfl⟩
          obtain ⟨B, hB⟩ : ∃ B, Vec.total c = B := ⟨_, rfl⟩
          rw [hA, hB] at htot
          have HCV := Lib.hid hcv
          have HA := Lib.hid hA
          have HB := Lib.hid hB
          clear hcv hA hB
          refine wp_region_facts (by kernel_rfl) Ext (fun iop v w => match iop with
              | 0 => v = .pointer (some ⟨q, 1, none⟩)
              | 1 => v = .int .i64 1
              | 2 => v = .bool true
              | 3 => v = .bool true
              | 4 => v = .slice a4 n4 c4
              | 5 => v = .pointer (some ⟨q, 2, none⟩)
              | 6 => v = .slice a5 c.length cap5
              | 7 => v = .bool true
              | 8 => v = .bool false
              | 9 => v = .bool false
              | 10 => v = .slice a4 n4 c4
              | 11 => v = .int .i64 A
              | 12 => v = .pointer (some ⟨q, 2, none⟩)
              | 13 => v = .slice a5 c.length cap5
              | 14 => v = .int .i64 B
              | 15 => v = .bool false
              | 16 => v = .bool false
              | _ => v = .bool false
              ) (by kernel_rfl) (fun _ _ _ h k => Ext.trans h k) (fun a => Ext.refl a) (Ext.drew _) ?_ ?_ ?_
          · intro iop v wa wb hF hL
            cases iop with
            | zero => exact hF
            | succ iop =>
              cases iop with
              | zero => exact hF
              | succ iop =>
                cases iop with
                | zero => exact hF
                | succ iop =>
                  cases iop with
                  | zero => exact hF
                  | succ iop =>
                    cases iop with
                    | zero => exact hF
                    | succ iop =>
                      cases iop with
                      | zero => exact hF
                      | succ iop =>
                        cases iop with
                        | zero => exact hF
                        | succ iop =>
                          cases iop with
                          | zero => exact hF
                          | succ iop =>
                            cases iop with
                            | zero => exact hF
                            | succ iop =>
                              cases iop with
                              | zero => exact hF
                              | succ iop =>
                                cases iop with
                                | zero => exact hF
                                | succ iop =>
                                  cases iop with
                                  | zero => exact hF
                                  | succ iop =>
                                    cases iop with
                                    | zero => exact hF
                                    | succ iop =>
                                      cases iop with
                                      | zero => exact hF
                                      | succ iop =>
                                        cases iop with
                                        | zero => exact hF
                                        | succ iop =>
                                          cases iop with
                                          | zero => exact hF
                                          | succ iop =>
                                            cases iop with
                                            | zero => exact hF
                                            | succ iop =>
                                              exact hF
          · refine Obls.cons ?_ (Obls.cons ?_ (Obls.cons ?_ (Obls.cons ?_ (Obls.cons ?_ (Obls.cons ?_ (Obls.cons ?_ (Obls.cons ?_ (Obls.cons ?_ (Obls.cons ?_ (Obls.cons ?_ (Obls.cons ?_ (Obls.cons ?_ (Obls.cons ?_ (Obls.cons ?_ (Obls.cons ?_ (Obls.cons ?_ (Obls.cons ?_ (Obls.nil))))))))))))))))))
            · intro ev wy hp hl hk hd
              have e9 : ev (.tmp 9) = .pointer (some ⟨q, 0, none⟩) := hk 9 (by decide)
              clear hk
              clear hd
              exact Yield.op (v := .pointer (some ⟨q, 1, none⟩)) (w' := wy) (by simp [execOp, go_sem, e9]) ⟨Ext.refl _, rfl⟩
            · intro ev wy hp hl hk hd
              have e46 : ev (.tmp 46) = .pointer (some ⟨q, 1, none⟩) := hk 46 (by decide)
              clear hk
              clear hd
              exact Yield.load rfl e46 (ldInt (HX.out.ext hl).cells.2.1) ⟨Ext.refl _, rfl⟩
            · intro ev wy hp hl hk hd
              have e47 : ev (.tmp 47) = .int .i64 1 := hk 47 (by decide)
              clear hk
              clear hd
              exact Yield.op (v := .bool true) (w' := wy) (by simp [execOp, go_sem, e47, hp.const]) ⟨Ext.refl _, rfl⟩
            · intro ev wy hp hl hk hd
              have e48 : ev (.tmp 48) = .bool true := hk 48 (by decide)
              clear hk
              clear hd
              exact Yield.mv rfl ⟨Ext.refl _, e48⟩
            · intro ev wy hp hl hk hd
              have e7 : ev (.tmp 7) = .slice a4 n4 c4 := hk 7 (by decide)
              clear hk
              refine ⟨fun _ _ _ => ?_, fun _ hx hne => absurd hx hne⟩
              clear hd
              exact Yield.mv rfl ⟨Ext.refl _, e7⟩
            · intro ev wy hp hl hk hd
              have e9 : ev (.tmp 9) = .pointer (some ⟨q, 0, none⟩) := hk 9 (by decide)
              clear hk
              refine ⟨fun _ _ _ => ?_, fun _ hx hne => absurd hx hne⟩
              clear hd
              exact Yield.op (v := .pointer (some ⟨q, 2, none⟩)) (w' := wy) (by simp [execOp, go_sem, e9]) ⟨Ext.refl _, rfl⟩
            · intro ev wy hp hl hk hd
              have e51 : ev (.tmp 51) = .pointer (some ⟨q, 2, none⟩) := hk 51 (by decide)
              clear hk
              refine ⟨fun _ _ _ => ?_, fun _ hx hne => absurd hx hne⟩
              clear hd
              exact Yield.load rfl e51 (ldInts (HX.out.ext hl).cells.2.2.1) ⟨Ext.refl _, rfl⟩
            · intro ev wy hp hl hk hd
              have e50 : ev (.tmp 50) = .slice a4 n4 c4 := hk 50 (by decide)
              have e52 : ev (.tmp 52) = .slice a5 c.length cap5 := hk 52 (by decide)
              clear hk
              refine ⟨fun _ _ _ => ?_, fun _ hx hne => absurd hx hne⟩
              clear hd
              refine Yield.call rfl hp Try.func25 rfl (by kernel_rfl) ?_
              simp only [List.map_toArray, List.map_cons, List.map_nil, e50, e52]
              exact ((HCV.out ▸ coversE_any _ _ T c wy (HIa.out.below hl) (HTa.out.below hl))).mono fun _ _ ⟨he, hb⟩ => ⟨_, he, hb, by first | rfl | simp⟩
            · intro ev wy hp hl hk hd
              have e53 : ev (.tmp 53) = .bool true := hk 53 (by decide)
              clear hk
              refine ⟨fun _ _ _ => ?_, fun _ hx hne => absurd hx hne⟩
              clear hd
              exact Yield.op (v := .bool false) (w' := wy) (by simp [execOp, go_sem, e53]) ⟨Ext.refl _, rfl⟩
            · intro ev wy hp hl hk hd
              have e54 : ev (.tmp 54) = .bool false := hk 54 (by decide)
              clear hk
              refine ⟨fun _ _ _ => ?_, fun _ hx hne => absurd hx hne⟩
              clear hd
              exact Yield.mv rfl ⟨Ext.refl _, e54⟩
            · intro ev wy hp hl hk hd
              have e7 : ev (.tmp 7) = .slice a4 n4 c4 := hk 7 (by decide)
              clear hk
              refine ⟨fun _ _ _ => ?_, fun _ hx hne => absurd hx hne⟩
              clear hd
              exact Yield.mv rfl ⟨Ext.refl _, e7⟩
            · intro ev wy hp hl hk hd
              have e56 : ev (.tmp 56) = .slice a4 n4 c4 := hk 56 (by decide)
              clear hk
              refine ⟨fun _ _ _ => ?_, fun _ hx hne => absurd hx hne⟩
              clear hd
              refine Yield.call rfl hp Try.func26 rfl (by kernel_rfl) ?_
              simp only [List.map_toArray, List.map_cons, List.map_nil, e56]
              exact ((HA.out ▸ totalE_any _ T wy (HIa.out.below hl))).mono fun _ _ ⟨he, hb⟩ => ⟨_, he, hb, by first | rfl | simp⟩
            · intro ev wy hp hl hk hd
              have e9 : ev (.tmp 9) = .pointer (some ⟨q, 0, none⟩) := hk 9 (by decide)
              clear hk
              refine ⟨fun _ _ _ => ?_, fun _ hx hne => absurd hx hne⟩
              clear hd
              exact Yield.op (v := .pointer (some ⟨q, 2, none⟩)) (w' := wy) (by simp [execOp, go_sem, e9]) ⟨Ext.refl _, rfl⟩
            · intro ev wy hp hl hk hd
              have e58 : ev (.tmp 58) = .pointer (some ⟨q, 2, none⟩) := hk 58 (by decide)
              clear hk
              refine ⟨fun _ _ _ => ?_, fun _ hx hne => absurd hx hne⟩
              clear hd
              exact Yield.load rfl e58 (ldInts (HX.out.ext hl).cells.2.2.1) ⟨Ext.refl _, rfl⟩
            · intro ev wy hp hl hk hd
              have e59 : ev (.tmp 59) = .slice a5 c.length cap5 := hk 59 (by decide)
              clear hk
              refine ⟨fun _ _ _ => ?_, fun _ hx hne => absurd hx hne⟩
              clear hd
              refine Yield.call rfl hp Try.func26 rfl (by kernel_rfl) ?_
              simp only [List.map_toArray, List.map_cons, List.map_nil, e59]
              exact ((HB.out ▸ totalE_any _ c wy (HTa.out.below hl))).mono fun _ _ ⟨he, hb⟩ => ⟨_, he, hb, by first | rfl | simp⟩
            · intro ev wy hp hl hk hd
              have e57 : ev (.tmp 57) = .int .i64 A := hk 57 (by decide)
              have e60 : ev (.tmp 60) = .int .i64 B := hk 60 (by decide)
              clear hk
              refine ⟨fun _ _ _ => ?_, fun _ hx hne => absurd hx hne⟩
              clear hd
              exact Yield.op (w' := wy) (by simp [execOp, go_sem, e57, e60]; omega) ⟨Ext.refl _, rfl⟩
            · intro ev wy hp hl hk hd
              have e55 : ev (.tmp 55) = .bool false := hk 55 (by decide)
              have e61 : ev (.tmp 61) = .bool false := hk 61 (by decide)
              clear hk
              refine ⟨fun _ _ _ => ?_, fun _ hx hne => absurd hx hne⟩
              clear hd
              exact Yield.pick (t := false) rfl e55 ⟨Ext.refl _, e61⟩
            · intro ev wy hp hl hk hd
              have e49 : ev (.tmp 49) = .bool true := hk 49 (by decide)
              have e62 : ev (.tmp 62) = .bool false := hk 62 (by decide)
              clear hk
              clear hd
              exact Yield.pick (t := true) rfl e49 ⟨Ext.refl _, e62⟩
          · intro vals wz hz hv
            have g46 : vals 0 = .pointer (some ⟨q, 1, none⟩) := hv 0 (by decide)
            have g47 : vals 1 = .int .i64 1 := hv 1 (by decide)
            have g48 : vals 2 = .bool true := hv 2 (by decide)
            have g49 : vals 3 = .bool true := hv 3 (by decide)
            have g50 : vals 4 = .slice a4 n4 c4 := hv 4 (by decide)
            have g51 : vals 5 = .pointer (some ⟨q, 2, none⟩) := hv 5 (by decide)
            have g52 : vals 6 = .slice a5 c.length cap5 := hv 6 (by decide)
            have g53 : vals 7 = .bool true := hv 7 (by decide)
            have g54 : vals 8 = .bool false := hv 8 (by decide)
            have g55 : vals 9 = .bool false := hv 9 (by decide)
            have g56 : vals 10 = .slice a4 n4 c4 := hv 10 (by decide)
            have g57 : vals 11 = .int .i64 A := hv 11 (by decide)
            have g58 : vals 12 = .pointer (some ⟨q, 2, none⟩) := hv 12 (by decide)
            have g59 : vals 13 = .slice a5 c.length cap5 := hv 13 (by decide)
            have g60 : vals 14 = .int .i64 B := hv 14 (by decide)
            have g61 : vals 15 = .bool false := hv 15 (by decide)
            have g62 : vals 16 = .bool false := hv 16 (by decide)
            have g63 : vals 17 = .bool false := hv 17 (by decide)
            clear hv
            simp only [putAll, Act.put, List.setIfInBounds_toArray, List.set_cons_zero, List.set_cons_succ, g46, g47, g48, g49, g50, g51, g52, g53, g54, g55, g56, g57, g58, g59, g60, g61, g62, g63]
            clear g46
            clear g47
            clear g48
            clear g49
            clear g50
            clear g51
            clear g52
            clear g53
            clear g54
            clear g55
            clear g56
            clear g57
            clear g58
            clear g59
            clear g60
            clear g61
            clear g62
            clear g63
            go_wp2_with fail
            go_roundw
            case rel => exact ⟨j + 1, by omega, by go_num, ea.trans hz⟩
            case measure => simp [intOf]; omega
        · have hkb : (kd == 1) = false := beq_eq_false_iff_ne.2 k1
          refine wp_region_facts (by kernel_rfl) Ext (fun iop v w => match iop with
              | 0 => v = .pointer (some ⟨q, 1, none⟩)
              | 1 => v = .int .i64 kd
              | 2 => v = .bool false
              | 3 => v = .bool false
              | 4 => v = undef
              | 5 => v = undef
              | 6 => v = undef
              | 7 => v = undef
              | 8 => v = undef
              | 9 => v = undef
              | 10 => v = undef
              | 11 => v = undef
              | 12 => v = undef
              | 13 => v = undef
              | 14 => v = undef
              | 15 => v = undef
              | 16 => v = undef
              | _ => v = .bool false
              ) (by kernel_rfl) (fun _ _ _ h k => Ext.trans h k) (fun a => Ext.refl a) (Ext.drew _) ?_ ?_ ?_
          · intro iop v wa wb hF hL
            cases iop with
            | zero => exact hF
            | succ iop =>
              cases iop with
              | zero => exact hF
              | succ iop =>
                cases iop with
                | zero => exact hF
                | succ iop =>
                  cases iop with
                  | zero => exact hF
                  | succ iop =>
                    cases iop with
                    | zero => exact hF
                    | succ iop =>
                      cases iop with
                      | zero => exact hF
                      | succ iop =>
                        cases iop with
                        | zero => exact hF
                        | succ iop =>
                          cases iop with
                          | zero => exact hF
                          | succ iop =>
                            cases iop with
                            | zero => exact hF
                            | succ iop =>
                              cases iop with
                              | zero => exact hF
                              | succ iop =>
                                cases iop with
                                | zero => exact hF
                                | succ iop =>
                                  cases iop with
                                  | zero => exact hF
                                  | succ iop =>
                                    cases iop with
                                    | zero => exact hF
                                    | succ iop =>
                                      cases iop with
                                      | zero => exact hF
                                      | succ iop =>
                                        cases iop with
                                        | zero => exact hF
                                        | succ iop =>
                                          cases iop with
                                          | zero => exact hF
                                          | succ iop =>
                                            cases iop with
                                            | zero => exact hF
                                            | succ iop =>
                                              exact hF
          · refine Obls.cons ?_ (Obls.cons ?_ (Obls.cons ?_ (Obls.cons ?_ (Obls.cons ?_ (Obls.cons ?_ (Obls.cons ?_ (Obls.cons ?_ (Obls.cons ?_ (Obls.cons ?_ (Obls.cons ?_ (Obls.cons ?_ (Obls.cons ?_ (Obls.cons ?_ (Obls.cons ?_ (Obls.cons ?_ (Obls.cons ?_ (Obls.cons ?_ (Obls.nil))))))))))))))))))
            · intro ev wy hp hl hk hd
              have e9 : ev (.tmp 9) = .pointer (some ⟨q, 0, none⟩) := hk 9 (by decide)
              clear hk
              clear hd
              exact Yield.op (v := .pointer (some ⟨q, 1, none⟩)) (w' := wy) (by simp [execOp, go_sem, e9]) ⟨Ext.refl _, rfl⟩
            · intro ev wy hp hl hk hd
              have e46 : ev (.tmp 46) = .pointer (some ⟨q, 1, none⟩) := hk 46 (by decide)
              clear hk
              clear hd
              exact Yield.load rfl e46 (ldInt (HX.out.ext hl).cells.2.1) ⟨Ext.refl _, rfl⟩
            · intro ev wy hp hl hk hd
              have e47 : ev (.tmp 47) = .int .i64 kd := hk 47 (by decide)
              clear hk
              clear hd
              exact Yield.op (w' := wy) (by simp [execOp, go_sem, e47, hp.const, k1]) ⟨Ext.refl _, rfl⟩
            · intro ev wy hp hl hk hd
              have e48 : ev (.tmp 48) = .bool false := hk 48 (by decide)
              clear hk
              clear hd
              exact Yield.mv rfl ⟨Ext.refl _, e48⟩
            · intro ev wy hp hl hk hd
              have e7 : ev (.tmp 7) = .slice a4 n4 c4 := hk 7 (by decide)
              clear hk
              exact ⟨fun x hx he => (by rw [show x = .bool false from hx] at he; cases he), fun _ _ _ => rfl⟩
            · intro ev wy hp hl hk hd
              have e9 : ev (.tmp 9) = .pointer (some ⟨q, 0, none⟩) := hk 9 (by decide)
              clear hk
              exact ⟨fun x hx he => (by rw [show x = .bool false from hx] at he; cases he), fun _ _ _ => rfl⟩
            · intro ev wy hp hl hk hd
              have e51 : ev (.tmp 51) = undef := hk 51 (by decide)
              clear hk
              exact ⟨fun x hx he => (by rw [show x = .bool false from hx] at he; cases he), fun _ _ _ => rfl⟩
            · intro ev wy hp hl hk hd
              have e50 : ev (.tmp 50) = undef := hk 50 (by decide)
              have e52 : ev (.tmp 52) = undef := hk 52 (by decide)
              clear hk
              exact ⟨fun x hx he => (by rw [show x = .bool false from hx] at he; cases he), fun _ _ _ => rfl⟩
            · intro ev wy hp hl hk hd
              have e53 : ev (.tmp 53) = undef := hk 53 (by decide)
              clear hk
              exact ⟨fun x hx he => (by rw [show x = .bool false from hx] at he; cases he), fun _ _ _ => rfl⟩
            · intro ev wy hp hl hk hd
              have e54 : ev (.tmp 54) = undef := hk 54 (by decide)
              clear hk
              exact ⟨fun x hx he => (by rw [show x = .bool false from hx] at he; cases he), fun _ _ _ => rfl⟩
            · intro ev wy hp hl hk hd
              have e7 : ev (.tmp 7) = .slice a4 n4 c4 := hk 7 (by decide)
              clear hk
              exact ⟨fun x hx he => (by rw [show x = undef from hx] at he; cases he), fun _ _ _ => rfl⟩
            · intro ev wy hp hl hk hd
              have e56 : ev (.tmp 56) = undef := hk 56 (by decide)
              clear hk
              exact ⟨fun x hx he => (by rw [show x = undef from hx] at he; cases he), fun _ _ _ => rfl⟩
            · intro ev wy hp hl hk hd
              have e9 : ev (.tmp 9) = .pointer (some ⟨q, 0, none⟩) := hk 9 (by decide)
              clear hk
              exact ⟨fun x hx he => (by rw [show x = undef from hx] at he; cases he), fun _ _ _ => rfl⟩
            · intro ev wy hp hl hk hd
              have e58 : ev (.tmp 58) = undef := hk 58 (by decide)
              clear hk
              exact ⟨fun x hx he => (by rw [show x = undef from hx] at he; cases he), fun _ _ _ => rfl⟩
            · intro ev wy hp hl hk hd
              have e59 : ev (.tmp 59) = undef := hk 59 (by decide)
              clear hk
              exact ⟨fun x hx he => (by rw [show x = undef from hx] at he; cases he), fun _ _ _ => rfl⟩
            · intro ev wy hp hl hk hd
              have e57 : ev (.tmp 57) = undef := hk 57 (by decide)
              have e60 : ev (.tmp 60) = undef := hk 60 (by decide)
              clear hk
              exact ⟨fun x hx he => (by rw [show x = undef from hx] at he; cases he), fun _ _ _ => rfl⟩
            · intro ev wy hp hl hk hd
              have e55 : ev (.tmp 55) = undef := hk 55 (by decide)
              have e61 : ev (.tmp 61) = undef := hk 61 (by decide)
              clear hk
              exact ⟨fun x hx he => (by rw [show x = .bool false from hx] at he; cases he), fun _ _ _ => rfl⟩
            · intro ev wy hp hl hk hd
              have e49 : ev (.tmp 49) = .bool false := hk 49 (by decide)
              have e62 : ev (.tmp 62) = undef := hk 62 (by decide)
              clear hk
              clear hd
              exact Yield.pick (t := false) rfl e49 ⟨Ext.refl _, hp.const _⟩
          · intro vals wz hz hv
            have g46 : vals 0 = .pointer (some ⟨q, 1, none⟩) := hv 0 (by decide)
            have g47 : vals 1 = .int .i64 kd := hv 1 (by decide)
            have g48 : vals 2 = .bool false := hv 2 (by decide)
            have g49 : vals 3 = .bool false := hv 3 (by decide)
            have g50 : vals 4 = undef := hv 4 (by decide)
            have g51 : vals 5 = undef := hv 5 (by decide)
            have g52 : vals 6 = undef := hv 6 (by decide)
            have g53 : vals 7 = undef := hv 7 (by decide)
            have g54 : vals 8 = undef := hv 8 (by decide)
            have g55 : vals 9 = undef := hv 9 (by decide)
            have g56 : vals 10 = undef := hv 10 (by decide)
            have g57 : vals 11 = undef := hv 11 (by decide)
            have g58 : vals 12 = undef := hv 12 (by decide)
            have g59 : vals 13 = undef := hv 13 (by decide)
            have g60 : vals 14 = undef := hv 14 (by decide)
            have g61 : vals 15 = undef := hv 15 (by decide)
            have g62 : vals 16 = undef := hv 16 (by decide)
            have g63 : vals 17 = .bool false := hv 17 (by decide)
            clear hv
            simp only [putAll, Act.put, List.setIfInBounds_toArray, List.set_cons_zero, List.set_cons_succ, g46, g47, g48, g49, g50, g51, g52, g53, g54, g55, g56, g57, g58, g59, g60, g61, g62, g63]
            clear g46
            clear g47
            clear g48
            clear g49
            clear g50
            clear g51
            clear g52
            clear g53
            clear g54
            clear g55
            clear g56
            clear g57
            clear g58
            clear g59
            clear g60
            clear g61
            clear g62
            clear g63
            go_wp2_with fail
            go_roundw
            case rel => exact ⟨j + 1, by omega, by go_num, ea.trans hz⟩
            case measure => simp [intOf]; omega
      · obtain rfl : j = M := by omega
        go_wp2_with fail
        refine (entAlive_any _).mono ?_
        rintro e w9 ⟨rfl, hE9⟩
        go_wp2_with fail
        go_ret
        exact ⟨rfl, (e4.trans hE).trans hE9⟩

namespace entryBegins
theorem own : ownKnob Try.prog.godebug = none := by kernel_rfl
theorem laidOut : laidOutB Try.prog = true := by kernel_rfl
set_option linter.unusedVariables false in
set_option maxRecDepth 100000 in
theorem lifted (os : Os) (started : os.Started) (H : Type) (enc : TypeId × Value → H) :
    ReturnsInHanded {} Try.checked os 7 .any (Rows.entryBeginsSpec.pre6 enc Try.prog Try.f7 Rows.entryBeginsRow.domain false) (Rows.entryBeginsSpec.post enc Try.prog Try.f7 false true false false) := by
  refine returnsInHanded_of_change_sized (C := Try.checked) own started (by kernel_rfl) Try.func7
    (ChangeSpec.witness6 (enc := enc) (C := Try.checked) false ⟨#[], #[.slice none 0 0, .int .i64 0], []⟩ 8 (by kernel_rfl) (by kernel_rfl) (by kernel_rfl) (by kernel_rfl)) ?_
  intro W base args ds gs before hval0 hW hcnd hsz _
  have hval : ∀ (j : Nat) t v, Try.f7.params[j]? = some t → args[j]? = some v → Value.okWide Try.prog W .any base t v := hval0
  have hW' := hW
  obtain ⟨p, q, hA0, hV, rfl, hfz, hnd⟩ := hW'
  have hA : DataW.TrodAll enc Try.prog W 0 (fun _ => true) true Try.f7.params.toList args.toList ds p := hA0
  rw [Try.params7] at hA hval
  obtain ⟨v0, vs0, d0, ds0, p0, q0, hargs, rfl, rfl, h0, r0⟩ := trodAll_cons hA
  obtain ⟨v1, vs1, d1, ds1, p1, q1, rfl, rfl, rfl, h1, r1⟩ := trodAll_cons r0
  obtain ⟨rfl, rfl, rfl⟩ := trodAll_nil r1
  obtain rfl : args = #[v0, v1] := by cases args; simp_all
  obtain ⟨rfl, rfl⟩ := trodVars_none hV
  have k0 := h0
  have lt0 : ∀ x ∈ p0, x.block < W.heap.size := by obtain ⟨m, hm⟩ := k0; exact DataW.trod_lt m _ _ _ hm
  obtain ⟨a0, len0, cap0, rfl⟩ := okWide_slice Try.underlying43 (hval 0 43 v0 rfl rfl)
  obtain ⟨l0, w0⟩ : ∃ l, Ents W (.slice a0 len0 cap0) l := by
    obtain ⟨fuel, hf⟩ := h0
    obtain ⟨v, l, hcs, hb⟩ := ents_of_raw hf
    simp [Value.cells] at hcs
    subst hcs
    exact ⟨l, hb⟩
  have sz0 : len0 * 64 ≤ 140737488351232 := by obtain ⟨fuel, hf⟩ := h0; exact reach_of_raw (P := Try.prog) (x := (d0, p0)) (j := 0) hsz (by rw [Try.params7]; rfl) rfl Try.underlying43 (by kernel_rfl) hf
  have k1 := h1
  have lt1 : ∀ x ∈ p1, x.block < W.heap.size := by obtain ⟨m, hm⟩ := k1; exact DataW.trod_lt m _ _ _ hm
  obtain ⟨a1, rfl, _, _, w1⟩ := open_int Try.underlying3 (hval 1 3 v1 rfl rfl) h1
  clear hA0 hval0
  refine (entryBegins_walk _ l0 a1 W w0 (by obtain ⟨aa, cc, h, _⟩ := w0.shape; injection h with _ h _; omega)).mono fun e W' ⟨he, bel⟩ => ?_
  subst he
  exact ⟨_, rfl, _, _, _, [], _, [], hW, trodAll_mk1 (shut_bool Try.underlying4 _), (trodAll_cons_mk (Below.trod laidOut (by kernel_rfl) (of_decide_eq_true (by kernel_rfl)) k0 bel lt0) (trodAll_cons_mk (Below.trod laidOut (by kernel_rfl) (of_decide_eq_true (by kernel_rfl)) k1 bel lt1) trodAll_mk0)), rfl, bel.frame _, fun h => by cases h⟩
theorem over : Rows.entryBeginsRow.holds Try.pinned (OpenSpec.ofChange Rows.entryBeginsSpec) :=
  OpenClaim.holds_of_wide 7 Try.f7 rfl rfl rfl rfl rfl rfl rfl ⟨rfl, rfl, rfl, rfl, rfl⟩ rfl rfl rfl rfl rfl (by kernel_rfl) Try.func7 (by kernel_rfl)
    (of_decide_eq_true (by kernel_rfl)) (by unfold Func.isWrapper; first | (rw [if_pos (by decide +kernel)]; kernel_rfl) | (rw [if_neg (by decide +kernel)]; exact ⟨rfl, rfl⟩))
    (fun os started H enc _ => lifted os started H enc)
theorem proved : Rows.EntryBeginsSaid := over
end entryBegins
end Go.Proofs.Ytboopfbflfimlaa
