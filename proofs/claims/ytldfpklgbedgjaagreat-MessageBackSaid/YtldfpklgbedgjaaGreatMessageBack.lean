/-
  MessageBack: what was written is read as it was; turned in a byte it is refused: for every input the statement's function returns true, and leaves what came in as it was.
-/
import Derived.Test.YtldfpklgbedgjaaGreatByCrc
import Derived.Test.YtldfpklgbedgjaaGreatMsgZ
import Derived.Laws.OwnMore
import Derived.Laws.BitsAllLaws
namespace Go.Proofs.YtldfpklgbedgjaaGreat
set_option maxRecDepth 100000
set_option linter.unusedSimpArgs false
set_option linter.unusedVariables false
open Go.ChangeShapes Go.WideShapes Go.ChangeAt Go.RowKit

theorem u8sSet (l : List UInt8) (k : Nat) (x : UInt8) : u8s (l.set k x) = (u8s l).set k (.int .u8 (x.toNat : Int)) := by simp [u8s, List.map_set]
theorem xorOther (a t : UInt8) (h : t ≠ 0) : a ^^^ t ≠ a := by
  intro e
  apply h
  have : a ^^^ (a ^^^ t) = a ^^^ a := by rw [e]
  rwa [← UInt8.xor_assoc, UInt8.xor_self, UInt8.zero_xor] at this
set_option maxHeartbeats 64000000 in
theorem messageBack_walk (v : Value) (m : Msg.M) (at' turn : Int) (W : World) (hv : IsMsg W v m) : Calls Tryz.prog 5 #[v, .int .i64 at', .int .i64 turn] W fun e W' => e = .returned (.bool true) ∧ Below W.heap.size W W' := by
  have hbx := box_msgR
  obtain ⟨rt, et, sv, dv, rfl, hM⟩ := hv.block
  have HM := Lib.hid hM
  have hE0 := Ext.alloc W (.cells (msgCells m rt et sv dv) 35)
  obtain ⟨i1, i2, i3, i4⟩ : IsSl rt ∧ IsSl et ∧ IsSl sv ∧ IsSl dv := ⟨intsSlice hM.hr, intsSlice hM.he, intsSlice hM.hs, irowsSlice hM.hd⟩
  have I1 := Lib.hid i1
  have I2 := Lib.hid i2
  have I3 := Lib.hid i3
  have I4 := Lib.hid i4
  clear hM hv i1 i2 i3 i4
  go_enter Tryz.func5, Tryz.ntmps5
  go_wp2_with (refine ldMR (by rfl) _ rfl rfl HM.out ?_)
  refine (few7_any _ m _ HM.out.isMsg).mono ?_
  rintro e w1 ⟨⟨fb, rfl⟩, hE1⟩
  have M1 := Lib.hid (HM.out.ext hE1)
  have e1 := Lib.hid (hE0.trans hE1)
  obtain ⟨q, hq⟩ : ∃ q, W.heap.size = q := ⟨_, rfl⟩
  rw [hq] at M1 ⊢
  clear hq hE1 hE0 HM hbx

  cases fb with
  | false =>
    go_wp2_with fail
    refine (alive7_any _).mono ?_
    rintro e w2 ⟨rfl, hE2⟩
    go_wp2_with fail
    go_ret
    exact ⟨rfl, e1.out.trans hE2⟩
  | true =>
    cases hr : Msg.right m with
    | false =>
      have HR := Lib.hid hr
      clear hr
      go_wp2_with (refine ldMR (by rfl) _ rfl rfl M1.out ?_)
      refine (own7_any _ m _ M1.out.isMsg).mono ?_
      rintro e w2 ⟨u2, rfl, hu2, hE2⟩
      have M2 := Lib.hid (M1.out.ext hE2)
      have e2 := Lib.hid (e1.out.trans hE2)
      have HU2 := Lib.hid hu2
      clear hu2 hE2 M1 e1
      go_wp2_with fail
      refine (encode7_wrong u2 m _ HU2.out HR.out).mono ?_
      rintro e w3 ⟨rfl, hE3⟩
      go_wp2_with fail
      refine (alive7_any _).mono ?_
      rintro e wv ⟨rfl, hEv⟩
      go_wp2_with fail
      go_ret
      exact ⟨rfl, (e2.out.trans hE3).trans hEv⟩
    | true =>
      have hcut := fun k x hk hx => Crc.cut_set (Msg.text m) k x hk hx
      rw [show Msg.text m ++ Crc.low (Crc.sum (Msg.text m)) = Msg.enc m from rfl] at hcut
      have hle := Msg.enc_le hr
      have HR := Lib.hid hr
      clear hr
      obtain ⟨L, hLL⟩ : ∃ L, Msg.enc m = L := ⟨_, rfl⟩
      rw [hLL] at hcut hle
      have HLL := Lib.hid hLL
      clear hLL
      obtain ⟨N, hN⟩ : ∃ N, L.length = N := ⟨_, rfl⟩
      rw [hN] at hle
      have HL := Lib.hid (show (Msg.enc m).length = N by rw [HLL.out, hN])
      have HN := Lib.hid hN
      have HCUT := Lib.hid hcut
      clear hcut hN
      by_cases h1 : at' < 0
      · skip
        go_wp2_with (refine ldMR (by rfl) _ rfl rfl M1.out ?_)
        refine (own7_any _ m _ M1.out.isMsg).mono ?_
        rintro e w2 ⟨u2, rfl, hu2, hE2⟩
        have M2 := Lib.hid (M1.out.ext hE2)
        have e2 := Lib.hid (e1.out.trans hE2)
        have HU2 := Lib.hid hu2
        clear hu2 hE2 M1 e1
        go_wp2_with fail
        refine (encode7_own u2 m _ HU2.out HR.out).mono ?_
        unfold OwnsEnc7
        rintro e w3 ⟨u3, rfl, ho3, hE3⟩
        obtain ⟨a1, n1, c1, rfl⟩ := ho3.isSlice
        have hn1 := ho3.bytes.len.1
        rw [HL.out] at hn1
        have hn1 := hn1.symm
        subst hn1
        have HO := Lib.hid ho3
        have HB1 := Lib.hid ho3.bytes
        have M3 := Lib.hid (M2.out.ext hE3)
        have e3 := Lib.hid (e2.out.trans hE3)
        clear ho3 hE3 M2
        go_wp2_with fail
        refine (decode7_enc _ m _ HR.out HB1.out).mono ?_
        rintro e w4 ⟨u4, rfl, hi4, hE4⟩
        have M4 := Lib.hid (M3.out.ext hE4)
        have e4 := Lib.hid (e3.out.trans hE4)
        obtain ⟨x0, y0, z0, x1, y1, z1, x2, y2, z2, x3, y3, z3, rfl, g1, g2, g3, g4⟩ := hi4.opened
        have G4 := Lib.hid (And.intro g1 (And.intro g2 (And.intro g3 g4)))
        have HE34 := Lib.hid hE4
        clear hi4 g1 g2 g3 g4 hE4 M3 e3
        go_wp2_with (first
          | (refine allocM (by rfl) rfl ?_; intro W5 q5 hat5 hE5 hq5)
          | (refine putM (m2 := m) (by rfl) _ _ rfl rfl rfl hat5.out ⟨_, _, _, rfl⟩ ⟨_, _, _, rfl⟩ ⟨_, _, _, rfl⟩ ⟨_, _, _, rfl⟩ ?_; intro W6 hat6 hB6))
        have hn5 := hq5.out
        have E46 : Ext w4 W6 := Below.trans (B := w4.heap.size) hE5.out (hB6.out.below (by omega) hE5.out.size)
        have M6 := Lib.hid (M4.out.ext E46)
        have e6 := Lib.hid (e4.out.trans E46)
        have HE46 := Lib.hid E46
        have N6 := Lib.hid (show Msg7 45 W6 q5 m (.slice x0 y0 z0) (.slice x1 y1 z1) (.slice x2 y2 z2) (.slice x3 y3 z3) from ⟨hat6.out, G4.out.1.below E46, G4.out.2.1.below E46, G4.out.2.2.1.below E46, G4.out.2.2.2.below E46⟩)
        clear hn5 E46 hat5 hE5 hq5 hat6 hB6 M4 e4
        refine wp_region_facts (by kernel_rfl) Ext (fun iop v w => match iop with
            | 0 => v = .int .i64 0
            | 1 => v = .bool false
            | 2 => v = .bool false
            | 3 => v = .agg (msgCells m (.slice x0 y0 z0) (.slice x1 y1 z1) (.slice x2 y2 z2) (.slice x3 y3 z3))
            | 4 => IsMsg w v m
            | 5 => v = .agg (msgCells m rt et sv dv)
            | 6 => v = .bool true
            | 7 => v = .bool false
            | _ => v = .bool false
            ) (by kernel_rfl) (fun _ _ _ h k => Ext.trans h k) (fun a => Ext.refl a) (Ext.drew _) ?_ ?_ ?_
        · intro iop v wa wb hF hL
          iterate 4 (rcases iop with _ | iop; exact hF)
          rcases iop with _ | iop; (first | exact hF | exact IsMsg.below hF hL)
          iterate 3 (rcases iop with _ | iop; exact hF)
          exact hF
        · refine Obls.cons ?_ (Obls.cons ?_ (Obls.cons ?_ (Obls.cons ?_ (Obls.cons ?_ (Obls.cons ?_ (Obls.cons ?_ (Obls.cons ?_ (Obls.cons ?_ (Obls.nil)))))))))
          · intro ev wy hp hl hk hd
            have e10 : ev (.tmp 10) = .int .i64 0 := hk 10 (by decide)
            clear hk hd
            exact Yield.mv rfl ⟨Ext.refl _, e10⟩
          · intro ev wy hp hl hk hd
            have e36 : ev (.tmp 36) = .int .i64 0 := hk 36 (by decide)
            clear hk hd
            exact Yield.op (v := .bool false) (w' := wy) (by simp [execOp, go_sem, e36, hp.const]) ⟨Ext.refl _, rfl⟩
          · intro ev wy hp hl hk hd
            have e37 : ev (.tmp 37) = .bool false := hk 37 (by decide)
            clear hk hd
            exact Yield.mv rfl ⟨Ext.refl _, e37⟩
          · intro ev wy hp hl hk hd
            have e9 : ev (.tmp 9) = .pointer (some ⟨q5, 0, none⟩) := hk 9 (by decide)
            clear hk
            refine ⟨fun _ _ _ => ?_, fun _ hx hne => absurd hx hne⟩
            clear hd
            exact Yield.load rfl e9 (N6.out.ext hl).ld ⟨Ext.refl _, rfl⟩
          · intro ev wy hp hl hk hd
            have e39 : ev (.tmp 39) = .agg (msgCells m (.slice x0 y0 z0) (.slice x1 y1 z1) (.slice x2 y2 z2) (.slice x3 y3 z3)) := hk 39 (by decide)
            clear hk
            refine ⟨fun _ _ _ => ?_, fun _ hx hne => absurd hx hne⟩
            clear hd
            refine Yield.call rfl hp Tryz.func19 rfl (by kernel_rfl) ?_
            simp only [List.map_toArray, List.map_cons, List.map_nil, e39]
            exact (plain7_any _ m _ (N6.out.ext hl).isMsg).mono fun e w' ⟨u, he, hu, hE⟩ => ⟨u, he, hE, hu⟩
          · intro ev wy hp hl hk hd
            have e3 : ev (.tmp 3) = .pointer (some ⟨q, 0, none⟩) := hk 3 (by decide)
            clear hk
            refine ⟨fun _ _ _ => ?_, fun _ hx hne => absurd hx hne⟩
            clear hd
            exact Yield.load rfl e3 (M6.out.ext hl).ldR ⟨Ext.refl _, rfl⟩
          · intro ev wy hp hl hk hd
            have f40 : (fun (v : Value) (w : World) => IsMsg w v m) (ev (.tmp 40)) wy := hk 40 (by decide)
            generalize hx40 : ev (.tmp 40) = x40 at *
            have e41 : ev (.tmp 41) = .agg (msgCells m rt et sv dv) := hk 41 (by decide)
            clear hk
            refine ⟨fun _ _ _ => ?_, fun _ hx hne => absurd hx hne⟩
            clear hd
            refine Yield.call rfl hp Tryz.func18 rfl (by kernel_rfl) ?_
            simp only [List.map_toArray, List.map_cons, List.map_nil, hx40, e41]
            exact ((Msg.alike_self m ▸ refSame7_any _ _ m m _ f40 (M6.out.ext hl).isMsg)).mono fun _ _ ⟨he, hb⟩ => ⟨_, he, hb, by first | rfl | simp⟩
          · intro ev wy hp hl hk hd
            have e42 : ev (.tmp 42) = .bool true := hk 42 (by decide)
            clear hk
            refine ⟨fun _ _ _ => ?_, fun _ hx hne => absurd hx hne⟩
            clear hd
            exact Yield.op (v := .bool false) (w' := wy) (by simp [execOp, go_sem, e42]) ⟨Ext.refl _, rfl⟩
          · intro ev wy hp hl hk hd
            have e38 : ev (.tmp 38) = .bool false := hk 38 (by decide)
            have e43 : ev (.tmp 43) = .bool false := hk 43 (by decide)
            clear hk hd
            exact Yield.pick (t := false) rfl e38 ⟨Ext.refl _, e43⟩
        · intro vals wz hz hv
          have g36 : vals 0 = .int .i64 0 := hv 0 (by decide)
          have g37 : vals 1 = .bool false := hv 1 (by decide)
          have g38 : vals 2 = .bool false := hv 2 (by decide)
          have g39 : vals 3 = .agg (msgCells m (.slice x0 y0 z0) (.slice x1 y1 z1) (.slice x2 y2 z2) (.slice x3 y3 z3)) := hv 3 (by decide)
          have g40 : (fun (v : Value) (w : World) => IsMsg w v m) (vals 4) wz := hv 4 (by decide)
          have g41 : vals 5 = .agg (msgCells m rt et sv dv) := hv 5 (by decide)
          have g42 : vals 6 = .bool true := hv 6 (by decide)
          have g43 : vals 7 = .bool false := hv 7 (by decide)
          have g44 : vals 8 = .bool false := hv 8 (by decide)
          clear hv
          simp only [putAll, Act.put, List.setIfInBounds_toArray, List.set_cons_zero, List.set_cons_succ, g36, g37, g38, g39, g41, g42, g43, g44]
          clear g36
          clear g37
          clear g38
          clear g39
          generalize vals 4 = v40 at *
          clear g41
          clear g42
          clear g43
          clear g44
          obtain ⟨w7, hw7⟩ : ∃ w7, w7 = wz := ⟨_, rfl⟩
          rw [← hw7] at hz g40 ⊢
          clear hw7 g40
          have e7 := Lib.hid (e6.out.trans hz)
          have HE7 := Lib.hid ((HE34.out.trans HE46.out).trans hz)
          clear hz M6 N6 e6
          go_wp2_with fail
          refine (alive7_any _).mono ?_
          rintro e wv ⟨rfl, hEv⟩
          go_wp2_with fail
          go_ret
          exact ⟨rfl, e7.out.trans hEv⟩
      by_cases h2 : (N : Int) ≤ at'
      · skip
        go_wp2_with (refine ldMR (by rfl) _ rfl rfl M1.out ?_)
        refine (own7_any _ m _ M1.out.isMsg).mono ?_
        rintro e w2 ⟨u2, rfl, hu2, hE2⟩
        have M2 := Lib.hid (M1.out.ext hE2)
        have e2 := Lib.hid (e1.out.trans hE2)
        have HU2 := Lib.hid hu2
        clear hu2 hE2 M1 e1
        go_wp2_with fail
        refine (encode7_own u2 m _ HU2.out HR.out).mono ?_
        unfold OwnsEnc7
        rintro e w3 ⟨u3, rfl, ho3, hE3⟩
        obtain ⟨a1, n1, c1, rfl⟩ := ho3.isSlice
        have hn1 := ho3.bytes.len.1
        rw [HL.out] at hn1
        have hn1 := hn1.symm
        subst hn1
        have HO := Lib.hid ho3
        have HB1 := Lib.hid ho3.bytes
        have M3 := Lib.hid (M2.out.ext hE3)
        have e3 := Lib.hid (e2.out.trans hE3)
        clear ho3 hE3 M2
        go_wp2_with fail
        refine (decode7_enc _ m _ HR.out HB1.out).mono ?_
        rintro e w4 ⟨u4, rfl, hi4, hE4⟩
        have M4 := Lib.hid (M3.out.ext hE4)
        have e4 := Lib.hid (e3.out.trans hE4)
        obtain ⟨x0, y0, z0, x1, y1, z1, x2, y2, z2, x3, y3, z3, rfl, g1, g2, g3, g4⟩ := hi4.opened
        have G4 := Lib.hid (And.intro g1 (And.intro g2 (And.intro g3 g4)))
        have HE34 := Lib.hid hE4
        clear hi4 g1 g2 g3 g4 hE4 M3 e3
        go_wp2_with (first
          | (refine allocM (by rfl) rfl ?_; intro W5 q5 hat5 hE5 hq5)
          | (refine putM (m2 := m) (by rfl) _ _ rfl rfl rfl hat5.out ⟨_, _, _, rfl⟩ ⟨_, _, _, rfl⟩ ⟨_, _, _, rfl⟩ ⟨_, _, _, rfl⟩ ?_; intro W6 hat6 hB6))
        have hn5 := hq5.out
        have E46 : Ext w4 W6 := Below.trans (B := w4.heap.size) hE5.out (hB6.out.below (by omega) hE5.out.size)
        have M6 := Lib.hid (M4.out.ext E46)
        have e6 := Lib.hid (e4.out.trans E46)
        have HE46 := Lib.hid E46
        have N6 := Lib.hid (show Msg7 45 W6 q5 m (.slice x0 y0 z0) (.slice x1 y1 z1) (.slice x2 y2 z2) (.slice x3 y3 z3) from ⟨hat6.out, G4.out.1.below E46, G4.out.2.1.below E46, G4.out.2.2.1.below E46, G4.out.2.2.2.below E46⟩)
        clear hn5 E46 hat5 hE5 hq5 hat6 hB6 M4 e4
        refine wp_region_facts (by kernel_rfl) Ext (fun iop v w => match iop with
            | 0 => v = .int .i64 0
            | 1 => v = .bool false
            | 2 => v = .bool false
            | 3 => v = .agg (msgCells m (.slice x0 y0 z0) (.slice x1 y1 z1) (.slice x2 y2 z2) (.slice x3 y3 z3))
            | 4 => IsMsg w v m
            | 5 => v = .agg (msgCells m rt et sv dv)
            | 6 => v = .bool true
            | 7 => v = .bool false
            | _ => v = .bool false
            ) (by kernel_rfl) (fun _ _ _ h k => Ext.trans h k) (fun a => Ext.refl a) (Ext.drew _) ?_ ?_ ?_
        · intro iop v wa wb hF hL
          iterate 4 (rcases iop with _ | iop; exact hF)
          rcases iop with _ | iop; (first | exact hF | exact IsMsg.below hF hL)
          iterate 3 (rcases iop with _ | iop; exact hF)
          exact hF
        · refine Obls.cons ?_ (Obls.cons ?_ (Obls.cons ?_ (Obls.cons ?_ (Obls.cons ?_ (Obls.cons ?_ (Obls.cons ?_ (Obls.cons ?_ (Obls.cons ?_ (Obls.nil)))))))))
          · intro ev wy hp hl hk hd
            have e10 : ev (.tmp 10) = .int .i64 0 := hk 10 (by decide)
            clear hk hd
            exact Yield.mv rfl ⟨Ext.refl _, e10⟩
          · intro ev wy hp hl hk hd
            have e36 : ev (.tmp 36) = .int .i64 0 := hk 36 (by decide)
            clear hk hd
            exact Yield.op (v := .bool false) (w' := wy) (by simp [execOp, go_sem, e36, hp.const]) ⟨Ext.refl _, rfl⟩
          · intro ev wy hp hl hk hd
            have e37 : ev (.tmp 37) = .bool false := hk 37 (by decide)
            clear hk hd
            exact Yield.mv rfl ⟨Ext.refl _, e37⟩
          · intro ev wy hp hl hk hd
            have e9 : ev (.tmp 9) = .pointer (some ⟨q5, 0, none⟩) := hk 9 (by decide)
            clear hk
            refine ⟨fun _ _ _ => ?_, fun _ hx hne => absurd hx hne⟩
            clear hd
            exact Yield.load rfl e9 (N6.out.ext hl).ld ⟨Ext.refl _, rfl⟩
          · intro ev wy hp hl hk hd
            have e39 : ev (.tmp 39) = .agg (msgCells m (.slice x0 y0 z0) (.slice x1 y1 z1) (.slice x2 y2 z2) (.slice x3 y3 z3)) := hk 39 (by decide)
            clear hk
            refine ⟨fun _ _ _ => ?_, fun _ hx hne => absurd hx hne⟩
            clear hd
            refine Yield.call rfl hp Tryz.func19 rfl (by kernel_rfl) ?_
            simp only [List.map_toArray, List.map_cons, List.map_nil, e39]
            exact (plain7_any _ m _ (N6.out.ext hl).isMsg).mono fun e w' ⟨u, he, hu, hE⟩ => ⟨u, he, hE, hu⟩
          · intro ev wy hp hl hk hd
            have e3 : ev (.tmp 3) = .pointer (some ⟨q, 0, none⟩) := hk 3 (by decide)
            clear hk
            refine ⟨fun _ _ _ => ?_, fun _ hx hne => absurd hx hne⟩
            clear hd
            exact Yield.load rfl e3 (M6.out.ext hl).ldR ⟨Ext.refl _, rfl⟩
          · intro ev wy hp hl hk hd
            have f40 : (fun (v : Value) (w : World) => IsMsg w v m) (ev (.tmp 40)) wy := hk 40 (by decide)
            generalize hx40 : ev (.tmp 40) = x40 at *
            have e41 : ev (.tmp 41) = .agg (msgCells m rt et sv dv) := hk 41 (by decide)
            clear hk
            refine ⟨fun _ _ _ => ?_, fun _ hx hne => absurd hx hne⟩
            clear hd
            refine Yield.call rfl hp Tryz.func18 rfl (by kernel_rfl) ?_
            simp only [List.map_toArray, List.map_cons, List.map_nil, hx40, e41]
            exact ((Msg.alike_self m ▸ refSame7_any _ _ m m _ f40 (M6.out.ext hl).isMsg)).mono fun _ _ ⟨he, hb⟩ => ⟨_, he, hb, by first | rfl | simp⟩
          · intro ev wy hp hl hk hd
            have e42 : ev (.tmp 42) = .bool true := hk 42 (by decide)
            clear hk
            refine ⟨fun _ _ _ => ?_, fun _ hx hne => absurd hx hne⟩
            clear hd
            exact Yield.op (v := .bool false) (w' := wy) (by simp [execOp, go_sem, e42]) ⟨Ext.refl _, rfl⟩
          · intro ev wy hp hl hk hd
            have e38 : ev (.tmp 38) = .bool false := hk 38 (by decide)
            have e43 : ev (.tmp 43) = .bool false := hk 43 (by decide)
            clear hk hd
            exact Yield.pick (t := false) rfl e38 ⟨Ext.refl _, e43⟩
        · intro vals wz hz hv
          have g36 : vals 0 = .int .i64 0 := hv 0 (by decide)
          have g37 : vals 1 = .bool false := hv 1 (by decide)
          have g38 : vals 2 = .bool false := hv 2 (by decide)
          have g39 : vals 3 = .agg (msgCells m (.slice x0 y0 z0) (.slice x1 y1 z1) (.slice x2 y2 z2) (.slice x3 y3 z3)) := hv 3 (by decide)
          have g40 : (fun (v : Value) (w : World) => IsMsg w v m) (vals 4) wz := hv 4 (by decide)
          have g41 : vals 5 = .agg (msgCells m rt et sv dv) := hv 5 (by decide)
          have g42 : vals 6 = .bool true := hv 6 (by decide)
          have g43 : vals 7 = .bool false := hv 7 (by decide)
          have g44 : vals 8 = .bool false := hv 8 (by decide)
          clear hv
          simp only [putAll, Act.put, List.setIfInBounds_toArray, List.set_cons_zero, List.set_cons_succ, g36, g37, g38, g39, g41, g42, g43, g44]
          clear g36
          clear g37
          clear g38
          clear g39
          generalize vals 4 = v40 at *
          clear g41
          clear g42
          clear g43
          clear g44
          obtain ⟨w7, hw7⟩ : ∃ w7, w7 = wz := ⟨_, rfl⟩
          rw [← hw7] at hz g40 ⊢
          clear hw7 g40
          have e7 := Lib.hid (e6.out.trans hz)
          have HE7 := Lib.hid ((HE34.out.trans HE46.out).trans hz)
          clear hz M6 N6 e6
          go_wp2_with fail
          refine (alive7_any _).mono ?_
          rintro e wv ⟨rfl, hEv⟩
          go_wp2_with fail
          go_ret
          exact ⟨rfl, e7.out.trans hEv⟩
      by_cases h3 : turn < 1
      · skip
        go_wp2_with (refine ldMR (by rfl) _ rfl rfl M1.out ?_)
        refine (own7_any _ m _ M1.out.isMsg).mono ?_
        rintro e w2 ⟨u2, rfl, hu2, hE2⟩
        have M2 := Lib.hid (M1.out.ext hE2)
        have e2 := Lib.hid (e1.out.trans hE2)
        have HU2 := Lib.hid hu2
        clear hu2 hE2 M1 e1
        go_wp2_with fail
        refine (encode7_own u2 m _ HU2.out HR.out).mono ?_
        unfold OwnsEnc7
        rintro e w3 ⟨u3, rfl, ho3, hE3⟩
        obtain ⟨a1, n1, c1, rfl⟩ := ho3.isSlice
        have hn1 := ho3.bytes.len.1
        rw [HL.out] at hn1
        have hn1 := hn1.symm
        subst hn1
        have HO := Lib.hid ho3
        have HB1 := Lib.hid ho3.bytes
        have M3 := Lib.hid (M2.out.ext hE3)
        have e3 := Lib.hid (e2.out.trans hE3)
        clear ho3 hE3 M2
        go_wp2_with fail
        refine (decode7_enc _ m _ HR.out HB1.out).mono ?_
        rintro e w4 ⟨u4, rfl, hi4, hE4⟩
        have M4 := Lib.hid (M3.out.ext hE4)
        have e4 := Lib.hid (e3.out.trans hE4)
        obtain ⟨x0, y0, z0, x1, y1, z1, x2, y2, z2, x3, y3, z3, rfl, g1, g2, g3, g4⟩ := hi4.opened
        have G4 := Lib.hid (And.intro g1 (And.intro g2 (And.intro g3 g4)))
        have HE34 := Lib.hid hE4
        clear hi4 g1 g2 g3 g4 hE4 M3 e3
        go_wp2_with (first
          | (refine allocM (by rfl) rfl ?_; intro W5 q5 hat5 hE5 hq5)
          | (refine putM (m2 := m) (by rfl) _ _ rfl rfl rfl hat5.out ⟨_, _, _, rfl⟩ ⟨_, _, _, rfl⟩ ⟨_, _, _, rfl⟩ ⟨_, _, _, rfl⟩ ?_; intro W6 hat6 hB6))
        have hn5 := hq5.out
        have E46 : Ext w4 W6 := Below.trans (B := w4.heap.size) hE5.out (hB6.out.below (by omega) hE5.out.size)
        have M6 := Lib.hid (M4.out.ext E46)
        have e6 := Lib.hid (e4.out.trans E46)
        have HE46 := Lib.hid E46
        have N6 := Lib.hid (show Msg7 45 W6 q5 m (.slice x0 y0 z0) (.slice x1 y1 z1) (.slice x2 y2 z2) (.slice x3 y3 z3) from ⟨hat6.out, G4.out.1.below E46, G4.out.2.1.below E46, G4.out.2.2.1.below E46, G4.out.2.2.2.below E46⟩)
        clear hn5 E46 hat5 hE5 hq5 hat6 hB6 M4 e4
        refine wp_region_facts (by kernel_rfl) Ext (fun iop v w => match iop with
            | 0 => v = .int .i64 0
            | 1 => v = .bool false
            | 2 => v = .bool false
            | 3 => v = .agg (msgCells m (.slice x0 y0 z0) (.slice x1 y1 z1) (.slice x2 y2 z2) (.slice x3 y3 z3))
            | 4 => IsMsg w v m
            | 5 => v = .agg (msgCells m rt et sv dv)
            | 6 => v = .bool true
            | 7 => v = .bool false
            | _ => v = .bool false
            ) (by kernel_rfl) (fun _ _ _ h k => Ext.trans h k) (fun a => Ext.refl a) (Ext.drew _) ?_ ?_ ?_
        · intro iop v wa wb hF hL
          iterate 4 (rcases iop with _ | iop; exact hF)
          rcases iop with _ | iop; (first | exact hF | exact IsMsg.below hF hL)
          iterate 3 (rcases iop with _ | iop; exact hF)
          exact hF
        · refine Obls.cons ?_ (Obls.cons ?_ (Obls.cons ?_ (Obls.cons ?_ (Obls.cons ?_ (Obls.cons ?_ (Obls.cons ?_ (Obls.cons ?_ (Obls.cons ?_ (Obls.nil)))))))))
          · intro ev wy hp hl hk hd
            have e10 : ev (.tmp 10) = .int .i64 0 := hk 10 (by decide)
            clear hk hd
            exact Yield.mv rfl ⟨Ext.refl _, e10⟩
          · intro ev wy hp hl hk hd
            have e36 : ev (.tmp 36) = .int .i64 0 := hk 36 (by decide)
            clear hk hd
            exact Yield.op (v := .bool false) (w' := wy) (by simp [execOp, go_sem, e36, hp.const]) ⟨Ext.refl _, rfl⟩
          · intro ev wy hp hl hk hd
            have e37 : ev (.tmp 37) = .bool false := hk 37 (by decide)
            clear hk hd
            exact Yield.mv rfl ⟨Ext.refl _, e37⟩
          · intro ev wy hp hl hk hd
            have e9 : ev (.tmp 9) = .pointer (some ⟨q5, 0, none⟩) := hk 9 (by decide)
            clear hk
            refine ⟨fun _ _ _ => ?_, fun _ hx hne => absurd hx hne⟩
            clear hd
            exact Yield.load rfl e9 (N6.out.ext hl).ld ⟨Ext.refl _, rfl⟩
          · intro ev wy hp hl hk hd
            have e39 : ev (.tmp 39) = .agg (msgCells m (.slice x0 y0 z0) (.slice x1 y1 z1) (.slice x2 y2 z2) (.slice x3 y3 z3)) := hk 39 (by decide)
            clear hk
            refine ⟨fun _ _ _ => ?_, fun _ hx hne => absurd hx hne⟩
            clear hd
            refine Yield.call rfl hp Tryz.func19 rfl (by kernel_rfl) ?_
            simp only [List.map_toArray, List.map_cons, List.map_nil, e39]
            exact (plain7_any _ m _ (N6.out.ext hl).isMsg).mono fun e w' ⟨u, he, hu, hE⟩ => ⟨u, he, hE, hu⟩
          · intro ev wy hp hl hk hd
            have e3 : ev (.tmp 3) = .pointer (some ⟨q, 0, none⟩) := hk 3 (by decide)
            clear hk
            refine ⟨fun _ _ _ => ?_, fun _ hx hne => absurd hx hne⟩
            clear hd
            exact Yield.load rfl e3 (M6.out.ext hl).ldR ⟨Ext.refl _, rfl⟩
          · intro ev wy hp hl hk hd
            have f40 : (fun (v : Value) (w : World) => IsMsg w v m) (ev (.tmp 40)) wy := hk 40 (by decide)
            generalize hx40 : ev (.tmp 40) = x40 at *
            have e41 : ev (.tmp 41) = .agg (msgCells m rt et sv dv) := hk 41 (by decide)
            clear hk
            refine ⟨fun _ _ _ => ?_, fun _ hx hne => absurd hx hne⟩
            clear hd
            refine Yield.call rfl hp Tryz.func18 rfl (by kernel_rfl) ?_
            simp only [List.map_toArray, List.map_cons, List.map_nil, hx40, e41]
            exact ((Msg.alike_self m ▸ refSame7_any _ _ m m _ f40 (M6.out.ext hl).isMsg)).mono fun _ _ ⟨he, hb⟩ => ⟨_, he, hb, by first | rfl | simp⟩
          · intro ev wy hp hl hk hd
            have e42 : ev (.tmp 42) = .bool true := hk 42 (by decide)
            clear hk
            refine ⟨fun _ _ _ => ?_, fun _ hx hne => absurd hx hne⟩
            clear hd
            exact Yield.op (v := .bool false) (w' := wy) (by simp [execOp, go_sem, e42]) ⟨Ext.refl _, rfl⟩
          · intro ev wy hp hl hk hd
            have e38 : ev (.tmp 38) = .bool false := hk 38 (by decide)
            have e43 : ev (.tmp 43) = .bool false := hk 43 (by decide)
            clear hk hd
            exact Yield.pick (t := false) rfl e38 ⟨Ext.refl _, e43⟩
        · intro vals wz hz hv
          have g36 : vals 0 = .int .i64 0 := hv 0 (by decide)
          have g37 : vals 1 = .bool false := hv 1 (by decide)
          have g38 : vals 2 = .bool false := hv 2 (by decide)
          have g39 : vals 3 = .agg (msgCells m (.slice x0 y0 z0) (.slice x1 y1 z1) (.slice x2 y2 z2) (.slice x3 y3 z3)) := hv 3 (by decide)
          have g40 : (fun (v : Value) (w : World) => IsMsg w v m) (vals 4) wz := hv 4 (by decide)
          have g41 : vals 5 = .agg (msgCells m rt et sv dv) := hv 5 (by decide)
          have g42 : vals 6 = .bool true := hv 6 (by decide)
          have g43 : vals 7 = .bool false := hv 7 (by decide)
          have g44 : vals 8 = .bool false := hv 8 (by decide)
          clear hv
          simp only [putAll, Act.put, List.setIfInBounds_toArray, List.set_cons_zero, List.set_cons_succ, g36, g37, g38, g39, g41, g42, g43, g44]
          clear g36
          clear g37
          clear g38
          clear g39
          generalize vals 4 = v40 at *
          clear g41
          clear g42
          clear g43
          clear g44
          obtain ⟨w7, hw7⟩ : ∃ w7, w7 = wz := ⟨_, rfl⟩
          rw [← hw7] at hz g40 ⊢
          clear hw7 g40
          have e7 := Lib.hid (e6.out.trans hz)
          have HE7 := Lib.hid ((HE34.out.trans HE46.out).trans hz)
          clear hz M6 N6 e6
          go_wp2_with fail
          refine (alive7_any _).mono ?_
          rintro e wv ⟨rfl, hEv⟩
          go_wp2_with fail
          go_ret
          exact ⟨rfl, e7.out.trans hEv⟩
      by_cases h4 : 255 < turn
      · skip
        go_wp2_with (refine ldMR (by rfl) _ rfl rfl M1.out ?_)
        refine (own7_any _ m _ M1.out.isMsg).mono ?_
        rintro e w2 ⟨u2, rfl, hu2, hE2⟩
        have M2 := Lib.hid (M1.out.ext hE2)
        have e2 := Lib.hid (e1.out.trans hE2)
        have HU2 := Lib.hid hu2
        clear hu2 hE2 M1 e1
        go_wp2_with fail
        refine (encode7_own u2 m _ HU2.out HR.out).mono ?_
        unfold OwnsEnc7
        rintro e w3 ⟨u3, rfl, ho3, hE3⟩
        obtain ⟨a1, n1, c1, rfl⟩ := ho3.isSlice
        have hn1 := ho3.bytes.len.1
        rw [HL.out] at hn1
        have hn1 := hn1.symm
        subst hn1
        have HO := Lib.hid ho3
        have HB1 := Lib.hid ho3.bytes
        have M3 := Lib.hid (M2.out.ext hE3)
        have e3 := Lib.hid (e2.out.trans hE3)
        clear ho3 hE3 M2
        go_wp2_with fail
        refine (decode7_enc _ m _ HR.out HB1.out).mono ?_
        rintro e w4 ⟨u4, rfl, hi4, hE4⟩
        have M4 := Lib.hid (M3.out.ext hE4)
        have e4 := Lib.hid (e3.out.trans hE4)
        obtain ⟨x0, y0, z0, x1, y1, z1, x2, y2, z2, x3, y3, z3, rfl, g1, g2, g3, g4⟩ := hi4.opened
        have G4 := Lib.hid (And.intro g1 (And.intro g2 (And.intro g3 g4)))
        have HE34 := Lib.hid hE4
        clear hi4 g1 g2 g3 g4 hE4 M3 e3
        go_wp2_with (first
          | (refine allocM (by rfl) rfl ?_; intro W5 q5 hat5 hE5 hq5)
          | (refine putM (m2 := m) (by rfl) _ _ rfl rfl rfl hat5.out ⟨_, _, _, rfl⟩ ⟨_, _, _, rfl⟩ ⟨_, _, _, rfl⟩ ⟨_, _, _, rfl⟩ ?_; intro W6 hat6 hB6))
        have hn5 := hq5.out
        have E46 : Ext w4 W6 := Below.trans (B := w4.heap.size) hE5.out (hB6.out.below (by omega) hE5.out.size)
        have M6 := Lib.hid (M4.out.ext E46)
        have e6 := Lib.hid (e4.out.trans E46)
        have HE46 := Lib.hid E46
        have N6 := Lib.hid (show Msg7 45 W6 q5 m (.slice x0 y0 z0) (.slice x1 y1 z1) (.slice x2 y2 z2) (.slice x3 y3 z3) from ⟨hat6.out, G4.out.1.below E46, G4.out.2.1.below E46, G4.out.2.2.1.below E46, G4.out.2.2.2.below E46⟩)
        clear hn5 E46 hat5 hE5 hq5 hat6 hB6 M4 e4
        refine wp_region_facts (by kernel_rfl) Ext (fun iop v w => match iop with
            | 0 => v = .int .i64 0
            | 1 => v = .bool false
            | 2 => v = .bool false
            | 3 => v = .agg (msgCells m (.slice x0 y0 z0) (.slice x1 y1 z1) (.slice x2 y2 z2) (.slice x3 y3 z3))
            | 4 => IsMsg w v m
            | 5 => v = .agg (msgCells m rt et sv dv)
            | 6 => v = .bool true
            | 7 => v = .bool false
            | _ => v = .bool false
            ) (by kernel_rfl) (fun _ _ _ h k => Ext.trans h k) (fun a => Ext.refl a) (Ext.drew _) ?_ ?_ ?_
        · intro iop v wa wb hF hL
          iterate 4 (rcases iop with _ | iop; exact hF)
          rcases iop with _ | iop; (first | exact hF | exact IsMsg.below hF hL)
          iterate 3 (rcases iop with _ | iop; exact hF)
          exact hF
        · refine Obls.cons ?_ (Obls.cons ?_ (Obls.cons ?_ (Obls.cons ?_ (Obls.cons ?_ (Obls.cons ?_ (Obls.cons ?_ (Obls.cons ?_ (Obls.cons ?_ (Obls.nil)))))))))
          · intro ev wy hp hl hk hd
            have e10 : ev (.tmp 10) = .int .i64 0 := hk 10 (by decide)
            clear hk hd
            exact Yield.mv rfl ⟨Ext.refl _, e10⟩
          · intro ev wy hp hl hk hd
            have e36 : ev (.tmp 36) = .int .i64 0 := hk 36 (by decide)
            clear hk hd
            exact Yield.op (v := .bool false) (w' := wy) (by simp [execOp, go_sem, e36, hp.const]) ⟨Ext.refl _, rfl⟩
          · intro ev wy hp hl hk hd
            have e37 : ev (.tmp 37) = .bool false := hk 37 (by decide)
            clear hk hd
            exact Yield.mv rfl ⟨Ext.refl _, e37⟩
          · intro ev wy hp hl hk hd
            have e9 : ev (.tmp 9) = .pointer (some ⟨q5, 0, none⟩) := hk 9 (by decide)
            clear hk
            refine ⟨fun _ _ _ => ?_, fun _ hx hne => absurd hx hne⟩
            clear hd
            exact Yield.load rfl e9 (N6.out.ext hl).ld ⟨Ext.refl _, rfl⟩
          · intro ev wy hp hl hk hd
            have e39 : ev (.tmp 39) = .agg (msgCells m (.slice x0 y0 z0) (.slice x1 y1 z1) (.slice x2 y2 z2) (.slice x3 y3 z3)) := hk 39 (by decide)
            clear hk
            refine ⟨fun _ _ _ => ?_, fun _ hx hne => absurd hx hne⟩
            clear hd
            refine Yield.call rfl hp Tryz.func19 rfl (by kernel_rfl) ?_
            simp only [List.map_toArray, List.map_cons, List.map_nil, e39]
            exact (plain7_any _ m _ (N6.out.ext hl).isMsg).mono fun e w' ⟨u, he, hu, hE⟩ => ⟨u, he, hE, hu⟩
          · intro ev wy hp hl hk hd
            have e3 : ev (.tmp 3) = .pointer (some ⟨q, 0, none⟩) := hk 3 (by decide)
            clear hk
            refine ⟨fun _ _ _ => ?_, fun _ hx hne => absurd hx hne⟩
            clear hd
            exact Yield.load rfl e3 (M6.out.ext hl).ldR ⟨Ext.refl _, rfl⟩
          · intro ev wy hp hl hk hd
            have f40 : (fun (v : Value) (w : World) => IsMsg w v m) (ev (.tmp 40)) wy := hk 40 (by decide)
            generalize hx40 : ev (.tmp 40) = x40 at *
            have e41 : ev (.tmp 41) = .agg (msgCells m rt et sv dv) := hk 41 (by decide)
            clear hk
            refine ⟨fun _ _ _ => ?_, fun _ hx hne => absurd hx hne⟩
            clear hd
            refine Yield.call rfl hp Tryz.func18 rfl (by kernel_rfl) ?_
            simp only [List.map_toArray, List.map_cons, List.map_nil, hx40, e41]
            exact ((Msg.alike_self m ▸ refSame7_any _ _ m m _ f40 (M6.out.ext hl).isMsg)).mono fun _ _ ⟨he, hb⟩ => ⟨_, he, hb, by first | rfl | simp⟩
          · intro ev wy hp hl hk hd
            have e42 : ev (.tmp 42) = .bool true := hk 42 (by decide)
            clear hk
            refine ⟨fun _ _ _ => ?_, fun _ hx hne => absurd hx hne⟩
            clear hd
            exact Yield.op (v := .bool false) (w' := wy) (by simp [execOp, go_sem, e42]) ⟨Ext.refl _, rfl⟩
          · intro ev wy hp hl hk hd
            have e38 : ev (.tmp 38) = .bool false := hk 38 (by decide)
            have e43 : ev (.tmp 43) = .bool false := hk 43 (by decide)
            clear hk hd
            exact Yield.pick (t := false) rfl e38 ⟨Ext.refl _, e43⟩
        · intro vals wz hz hv
          have g36 : vals 0 = .int .i64 0 := hv 0 (by decide)
          have g37 : vals 1 = .bool false := hv 1 (by decide)
          have g38 : vals 2 = .bool false := hv 2 (by decide)
          have g39 : vals 3 = .agg (msgCells m (.slice x0 y0 z0) (.slice x1 y1 z1) (.slice x2 y2 z2) (.slice x3 y3 z3)) := hv 3 (by decide)
          have g40 : (fun (v : Value) (w : World) => IsMsg w v m) (vals 4) wz := hv 4 (by decide)
          have g41 : vals 5 = .agg (msgCells m rt et sv dv) := hv 5 (by decide)
          have g42 : vals 6 = .bool true := hv 6 (by decide)
          have g43 : vals 7 = .bool false := hv 7 (by decide)
          have g44 : vals 8 = .bool false := hv 8 (by decide)
          clear hv
          simp only [putAll, Act.put, List.setIfInBounds_toArray, List.set_cons_zero, List.set_cons_succ, g36, g37, g38, g39, g41, g42, g43, g44]
          clear g36
          clear g37
          clear g38
          clear g39
          generalize vals 4 = v40 at *
          clear g41
          clear g42
          clear g43
          clear g44
          obtain ⟨w7, hw7⟩ : ∃ w7, w7 = wz := ⟨_, rfl⟩
          rw [← hw7] at hz g40 ⊢
          clear hw7 g40
          have e7 := Lib.hid (e6.out.trans hz)
          have HE7 := Lib.hid ((HE34.out.trans HE46.out).trans hz)
          clear hz M6 N6 e6
          go_wp2_with fail
          refine (alive7_any _).mono ?_
          rintro e wv ⟨rfl, hEv⟩
          go_wp2_with fail
          go_ret
          exact ⟨rfl, e7.out.trans hEv⟩
      obtain ⟨k, rfl⟩ : ∃ k : Nat, at' = (k : Int) := ⟨at'.toNat, by omega⟩
      obtain ⟨t, ht, htn⟩ : ∃ t : UInt8, turn = (t.toNat : Int) ∧ t ≠ 0 := by
        refine ⟨UInt8.ofNat turn.toNat, ?_, ?_⟩
        · rw [u8_ofNat]; omega
        · intro e
          have := congrArg UInt8.toNat e
          simp at this
          omega
      subst ht
      have hk : k < N := by omega
      have hkL : k < L.length := by rw [HN.out]; exact hk
      go_wp2_with (refine ldMR (by rfl) _ rfl rfl M1.out ?_)
      refine (own7_any _ m _ M1.out.isMsg).mono ?_
      rintro e w2 ⟨u2, rfl, hu2, hE2⟩
      have M2 := Lib.hid (M1.out.ext hE2)
      have e2 := Lib.hid (e1.out.trans hE2)
      have HU2 := Lib.hid hu2
      clear hu2 hE2 M1 e1
      go_wp2_with fail
      refine (encode7_own u2 m _ HU2.out HR.out).mono ?_
      unfold OwnsEnc7
      rintro e w3 ⟨u3, rfl, ho3, hE3⟩
      obtain ⟨a1, n1, c1, rfl⟩ := ho3.isSlice
      have hn1 := ho3.bytes.len.1
      rw [HL.out] at hn1
      have hn1 := hn1.symm
      subst hn1
      have HO := Lib.hid ho3
      have HB1 := Lib.hid ho3.bytes
      have M3 := Lib.hid (M2.out.ext hE3)
      have e3 := Lib.hid (e2.out.trans hE3)
      clear ho3 hE3 M2
      go_wp2_with fail
      refine (decode7_enc _ m _ HR.out HB1.out).mono ?_
      rintro e w4 ⟨u4, rfl, hi4, hE4⟩
      have M4 := Lib.hid (M3.out.ext hE4)
      have e4 := Lib.hid (e3.out.trans hE4)
      obtain ⟨x0, y0, z0, x1, y1, z1, x2, y2, z2, x3, y3, z3, rfl, g1, g2, g3, g4⟩ := hi4.opened
      have G4 := Lib.hid (And.intro g1 (And.intro g2 (And.intro g3 g4)))
      have HE34 := Lib.hid hE4
      clear hi4 g1 g2 g3 g4 hE4 M3 e3
      go_wp2_with (first
        | (refine allocM (by rfl) rfl ?_; intro W5 q5 hat5 hE5 hq5)
        | (refine putM (m2 := m) (by rfl) _ _ rfl rfl rfl hat5.out ⟨_, _, _, rfl⟩ ⟨_, _, _, rfl⟩ ⟨_, _, _, rfl⟩ ⟨_, _, _, rfl⟩ ?_; intro W6 hat6 hB6))
      have hn5 := hq5.out
      have E46 : Ext w4 W6 := Below.trans (B := w4.heap.size) hE5.out (hB6.out.below (by omega) hE5.out.size)
      have M6 := Lib.hid (M4.out.ext E46)
      have e6 := Lib.hid (e4.out.trans E46)
      have HE46 := Lib.hid E46
      have N6 := Lib.hid (show Msg7 45 W6 q5 m (.slice x0 y0 z0) (.slice x1 y1 z1) (.slice x2 y2 z2) (.slice x3 y3 z3) from ⟨hat6.out, G4.out.1.below E46, G4.out.2.1.below E46, G4.out.2.2.1.below E46, G4.out.2.2.2.below E46⟩)
      clear hn5 E46 hat5 hE5 hq5 hat6 hB6 M4 e4
      refine wp_region_facts (by kernel_rfl) Ext (fun iop v w => match iop with
          | 0 => v = .int .i64 0
          | 1 => v = .bool false
          | 2 => v = .bool false
          | 3 => v = .agg (msgCells m (.slice x0 y0 z0) (.slice x1 y1 z1) (.slice x2 y2 z2) (.slice x3 y3 z3))
          | 4 => IsMsg w v m
          | 5 => v = .agg (msgCells m rt et sv dv)
          | 6 => v = .bool true
          | 7 => v = .bool false
          | _ => v = .bool false
          ) (by kernel_rfl) (fun _ _ _ h k => Ext.trans h k) (fun a => Ext.refl a) (Ext.drew _) ?_ ?_ ?_
      · intro iop v wa wb hF hL
        iterate 4 (rcases iop with _ | iop; exact hF)
        rcases iop with _ | iop; (first | exact hF | exact IsMsg.below hF hL)
        iterate 3 (rcases iop with _ | iop; exact hF)
        exact hF
      · refine Obls.cons ?_ (Obls.cons ?_ (Obls.cons ?_ (Obls.cons ?_ (Obls.cons ?_ (Obls.cons ?_ (Obls.cons ?_ (Obls.cons ?_ (Obls.cons ?_ (Obls.nil)))))))))
        · intro ev wy hp hl hk hd
          have e10 : ev (.tmp 10) = .int .i64 0 := hk 10 (by decide)
          clear hk hd
          exact Yield.mv rfl ⟨Ext.refl _, e10⟩
        · intro ev wy hp hl hk hd
          have e36 : ev (.tmp 36) = .int .i64 0 := hk 36 (by decide)
          clear hk hd
          exact Yield.op (v := .bool false) (w' := wy) (by simp [execOp, go_sem, e36, hp.const]) ⟨Ext.refl _, rfl⟩
        · intro ev wy hp hl hk hd
          have e37 : ev (.tmp 37) = .bool false := hk 37 (by decide)
          clear hk hd
          exact Yield.mv rfl ⟨Ext.refl _, e37⟩
        · intro ev wy hp hl hk hd
          have e9 : ev (.tmp 9) = .pointer (some ⟨q5, 0, none⟩) := hk 9 (by decide)
          clear hk
          refine ⟨fun _ _ _ => ?_, fun _ hx hne => absurd hx hne⟩
          clear hd
          exact Yield.load rfl e9 (N6.out.ext hl).ld ⟨Ext.refl _, rfl⟩
        · intro ev wy hp hl hk hd
          have e39 : ev (.tmp 39) = .agg (msgCells m (.slice x0 y0 z0) (.slice x1 y1 z1) (.slice x2 y2 z2) (.slice x3 y3 z3)) := hk 39 (by decide)
          clear hk
          refine ⟨fun _ _ _ => ?_, fun _ hx hne => absurd hx hne⟩
          clear hd
          refine Yield.call rfl hp Tryz.func19 rfl (by kernel_rfl) ?_
          simp only [List.map_toArray, List.map_cons, List.map_nil, e39]
          exact (plain7_any _ m _ (N6.out.ext hl).isMsg).mono fun e w' ⟨u, he, hu, hE⟩ => ⟨u, he, hE, hu⟩
        · intro ev wy hp hl hk hd
          have e3 : ev (.tmp 3) = .pointer (some ⟨q, 0, none⟩) := hk 3 (by decide)
          clear hk
          refine ⟨fun _ _ _ => ?_, fun _ hx hne => absurd hx hne⟩
          clear hd
          exact Yield.load rfl e3 (M6.out.ext hl).ldR ⟨Ext.refl _, rfl⟩
        · intro ev wy hp hl hk hd
          have f40 : (fun (v : Value) (w : World) => IsMsg w v m) (ev (.tmp 40)) wy := hk 40 (by decide)
          generalize hx40 : ev (.tmp 40) = x40 at *
          have e41 : ev (.tmp 41) = .agg (msgCells m rt et sv dv) := hk 41 (by decide)
          clear hk
          refine ⟨fun _ _ _ => ?_, fun _ hx hne => absurd hx hne⟩
          clear hd
          refine Yield.call rfl hp Tryz.func18 rfl (by kernel_rfl) ?_
          simp only [List.map_toArray, List.map_cons, List.map_nil, hx40, e41]
          exact ((Msg.alike_self m ▸ refSame7_any _ _ m m _ f40 (M6.out.ext hl).isMsg)).mono fun _ _ ⟨he, hb⟩ => ⟨_, he, hb, by first | rfl | simp⟩
        · intro ev wy hp hl hk hd
          have e42 : ev (.tmp 42) = .bool true := hk 42 (by decide)
          clear hk
          refine ⟨fun _ _ _ => ?_, fun _ hx hne => absurd hx hne⟩
          clear hd
          exact Yield.op (v := .bool false) (w' := wy) (by simp [execOp, go_sem, e42]) ⟨Ext.refl _, rfl⟩
        · intro ev wy hp hl hk hd
          have e38 : ev (.tmp 38) = .bool false := hk 38 (by decide)
          have e43 : ev (.tmp 43) = .bool false := hk 43 (by decide)
          clear hk hd
          exact Yield.pick (t := false) rfl e38 ⟨Ext.refl _, e43⟩
      · intro vals wz hz hv
        have g36 : vals 0 = .int .i64 0 := hv 0 (by decide)
        have g37 : vals 1 = .bool false := hv 1 (by decide)
        have g38 : vals 2 = .bool false := hv 2 (by decide)
        have g39 : vals 3 = .agg (msgCells m (.slice x0 y0 z0) (.slice x1 y1 z1) (.slice x2 y2 z2) (.slice x3 y3 z3)) := hv 3 (by decide)
        have g40 : (fun (v : Value) (w : World) => IsMsg w v m) (vals 4) wz := hv 4 (by decide)
        have g41 : vals 5 = .agg (msgCells m rt et sv dv) := hv 5 (by decide)
        have g42 : vals 6 = .bool true := hv 6 (by decide)
        have g43 : vals 7 = .bool false := hv 7 (by decide)
        have g44 : vals 8 = .bool false := hv 8 (by decide)
        clear hv
        simp only [putAll, Act.put, List.setIfInBounds_toArray, List.set_cons_zero, List.set_cons_succ, g36, g37, g38, g39, g41, g42, g43, g44]
        clear g36
        clear g37
        clear g38
        clear g39
        generalize vals 4 = v40 at *
        clear g41
        clear g42
        clear g43
        clear g44
        obtain ⟨w7, hw7⟩ : ∃ w7, w7 = wz := ⟨_, rfl⟩
        rw [← hw7] at hz g40 ⊢
        clear hw7 g40
        have e7 := Lib.hid (e6.out.trans hz)
        have HE7 := Lib.hid ((HE34.out.trans HE46.out).trans hz)
        clear hz M6 N6 e6
        obtain ⟨g, cap, e1⟩ : ∃ g cap, Value.slice a1 N c1 = .slice (some ⟨g, 0, none⟩) N cap := by
          rcases HO.out.2 with ⟨_, h0⟩ | ⟨g, cap, _, h, _⟩
          · rw [HL.out] at h0; omega
          · rw [HL.out] at h; exact ⟨g, cap, h⟩
        injection e1 with e1 _ e2x
        subst e1 e2x
        have hown : w7.ownsRow w2.heap.size 5 1 (.slice (some ⟨g, 0, none⟩) N c1) N (u8s L) := by
          have := rowExt HO.out HE7.out
          rw [HL.out, HLL.out] at this
          exact this
        have hgg := hown.lt g rfl
        have hcell : w7.cell? ⟨g, k, none⟩ = some (.int .u8 (L[k].toNat : Int)) := by
          rw [hown.cellAt k (by omega)]
          simp [u8s, hkL]
        have hfz := hown.frozenAt k
        obtain ⟨x, hx⟩ : ∃ x, L[k] ^^^ t = x := ⟨_, rfl⟩
        have hbit : bits .xor .u8 (L[k].toNat : Int) (t.toNat : Int) = (x.toNat : Int) := by
          rw [u8_xor_nat _ _ (UInt8.toNat_lt _) (UInt8.toNat_lt _), ← hx, UInt8.toNat_xor]
        have hnat : ((L[k].toNat ^^^ t.toNat : Nat) : Int) = (x.toNat : Int) := by rw [← hx, UInt8.toNat_xor]
        have hwr : IntKind.u8.wrap (t.toNat : Int) = (t.toNat : Int) := by
          rw [IntKind.wrap_u8']
          have := t.toNat_lt
          omega
        have hxo : x ≠ L[k] := by rw [← hx]; exact xorOther _ _ htn
        have hcn := HCUT.out k x hkL hxo
        have HST := Lib.hid (hown.stored k (.int .u8 (x.toNat : Int))).1
        have HCN := Lib.hid hcn
        have hlen : (L.set k x).length ≤ 200000 := by rw [List.length_set, HN.out]; omega
        have hww := e2.out.size
        have E2 : Ext W (w7.setCell ⟨g, k, none⟩ (.int .u8 (x.toNat : Int))) := Below.setCell e7.out (p := ⟨g, k, none⟩) (by show W.heap.size ≤ g; omega) _
        clear hown hx hcn hxo
        have hby : Bytes (w7.setCell ⟨g, k, none⟩ (.int .u8 (x.toNat : Int))) (.slice (some ⟨g, 0, none⟩) N c1) (L.set k x) := by
          unfold Bytes
          rw [u8sSet]
          exact Sl.ofOwn HST.out
        have HBY := Lib.hid hby
        clear hby
        go_wp2_with fail
        generalize hw8 : w7.setCell ⟨g, k, none⟩ (.int .u8 (x.toNat : Int)) = w8 at *
        clear hw8 HST hcell hfz
        have hdn := decode7_any _ (L.set k x) w8 HBY.out hlen
        rw [Msg.By.dec_cut (vd := Ent.vd) HCN.out] at hdn
        refine hdn.mono ?_
        clear hdn
        rintro e w9 ⟨u9, rfl, hi9, hE9⟩
        have hi9' : IsMsg w9 u9 Msg.none0 := hi9
        obtain ⟨p0, p1, p2, p3, p4, p5, p6, p7, p8, p9, r0, r1, rfl, _⟩ := hi9'.opened
        have h70 : errOf7 none = 70 := rfl
        have E9 := Lib.hid (Ext.trans E2 hE9)
        clear hi9 hi9' hE9 E2
        go_wp2_with (first
          | (refine allocM (by rfl) rfl ?_; intro WA qa hata hEa hqa)
          | (refine putM (m2 := Msg.none0) (by rfl) _ _ rfl rfl rfl hata.out ⟨_, _, _, rfl⟩ ⟨_, _, _, rfl⟩ ⟨_, _, _, rfl⟩ ⟨_, _, _, rfl⟩ ?_; intro WB hatb hBb))
        have hna := hqa.out
        have EB : Ext w9 WB := Below.trans (B := w9.heap.size) hEa.out (hBb.out.below (by omega) hEa.out.size)
        have eB := Lib.hid (E9.out.trans EB)
        clear hna EB
        refine (alive7_any _).mono ?_
        rintro e wv ⟨rfl, hEv⟩
        go_wp2_with fail
        go_ret
        exact ⟨rfl, eB.out.trans hEv⟩

namespace messageBack
theorem own : ownKnob Tryz.prog.godebug = none := by kernel_rfl
theorem laidOut : laidOutB Tryz.prog = true := by kernel_rfl
set_option linter.unusedVariables false in
set_option maxRecDepth 100000 in
theorem lifted (os : Os) (started : os.Started) (H : Type) (enc : TypeId × Value → H) :
    ReturnsInHanded {} Tryz.checked os 5 .any (Rows.messageBackSpec.pre6 enc Tryz.prog Tryz.f5 Rows.messageBackRow.domain false) (Rows.messageBackSpec.post enc Tryz.prog Tryz.f5 false true false false) := by
  refine returnsInHanded_of_change_sized (C := Tryz.checked) own started (by kernel_rfl) Tryz.func5
    (ChangeSpec.witness6 (enc := enc) (C := Tryz.checked) false ⟨#[], #[.agg #[.int .i64 0, .int .i64 0, .int .i64 0, .int .i64 0, .int .i64 0, .int .i64 0, .bool false, .int .i64 0, .int .i64 0, .slice none 0 0, .string ByteArray.empty, .int .i64 0, .int .i64 0, .slice none 0 0, .int .i64 0, .int .i64 0, .int .i64 0, .int .i64 0, .int .i64 0, .int .i64 0, .slice none 0 0, .slice none 0 0], .int .i64 0, .int .i64 0], []⟩ 8 (by kernel_rfl) (by kernel_rfl) (by kernel_rfl) (by kernel_rfl)) ?_
  intro W base args ds gs before hval0 hW hcnd hsz _
  have hval : ∀ (j : Nat) t v, Tryz.f5.params[j]? = some t → args[j]? = some v → Value.okWide Tryz.prog W .any base t v := hval0
  have hW' := hW
  obtain ⟨p, q, hA0, hV, rfl, hfz, hnd⟩ := hW'
  have hA : DataW.TrodAll enc Tryz.prog W 0 (fun _ => true) true Tryz.f5.params.toList args.toList ds p := hA0
  rw [Tryz.params5] at hA hval
  obtain ⟨v0, vs0, d0, ds0, p0, q0, hargs, rfl, rfl, h0, r0⟩ := trodAll_cons hA
  obtain ⟨v1, vs1, d1, ds1, p1, q1, rfl, rfl, rfl, h1, r1⟩ := trodAll_cons r0
  obtain ⟨v2, vs2, d2, ds2, p2, q2, rfl, rfl, rfl, h2, r2⟩ := trodAll_cons r1
  obtain ⟨rfl, rfl, rfl⟩ := trodAll_nil r2
  obtain rfl : args = #[v0, v1, v2] := by cases args; simp_all
  obtain ⟨rfl, rfl⟩ := trodVars_none hV
  have k0 := h0
  have lt0 : ∀ x ∈ p0, x.block < W.heap.size := by obtain ⟨m, hm⟩ := k0; exact DataW.trod_lt m _ _ _ hm
  obtain ⟨l0, w0⟩ := msg_arg (hval 0 35 v0 rfl rfl) h0
  have k1 := h1
  have lt1 : ∀ x ∈ p1, x.block < W.heap.size := by obtain ⟨m, hm⟩ := k1; exact DataW.trod_lt m _ _ _ hm
  obtain ⟨a1, rfl, _, _, w1⟩ := open_int Tryz.underlying3 (hval 1 3 v1 rfl rfl) h1
  have k2 := h2
  have lt2 : ∀ x ∈ p2, x.block < W.heap.size := by obtain ⟨m, hm⟩ := k2; exact DataW.trod_lt m _ _ _ hm
  obtain ⟨a2, rfl, _, _, w2⟩ := open_int Tryz.underlying3 (hval 2 3 v2 rfl rfl) h2
  clear hA0 hval0
  refine (messageBack_walk _ l0 _ _ W w0).mono fun e W' ⟨he, bel⟩ => ?_
  subst he
  exact ⟨_, rfl, _, _, _, [], _, [], hW, trodAll_mk1 (shut_bool Tryz.underlying4 _), (trodAll_cons_mk (Below.trod laidOut (by kernel_rfl) (of_decide_eq_true (by kernel_rfl)) k0 bel lt0) (trodAll_cons_mk (Below.trod laidOut (by kernel_rfl) (of_decide_eq_true (by kernel_rfl)) k1 bel lt1) (trodAll_cons_mk (Below.trod laidOut (by kernel_rfl) (of_decide_eq_true (by kernel_rfl)) k2 bel lt2) trodAll_mk0))), rfl, bel.frame _, fun h => by cases h⟩
theorem over : Rows.messageBackRow.holds Tryz.pinned (OpenSpec.ofChange Rows.messageBackSpec) :=
  OpenClaim.holds_of_wide 5 Tryz.f5 rfl rfl rfl rfl rfl rfl rfl ⟨rfl, rfl, rfl, rfl, rfl⟩ rfl rfl rfl rfl rfl (by kernel_rfl) Tryz.func5 (by kernel_rfl)
    (of_decide_eq_true (by kernel_rfl)) (by unfold Func.isWrapper; first | (rw [if_pos (by decide +kernel)]; kernel_rfl) | (rw [if_neg (by decide +kernel)]; exact ⟨rfl, rfl⟩))
    (fun os started H enc _ => lifted os started H enc)
theorem proved : Rows.MessageBackSaid := over
end messageBack
end Go.Proofs.YtldfpklgbedgjaaGreat
