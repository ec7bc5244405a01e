/-
  ShardTwo: two nodes that serve one shard have, number by number, the same records, if the same are sent to both, whatever is lost: for every input the statement's function returns true, and leaves what came in as it was.
-/
import Derived.Test.YtnfieadjjmpnkaaGreatBsRec
import Derived.Test.YtnfieadjjmpnkaaGreatBsSh2
import Derived.Test.YtnfieadjjmpnkaaGreatBsVec
namespace Go.Proofs.YtnfieadjjmpnkaaGreat
set_option linter.unusedSimpArgs false
set_option linter.unusedVariables false
open Go.ChangeShapes Go.WideShapes Go.ChangeAt Go.RowKit

set_option maxRecDepth 100000 in
set_option maxHeartbeats 40000000 in
theorem shardTwo_walk (a : Option Addr) (n c : Nat) (l : List Rec.R) (a1 : Option Addr) (n1 c1 : Nat) (one : List Int) (a2 : Option Addr) (n2 c2 : Nat) (two : List Int) (W : World) (h0 : Recs W (.slice a n c) l) (h1 : Ints W (.slice a1 n1 c1) one) (h2 : Ints W (.slice a2 n2 c2) two) (hb1 : n1 ≤ 1152921504606846976) (hb2 : n2 ≤ 1152921504606846976) :
    Calls Tryz.prog 5 #[.slice a n c, .slice a1 n1 c1, .slice a2 n2 c2] W fun e W' => e = .returned (.bool true) ∧ Below W.heap.size W W' := by
  have hl0 : l.length = n ∧ n ≤ c ∧ c ≤ 9223372036854775807 := by
    obtain ⟨_, _, e, h1, h2, _⟩ := h0
    injection e with e1 e2 e3
    subst e3
    unfold maxLen at h2
    omega
  obtain ⟨hln, hnc, hc9⟩ := hl0
  have HLN := Lib.hid (And.intro hln (And.intro h1.len.1 h2.len.1))
  have HL := Lib.hid h0
  have H1 := Lib.hid h1
  have H2 := Lib.hid h2
  have HALIVE := Lib.hid shardAlive_any
  clear h0 h1 h2 hln
  go_enter Tryz.func5, Tryz.ntmps5
  go_wp2_with fail
  refine (newN_any 1 W (fun _ => 0) (fun k hk => absurd rfl hk) 0 (by omega)).mono ?_
  rintro e w1 ⟨h, hE1⟩
  rcases h with ⟨xa, col1, rfl, hA1, _, hlo1, _, _⟩ | ⟨h, _⟩
  case inr => exact absurd (by decide) h
  have HA1 := Lib.hid (And.intro hA1 (And.intro hlo1 hE1))
  clear hA1 hlo1 hE1
  go_wp2_with fail
  refine (newN_any 2 w1 col1 HA1.out.1.cover 1 (by omega)).mono ?_
  rintro e w2 ⟨h, hE2⟩
  rcases h with ⟨xb, col2, rfl, hB2, ha2, hlo2, _, _⟩ | ⟨h, _⟩
  case inr => exact absurd (by decide) h
  have ht2 : Two10 W W.heap.size xa w1.heap.size xb col2 (Shd.new 1) (Shd.new 2) w2 :=
    ⟨HA1.out.1.other (o' := 1) (TwS.ext hE2) (by omega) ha2 hB2.cover, hB2, HA1.out.2.2.trans hE2, fun k hk => (hlo2 k hk).elim (fun h => (HA1.out.2.1 k h).elim (fun h => absurd rfl h) id) (fun h => Nat.le_trans HA1.out.2.2.size h)⟩
  have HT2 := Lib.hid ht2
  clear hB2 ha2 hlo2 hE2 ht2 HA1
  obtain ⟨Bb, hBb⟩ : ∃ z, w1.heap.size = z := ⟨_, rfl⟩
  rw [hBb] at HT2
  clear hBb
  by_cases hbig : 40 < n ∨ 200 < n1 + n2
  · have g : (decide (40 < (n : Int)) = true) ∨ (decide (40 < (n : Int)) = false ∧ decide (200 < wrap64 ((n1 : Int) + (n2 : Int))) = true) := by
      rw [show wrap64 ((n1 : Int) + (n2 : Int)) = (n1 : Int) + (n2 : Int) from IntWalk.wrap64_in _ (by omega)]
      by_cases h : 40 < n
      · left; simp; omega
      · right
        refine ⟨by simp; omega, ?_⟩
        simp
        omega
    have HG := Lib.hid g
    have HBIG := Lib.hid hbig
    clear g hbig
    rcases HG.out with g1 | ⟨g1, g2⟩
    case' inr => have g3 : decide (200 < (n1 : Int) + (n2 : Int)) = true := by have := HBIG.out; simp at g1; simp; omega
    all_goals
      go_wp2_with fail
      refine (HALIVE.out w2).mono ?_
      rintro e w3 ⟨rfl, hE3⟩
      have HE3 := Lib.hid (HT2.out.ext.trans hE3)
      clear hE3
      go_wp2_with fail
      go_ret
      exact ⟨rfl, HE3.out⟩
  have hsm : n ≤ 40 ∧ n1 + n2 ≤ 200 := by omega
  have HSM := Lib.hid hsm
  have g1 : decide (40 < (n : Int)) = false := by simp; omega
  have g2 : decide (200 < wrap64 ((n1 : Int) + (n2 : Int))) = false := by
    rw [show wrap64 ((n1 : Int) + (n2 : Int)) = (n1 : Int) + (n2 : Int) from IntWalk.wrap64_in _ (by omega)]
    simp
    omega
  have g3 : decide (200 < (n1 : Int) + (n2 : Int)) = false := by simp; omega
  clear hbig hsm
  go_upto_region 6 with fail
  clear g1 g2 g3
  have htc := twoC_made w2
  obtain ⟨w3, hw3⟩ : ∃ z, ((w2.alloc (.cells #[.int .i64 0] 3)).alloc (.cells #[.int .i64 1, .int .i64 2] 3)).alloc (.cells #[.slice (some ⟨w2.heap.size + 1, 0, none⟩) 2 2] 25) = z := ⟨_, rfl⟩
  have hE3 : Ext w2 w3 := by rw [← hw3]; exact ((Ext.alloc _ _).trans (Ext.alloc _ _)).trans (Ext.alloc _ _)
  have hz3 : w3.heap.size = w2.heap.size + 1 + 1 + 1 := by rw [← hw3, World.size_alloc, World.size_alloc, World.size_alloc]
  rw [hw3] at htc ⊢
  obtain ⟨q2, hq2⟩ : ∃ z, w2.heap.size = z := ⟨_, rfl⟩
  rw [hq2] at htc hz3 ⊢
  obtain ⟨w4, hw4⟩ : ∃ z, w3.alloc (.cells #[.int .i64 1, .slice (some ⟨q2, 0, none⟩) 1 1, .slice (some ⟨q2 + 1 + 1, 0, none⟩) 1 1] 48) = z := ⟨_, rfl⟩
  have hE4 : Ext w3 w4 := by rw [← hw4]; exact Ext.alloc _ _
  have hcf : ConfAt 48 w4 (q2 + 1 + 1 + 1) 1 (.slice (some ⟨q2, 0, none⟩) 1 1) (.slice (some ⟨q2 + 1 + 1, 0, none⟩) 1 1) := by rw [← hw4, ← hz3]; exact ConfAt.new _ _ _ _ _
  rw [hw4]
  have ht4 := HT2.out.extend (hE3.trans hE4)
  have hst4 : Still w4 q2 col2 w4 := fun k h1 h2 => ⟨rfl, (HT2.out.new (q := k) (by rw [hq2]; exact h1)).1, h2⟩
  have htc4 : TwoC w4 q2 q2 (q2 + 1 + 1) := ⟨rowExt htc.1 hE4, htc.2.ext hE4⟩
  have HTC := Lib.hid htc4
  have HCF := Lib.hid hcf
  have HT4 := Lib.hid ht4
  have HST4 := Lib.hid hst4
  obtain ⟨z0, z1, z2⟩ := hcf.cells
  have hwq : W.heap.size ≤ q2 := by rw [← hq2]; exact HT2.out.ext.size
  have HWQ := Lib.hid hwq
  clear htc hE3 hz3 hw3 hq2 hE4 hw4 hcf ht4 hst4 htc4 hwq HT2
  go_wp2_with fail
  refine (serve10_any HT4.out.a (Shd.good_new 1).wf _ twoC (fun w' ht => HTC.out.conf (HST4.out.free ht))).mono ?_
  unfold GivesErr10
  rintro e w5 ⟨rfl, hl5⟩
  obtain ⟨col5, ht5, ha5, hs5⟩ := HT4.out.stepA hl5
  have HT5 := Lib.hid ht5
  have hst5 := HST4.out.step ha5 hs5 hl5.choose_spec.2.1.size
  have HST5 := Lib.hid hst5
  have HCF5 := Lib.hid (show ConfAt 48 w5 (q2 + 1 + 1 + 1) 1 _ _ from (hst5 (q2 + 1 + 1 + 1) (by omega) HCF.out.lt).1.trans HCF.out)
  obtain ⟨y0, y1, y2⟩ := HCF5.out.cells
  obtain ⟨na, hna⟩ : ∃ z, ((Shd.new 1).serve twoC).1 = z := ⟨_, rfl⟩
  have HNA := Lib.hid (show Shd.Inv na ∧ Shd.Only l na by rw [← hna]; exact ⟨(Shd.good_new 1).inv.serve _, Shd.only_serve (Shd.only_new l 1) _⟩)
  rw [hna] at HT5
  clear hl5 ht5 ha5 hs5 hst5 z0 z1 z2 HST4 HT4 HCF hna
  go_wp2_with fail
  refine (serve10_any HT5.out.b (Shd.good_new 2).wf _ twoC (fun w' ht => HTC.out.conf (HST5.out.free ht))).mono ?_
  unfold GivesErr10
  rintro e w6 ⟨rfl, hl6⟩
  obtain ⟨col6, ht6, ha6, hs6⟩ := HT5.out.stepB hl6
  have HT6 := Lib.hid ht6
  obtain ⟨nb, hnb⟩ : ∃ z, ((Shd.new 2).serve twoC).1 = z := ⟨_, rfl⟩
  have HNB := Lib.hid (show Shd.Inv nb ∧ Shd.Only l nb by rw [← hnb]; exact ⟨(Shd.good_new 2).inv.serve _, Shd.only_serve (Shd.only_new l 2) _⟩)
  rw [hnb] at HT6
  have hbm := build_twoM
  clear hl6 ht6 ha6 hs6 y0 y1 y2 HST5 HT5 HCF5 hnb
  go_wp2_with (first
    | (refine allocM (by rfl) rfl ?_; intro W7 tm hat7 hE7 hq7)
    | (refine putM (m2 := twoM 0 0 Msg.rec0) (r2 := .slice none 0 0) (e2 := .slice none 0 0) (s2 := .slice none 0 0) (d2 := .slice none 0 0) (by rfl) _ _ rfl rfl rfl hat7.out noSlice noSlice noSlice noSlice ?_; intro W8 hat8 hB8))
  have hq7b := HT6.out.new (q := tm) (Nat.le_of_eq hq7.out.symm)
  have hs8 := (HT6.out.extend hE7.out).but hB8.out hq7b.1 hq7b.2
  have HS8 := Lib.hid (show TwoS W W.heap.size xa Bb xb l tm W8 from ⟨col6, na, nb, 0, 0, Msg.rec0, .slice none 0 0, hs8, HNA.out.1, HNA.out.2, HNB.out.1, HNB.out.2, hat8.out, ints0 W, hq7b.1, hq7b.2⟩)
  clear hq7b hs8 hbm HT6 HNA HNB HTC HWQ
  go_loopw [14, 87] (fun _ i wr => ∃ j : Nat, j ≤ n1 ∧ i = .int .i64 j ∧ Hid (TwoS W W.heap.size xa Bb xb l tm wr)) (fun _ i _ => n1 - (intOf i).toNat)
  case atStart => exact ⟨0, by omega, rfl, HS8⟩
  case round =>
    obtain ⟨j, hj, rfl, HS⟩ := hrel
    by_cases hlt : j < n1
    · obtain ⟨col, na, nb, dst, num, r0, rt0, hT, i1, o1, i2, o2, hm, hr0, hc0, hw0⟩ := HS.out
      obtain ⟨b9, c9, e9, hc9', hm9, _, hcell⟩ := (H1.out.below hT.ext).open
      obtain ⟨vb, vo, hva, hcell⟩ := hcell j (by rw [← HLN.out.2.1]; exact hlt)
      injection e9 with e1 e2 e3
      rw [hva] at e1
      subst e1
      obtain ⟨y, hy⟩ : ∃ y, one[j]'(by rw [← HLN.out.2.1]; exact hlt) = y := ⟨_, rfl⟩
      rw [hy] at hcell
      have HT := Lib.hid (And.intro hT (And.intro i1 (And.intro o1 (And.intro i2 (And.intro o2 (And.intro hm (And.intro hr0 (And.intro hc0 hw0))))))))
      clear hT i1 o1 i2 o2 hm hr0 hc0 hw0 hc9' hm9 hva hy e2 e3
      by_cases hy0 : y < 0
      · have g1 : decide (0 ≤ y) = false := by simp; omega
        go_wp2_with fail
        go_roundw
        case rel => exact ⟨j + 1, by omega, by go_num, HS⟩
        case measure => simp [intOf]; omega
      have g1 : decide (0 ≤ y) = true := by simp; omega
      by_cases hyn : (n : Int) ≤ y
      · have g2 : decide (y < (n : Int)) = false := by simp; omega
        go_wp2_with fail
        go_roundw
        case rel => exact ⟨j + 1, by omega, by go_num, HS⟩
        case measure => simp [intOf]; omega
      have g2 : decide (y < (n : Int)) = true := by simp; omega
      obtain ⟨k, rfl⟩ : ∃ k : Nat, y = (k : Int) := ⟨y.toNat, by omega⟩
      have hkl : k < l.length := by rw [HLN.out.1]; omega
      have hkn : k < n := by omega
      go_upto_region 13 with fail
      obtain ⟨rb, ro, e8, hrh⟩ : ∃ rb ro, a = some ⟨rb, ro, none⟩ ∧ RecHere W rb (ro + k * 4) l[k] := by
        obtain ⟨a', cap', e, _, _, _, h9⟩ := HL.out
        injection e with e1 e2 e3
        subst e1
        exact h9 k hkl
      subst e8
      obtain ⟨r, hr⟩ : ∃ r, l[k] = r := ⟨_, rfl⟩
      rw [hr] at hrh
      have hrlt : rb < W.heap.size := by obtain ⟨t, h1, _⟩ := hrh; exact World.block_lt_of_cell? W _ h1
      have hne : ¬ rb = tm := by have := HT.out.2.2.2.2.2.2.2.2; omega
      obtain ⟨t9, p0, p1, p2, p3, ht9⟩ := hrh.below HT.out.1.ext
      obtain ⟨ta, tn, tc, rfl⟩ := ht9.isSlice
      have HTG := Lib.hid (show Ints W (.slice ta tn tc) r.tags by
        obtain ⟨t8, _, _, q2, _, ht8⟩ := hrh
        have := cellExt HT.out.1.ext q2
        rw [p2] at this
        injection this with this
        rw [this]; exact ht8)
      have hmd := HT.out.2.2.2.2.2.1
      have HMD := Lib.hid hmd
      have HR := Lib.hid (show ∃ h : k < l.length, l[k] = r from ⟨hkl, hr⟩)
      obtain ⟨m0, m1, m2, m3, m4, m5, m6⟩ := hmd.head
      obtain ⟨m7, m8, m9, m10⟩ := hmd.reco
      have mf := fun i => frozen_of_heap hmd i
      clear hmd hr hrh ht9 hcell g1 g2 hkl
      go_region
      obtain ⟨w10, hw10, hmt, hbt⟩ := HMD.out.fillTwo (dst := 1) (r := r) (rt := .slice ta tn tc) (k : Int)
      rw [hw10]
      have HT10 := Lib.hid ((HT.out.1.but hbt HT.out.2.2.2.2.2.2.2.1 HT.out.2.2.2.2.2.2.2.2).extend (Ext.drew w10))
      have hat10 := hmt.ext (Ext.drew w10)
      obtain ⟨w11, hw11⟩ : ∃ z, w10.drew = z := ⟨_, rfl⟩
      rw [hw11] at HT10 hat10 ⊢
      clear hw10 hmt hbt hw11 m0 m1 m2 m3 m4 m5 m6 m7 m8 m9 m10 mf p0 p1 p2 p3 hne hrlt
      go_wp2_with (refine ldA (by rfl) _ rfl rfl hat10 ?_)
      obtain ⟨hkl, hr⟩ := HR.out
      subst hr
      refine (twoTakeA HT10.out HT.out.2.1 HT.out.2.2.1 HT.out.2.2.2.1 HT.out.2.2.2.2.1 k hkl hat10 HTG.out HT.out.2.2.2.2.2.2.2.1 HT.out.2.2.2.2.2.2.2.2).mono ?_
      rintro e w12 ⟨⟨v12, rfl⟩, hs12⟩
      have HS12 := Lib.hid hs12
      clear hs12 hat10
      go_wp2_with fail
      go_roundw
      case rel => exact ⟨j + 1, by omega, by go_num, HS12⟩
      case measure => simp [intOf]; omega
    · obtain rfl : j = n1 := by omega
      go_wp2_with fail
      clear hlt hj
      go_loopw [16, 113] (fun _ i wr => ∃ j : Nat, j ≤ n2 ∧ i = .int .i64 j ∧ Hid (TwoS W W.heap.size xa Bb xb l tm wr)) (fun _ i _ => n2 - (intOf i).toNat)
      case atStart => exact ⟨0, by omega, rfl, HS⟩
      case round =>
        obtain ⟨j, hj, rfl, HS⟩ := hrel
        by_cases hlt : j < n2
        · obtain ⟨col, na, nb, dst, num, r0, rt0, hT, i1, o1, i2, o2, hm, hr0, hc0, hw0⟩ := HS.out
          obtain ⟨b9, c9, e9, hc9', hm9, _, hcell⟩ := (H2.out.below hT.ext).open
          obtain ⟨vb, vo, hva, hcell⟩ := hcell j (by rw [← HLN.out.2.2]; exact hlt)
          injection e9 with e1 e2 e3
          rw [hva] at e1
          subst e1
          obtain ⟨y, hy⟩ : ∃ y, two[j]'(by rw [← HLN.out.2.2]; exact hlt) = y := ⟨_, rfl⟩
          rw [hy] at hcell
          have HT := Lib.hid (And.intro hT (And.intro i1 (And.intro o1 (And.intro i2 (And.intro o2 (And.intro hm (And.intro hr0 (And.intro hc0 hw0))))))))
          clear hT i1 o1 i2 o2 hm hr0 hc0 hw0 hc9' hm9 hva hy e2 e3
          by_cases hy0 : y < 0
          · have g1 : decide (0 ≤ y) = false := by simp; omega
            go_wp2_with fail
            go_roundw
            case rel => exact ⟨j + 1, by omega, by go_num, HS⟩
            case measure => simp [intOf]; omega
          have g1 : decide (0 ≤ y) = true := by simp; omega
          by_cases hyn : (n : Int) ≤ y
          · have g2 : decide (y < (n : Int)) = false := by simp; omega
            go_wp2_with fail
            go_roundw
            case rel => exact ⟨j + 1, by omega, by go_num, HS⟩
            case measure => simp [intOf]; omega
          have g2 : decide (y < (n : Int)) = true := by simp; omega
          obtain ⟨k, rfl⟩ : ∃ k : Nat, y = (k : Int) := ⟨y.toNat, by omega⟩
          have hkl : k < l.length := by rw [HLN.out.1]; omega
          have hkn : k < n := by omega
          go_upto_region 20 with fail
          obtain ⟨rb, ro, e8, hrh⟩ : ∃ rb ro, a = some ⟨rb, ro, none⟩ ∧ RecHere W rb (ro + k * 4) l[k] := by
            obtain ⟨a', cap', e, _, _, _, h9⟩ := HL.out
            injection e with e1 e2 e3
            subst e1
            exact h9 k hkl
          subst e8
          obtain ⟨r, hr⟩ : ∃ r, l[k] = r := ⟨_, rfl⟩
          rw [hr] at hrh
          have hrlt : rb < W.heap.size := by obtain ⟨t, h1, _⟩ := hrh; exact World.block_lt_of_cell? W _ h1
          have hne : ¬ rb = tm := by have := HT.out.2.2.2.2.2.2.2.2; omega
          obtain ⟨t9, p0, p1, p2, p3, ht9⟩ := hrh.below HT.out.1.ext
          obtain ⟨ta, tn, tc, rfl⟩ := ht9.isSlice
          have HTG := Lib.hid (show Ints W (.slice ta tn tc) r.tags by
            obtain ⟨t8, _, _, q2, _, ht8⟩ := hrh
            have := cellExt HT.out.1.ext q2
            rw [p2] at this
            injection this with this
            rw [this]; exact ht8)
          have hmd := HT.out.2.2.2.2.2.1
          have HMD := Lib.hid hmd
          have HR := Lib.hid (show ∃ h : k < l.length, l[k] = r from ⟨hkl, hr⟩)
          obtain ⟨m0, m1, m2, m3, m4, m5, m6⟩ := hmd.head
          obtain ⟨m7, m8, m9, m10⟩ := hmd.reco
          have mf := fun i => frozen_of_heap hmd i
          clear hmd hr hrh ht9 hcell g1 g2 hkl
          go_region
          obtain ⟨w10, hw10, hmt, hbt⟩ := HMD.out.fillTwo (dst := 2) (r := r) (rt := .slice ta tn tc) (k : Int)
          rw [hw10]
          have HT10 := Lib.hid ((HT.out.1.but hbt HT.out.2.2.2.2.2.2.2.1 HT.out.2.2.2.2.2.2.2.2).extend (Ext.drew w10))
          have hat10 := hmt.ext (Ext.drew w10)
          obtain ⟨w11, hw11⟩ : ∃ z, w10.drew = z := ⟨_, rfl⟩
          rw [hw11] at HT10 hat10 ⊢
          clear hw10 hmt hbt hw11 m0 m1 m2 m3 m4 m5 m6 m7 m8 m9 m10 mf p0 p1 p2 p3 hne hrlt
          go_wp2_with (refine ldA (by rfl) _ rfl rfl hat10 ?_)
          obtain ⟨hkl, hr⟩ := HR.out
          subst hr
          refine (twoTakeB HT10.out HT.out.2.1 HT.out.2.2.1 HT.out.2.2.2.1 HT.out.2.2.2.2.1 k hkl hat10 HTG.out HT.out.2.2.2.2.2.2.2.1 HT.out.2.2.2.2.2.2.2.2).mono ?_
          rintro e w12 ⟨⟨v12, rfl⟩, hs12⟩
          have HS12 := Lib.hid hs12
          clear hs12 hat10
          go_wp2_with fail
          go_roundw
          case rel => exact ⟨j + 1, by omega, by go_num, HS12⟩
          case measure => simp [intOf]; omega
        · obtain rfl : j = n2 := by omega
          obtain ⟨wt, hwt⟩ : ∃ z, z = wr := ⟨_, rfl⟩
          subst hwt
          obtain ⟨col, na, nb, dst, num, r0, rt0, hT, i1, o1, i2, o2, hm, hr0, hc0, hw0⟩ := HS.out
          have HTT := Lib.hid (And.intro hT (And.intro o1 o2))
          have HE0 := Lib.hid (Ext.refl wt)
          clear hm hr0 hc0 hw0 i1 i2
          clear hT o1 o2
          go_wp2_with fail
          clear hlt hj HS
          go_loopw [17, 18, 19, 20, 21, 139] (fun _ _ _ _ _ i wq => ∃ m : Nat, m ≤ n ∧ i = .int .i64 m ∧ Hid (Ext wt wq)) (fun _ _ _ _ _ i _ => n - (intOf i).toNat)
          case atStart => exact ⟨0, by omega, rfl, HE0⟩
          case round =>
            obtain ⟨m, hm, rfl, HE⟩ := hrel
            by_cases hlt : m < n
            · have hml : m < l.length := by rw [HLN.out.1]; exact hlt
              obtain ⟨rb, ro, e8, hrh⟩ : ∃ rb ro, a = some ⟨rb, ro, none⟩ ∧ RecHere W rb (ro + m * 4) l[m] := by
                obtain ⟨a', cap', e, _, _, _, h9⟩ := HL.out
                injection e with e1 e2 e3
                subst e1
                exact h9 m hml
              subst e8
              obtain ⟨r, hr⟩ : ∃ r, l[m] = r := ⟨_, rfl⟩
              rw [hr] at hrh
              have HR := Lib.hid (show l[m]? = some r by rw [List.getElem?_eq_getElem hml, hr])
              have HRH := Lib.hid hrh
              have hra := read10_any ((HTT.out.1.extend HE.out).a) 1 0 (m : Int) (wfOf (by omega)) (wfOf (by omega)) (by omega)
              obtain ⟨ra, hra2⟩ : ∃ z, (na.read 1 0 (m : Int)).1 = z := ⟨_, rfl⟩
              obtain ⟨ea, hea2⟩ : ∃ z, (na.read 1 0 (m : Int)).2 = z := ⟨_, rfl⟩
              rw [hra2, hea2] at hra
              have HA := Lib.hid hra
              have HRA := Lib.hid (show ea = 0 → ra = r from fun h0 => by
                have := HTT.out.2.1.read 1 0 m (by rw [hea2]; exact h0)
                rw [hra2, HR.out] at this
                injection this with this
                exact this.symm)
              obtain ⟨rb2, hrb2⟩ : ∃ z, (nb.read 1 0 (m : Int)).1 = z := ⟨_, rfl⟩
              obtain ⟨eb, heb2⟩ : ∃ z, (nb.read 1 0 (m : Int)).2 = z := ⟨_, rfl⟩
              have hrb := fun wy (h : Ext wr wy) => read10_any ((HTT.out.1.extend (HE.out.trans h)).b) 1 0 (m : Int) (wfOf (by omega)) (wfOf (by omega)) (by omega)
              rw [hrb2, heb2] at hrb
              have HB := Lib.hid hrb
              have HRB := Lib.hid (show eb = 0 → rb2 = r from fun h0 => by
                have := HTT.out.2.2.read 1 0 m (by rw [heb2]; exact h0)
                rw [hrb2, HR.out] at this
                injection this with this
                exact this.symm)
              clear hr hrh hra hra2 hea2 hrb hrb2 heb2 hml
              go_wp2_with fail
              refine HA.out.mono ?_
              rintro e w5 ⟨xv, rfl, hxv, hE5⟩
              obtain ⟨xa1, xn1, xc1, rfl⟩ := hxv.ints.isSlice
              have HX := Lib.hid hxv.ints
              have HE5 := Lib.hid hE5
              simp only [recV]
              obtain ⟨x0, hx0⟩ : ∃ z : Int, ra.client = z := ⟨_, rfl⟩
              obtain ⟨x1, hx1⟩ : ∃ z : Int, ra.number = z := ⟨_, rfl⟩
              obtain ⟨x3, hx3⟩ : ∃ z : ByteArray, (⟨ra.data.toArray⟩ : ByteArray) = z := ⟨_, rfl⟩
              rw [hx0, hx1, hx3]
              have HX0 := Lib.hid (And.intro hx0 (And.intro hx1 hx3))
              clear hxv hE5 hx0 hx1 hx3
              go_wp2_with fail
              obtain ⟨w6, hw6⟩ : ∃ z, w5.alloc (.cells #[.int .i64 x0, .int .i64 x1, .slice xa1 xn1 xc1, .string x3] 27) = z := ⟨_, rfl⟩
              obtain ⟨p5, hp5⟩ : ∃ z, w5.heap.size = z := ⟨_, rfl⟩
              have hE6 : Ext w5 w6 := by rw [← hw6]; exact Ext.alloc _ _
              have hx6 : w6.heap[p5]? = some (.cells #[.int .i64 x0, .int .i64 x1, .slice xa1 xn1 xc1, .string x3] 27 (0, 0)) := by rw [← hw6, ← hp5]; exact heap_alloc_new _ _
              rw [hw6, hp5]
              have HX6 := Lib.hid hx6
              have HE6 := Lib.hid (HE5.out.trans hE6)
              have HXT := Lib.hid (HX.out.below hE6)
              clear hw6 hp5 hE6 hx6
              refine (HB.out w6 HE6.out).mono ?_
              rintro e w7 ⟨yv, rfl, hyv, hE7⟩
              obtain ⟨ya1, yn1, yc1, rfl⟩ := hyv.ints.isSlice
              have HY := Lib.hid hyv.ints
              have HE7 := Lib.hid hE7
              simp only [recV]
              obtain ⟨y0, hy0⟩ : ∃ z : Int, rb2.client = z := ⟨_, rfl⟩
              obtain ⟨y1, hy1⟩ : ∃ z : Int, rb2.number = z := ⟨_, rfl⟩
              obtain ⟨y3, hy3⟩ : ∃ z : ByteArray, (⟨rb2.data.toArray⟩ : ByteArray) = z := ⟨_, rfl⟩
              rw [hy0, hy1, hy3]
              have HY0 := Lib.hid (And.intro hy0 (And.intro hy1 hy3))
              clear hyv hE7 hy0 hy1 hy3
              go_upto_region 28 with fail
              obtain ⟨w8, hw8⟩ : ∃ z, w7.alloc (.cells #[.int .i64 y0, .int .i64 y1, .slice ya1 yn1 yc1, .string y3] 27) = z := ⟨_, rfl⟩
              obtain ⟨p7, hp7⟩ : ∃ z, w7.heap.size = z := ⟨_, rfl⟩
              have hE8 : Ext w7 w8 := by rw [← hw8]; exact Ext.alloc _ _
              have hx8 : w8.heap[p7]? = some (.cells #[.int .i64 y0, .int .i64 y1, .slice ya1 yn1 yc1, .string y3] 27 (0, 0)) := by rw [← hw8, ← hp7]; exact heap_alloc_new _ _
              rw [hw8, hp7]
              have HX7 := Lib.hid hx8
              have HX5 := Lib.hid (heap_ext HX6.out (HE7.out.trans hE8))
              have HE8 := Lib.hid (HE.out.trans ((HE6.out.trans HE7.out).trans hE8))
              have hWE : ∀ wy, Ext w8 wy → Ext W wy := fun wy h => (HTT.out.1.ext.trans HE8.out).trans h
              obtain ⟨r0', hr0'⟩ : ∃ z : Int, r.client = z := ⟨_, rfl⟩
              obtain ⟨r1', hr1'⟩ : ∃ z : Int, r.number = z := ⟨_, rfl⟩
              obtain ⟨r3', hr3'⟩ : ∃ z : ByteArray, (⟨r.data.toArray⟩ : ByteArray) = z := ⟨_, rfl⟩
              obtain ⟨rt', q0, q1, q2', q3, hrt'⟩ := HRH.out
              obtain ⟨ra1, rn1, rc1, rfl⟩ := hrt'.isSlice
              rw [hr0'] at q0
              rw [hr1'] at q1
              rw [hr3'] at q3
              have HRC := Lib.hid (fun wy (h : Ext w8 wy) => And.intro (cellExt (hWE wy h) q0) (And.intro (cellExt (hWE wy h) q1) (And.intro (cellExt (hWE wy h) q2') (cellExt (hWE wy h) q3))))
              have hri : ∀ wy, Ext w8 wy → IsRec wy (.agg #[.int .i64 r0', .int .i64 r1', .slice ra1 rn1 rc1, .string r3']) r := fun wy h => ⟨.slice ra1 rn1 rc1, by rw [← hr0', ← hr1', ← hr3']; rfl, hrt'.below (hWE wy h)⟩
              have hsa : ea = 0 → ∀ wy, Ext w8 wy → Calls Tryz.prog 22 #[.agg #[.int .i64 x0, .int .i64 x1, .slice xa1 xn1 xc1, .string x3], .agg #[.int .i64 r0', .int .i64 r1', .slice ra1 rn1 rc1, .string r3']] wy fun e w' => e = .returned (.bool true) ∧ Ext wy w' := fun h0 wy h => by
                have hxi : IsRec wy (.agg #[.int .i64 x0, .int .i64 x1, .slice xa1 xn1 xc1, .string x3]) ra := ⟨.slice xa1 xn1 xc1, by rw [← HX0.out.1, ← HX0.out.2.1, ← HX0.out.2.2]; rfl, HXT.out.below ((HE7.out.trans hE8).trans h)⟩
                have := refSame4_any _ _ ra r wy hxi (hri wy h)
                rw [HRA.out h0, (Rec.same_iff r r).2 rfl] at this
                exact this
              have hsb : eb = 0 → ∀ wy, Ext w8 wy → Calls Tryz.prog 22 #[.agg #[.int .i64 y0, .int .i64 y1, .slice ya1 yn1 yc1, .string y3], .agg #[.int .i64 r0', .int .i64 r1', .slice ra1 rn1 rc1, .string r3']] wy fun e w' => e = .returned (.bool true) ∧ Ext wy w' := fun h0 wy h => by
                have hyi : IsRec wy (.agg #[.int .i64 y0, .int .i64 y1, .slice ya1 yn1 yc1, .string y3]) rb2 := ⟨.slice ya1 yn1 yc1, by rw [← HY0.out.1, ← HY0.out.2.1, ← HY0.out.2.2]; rfl, HY.out.below (hE8.trans h)⟩
                have := refSame4_any _ _ rb2 r wy hyi (hri wy h)
                rw [HRB.out h0, (Rec.same_iff r r).2 rfl] at this
                exact this
              have HSA0 := Lib.hid hsa
              have HSB0 := Lib.hid hsb
              clear hw8 hp7 hE8 hx8 hWE hr0' hr1' hr3' q0 q1 q2' q3 hrt' hri hsa hsb
              by_cases hea : ea = 0
              · have HSA := Lib.hid (HSA0.out hea)
                by_cases heb : eb = 0
                · have HSB := Lib.hid (HSB0.out heb)
                  refine wp_region_facts (by kernel_rfl) Ext (fun iop v w => match iop with
                      | 0 => v = .int .i64 ea
                      | 1 => v = .bool true
                      | 2 => v = .bool true
                      | 3 => v = .agg #[.int .i64 x0, .int .i64 x1, .slice xa1 xn1 xc1, .string x3]
                      | 4 => v = .slice (some ⟨rb, ro, none⟩) n c
                      | 5 => v = .int .i64 (m : Int)
                      | 6 => v = .pointer (some ⟨rb, ro + m * 4, none⟩)
                      | 7 => v = .agg #[.int .i64 r0', .int .i64 r1', .slice ra1 rn1 rc1, .string r3']
                      | 8 => v = .bool true
                      | 9 => v = .bool false
                      | 10 => v = .bool false
                      | 11 => v = .bool false
                      | 12 => v = .int .i64 eb
                      | 13 => v = .bool true
                      | 14 => v = .bool true
                      | 15 => v = .agg #[.int .i64 y0, .int .i64 y1, .slice ya1 yn1 yc1, .string y3]
                      | 16 => v = .slice (some ⟨rb, ro, none⟩) n c
                      | 17 => v = .int .i64 (m : Int)
                      | 18 => v = .pointer (some ⟨rb, ro + m * 4, none⟩)
                      | 19 => v = .agg #[.int .i64 r0', .int .i64 r1', .slice ra1 rn1 rc1, .string r3']
                      | 20 => v = .bool true
                      | 21 => v = .bool false
                      | 22 => v = .bool false
                      | _ => v = .bool false
                      ) (by kernel_rfl) (fun _ _ _ h k => Ext.trans h k) (fun a => Ext.refl a) (Ext.drew _) ?_ ?_ ?_
                  · intro iop v wa wb hF hL
                    iterate 23 (rcases iop with _ | iop; exact hF)
                    exact hF
                  · refine Obls.cons ?_ (Obls.cons ?_ (Obls.cons ?_ (Obls.cons ?_ (Obls.cons ?_ (Obls.cons ?_ (Obls.cons ?_ (Obls.cons ?_ (Obls.cons ?_ (Obls.cons ?_ (Obls.cons ?_ (Obls.cons ?_ (Obls.cons ?_ (Obls.cons ?_ (Obls.cons ?_ (Obls.cons ?_ (Obls.cons ?_ (Obls.cons ?_ (Obls.cons ?_ (Obls.cons ?_ (Obls.cons ?_ (Obls.cons ?_ (Obls.cons ?_ (Obls.cons ?_ (Obls.nil))))))))))))))))))))))))
                    · intro ev wy hp hl hk hd
                      have e19 : ev (.tmp 19) = .int .i64 ea := hk 19 (by decide)
                      clear hk hd
                      exact Yield.mv rfl ⟨Ext.refl _, e19⟩
                    · intro ev wy hp hl hk hd
                      have e154 : ev (.tmp 154) = .int .i64 ea := hk 154 (by decide)
                      clear hk hd
                      exact Yield.op (w' := wy) (by simp [execOp, go_sem, hp.const, e154, hea]) ⟨Ext.refl _, rfl⟩
                    · intro ev wy hp hl hk hd
                      have e155 : ev (.tmp 155) = .bool true := hk 155 (by decide)
                      clear hk hd
                      exact Yield.mv rfl ⟨Ext.refl _, e155⟩
                    · intro ev wy hp hl hk hd
                      have e18 : ev (.tmp 18) = .pointer (some ⟨p5, 0, none⟩) := hk 18 (by decide)
                      clear hk
                      refine ⟨fun _ _ _ => ?_, fun _ hx hne => absurd hx hne⟩
                      clear hd
                      exact Yield.load rfl e18 (by have hh := heap_ext HX5.out hl; have k0 := cell_of_heap hh 0; have k1 := cell_of_heap hh 1; have k2 := cell_of_heap hh 2; have k3 := cell_of_heap hh 3; simp at k0 k1 k2 k3; simp [go_sem, k0, k1, k2, k3]) ⟨Ext.refl _, rfl⟩
                    · intro ev wy hp hl hk hd
                      have e0 : ev (.tmp 0) = .slice (some ⟨rb, ro, none⟩) n c := hk 0 (by decide)
                      clear hk
                      refine ⟨fun _ _ _ => ?_, fun _ hx hne => absurd hx hne⟩
                      clear hd
                      exact Yield.mv rfl ⟨Ext.refl _, e0⟩
                    · intro ev wy hp hl hk hd
                      have e17 : ev (.tmp 17) = .int .i64 (m : Int) := hk 17 (by decide)
                      clear hk
                      refine ⟨fun _ _ _ => ?_, fun _ hx hne => absurd hx hne⟩
                      clear hd
                      exact Yield.mv rfl ⟨Ext.refl _, e17⟩
                    · intro ev wy hp hl hk hd
                      have e158 : ev (.tmp 158) = .slice (some ⟨rb, ro, none⟩) n c := hk 158 (by decide)
                      have e159 : ev (.tmp 159) = .int .i64 (m : Int) := hk 159 (by decide)
                      clear hk
                      refine ⟨fun _ _ _ => ?_, fun _ hx hne => absurd hx hne⟩
                      clear hd
                      exact Yield.op (w' := wy) (by simp [execOp, go_sem, e158, e159]; omega) ⟨Ext.refl _, rfl⟩
                    · intro ev wy hp hl hk hd
                      have e160 : ev (.tmp 160) = .pointer (some ⟨rb, ro + m * 4, none⟩) := hk 160 (by decide)
                      clear hk
                      refine ⟨fun _ _ _ => ?_, fun _ hx hne => absurd hx hne⟩
                      clear hd
                      exact Yield.load rfl e160 (by obtain ⟨k0, k1, k2, k3⟩ := HRC.out wy hl; simp [go_sem, k0, k1, k2, k3]) ⟨Ext.refl _, rfl⟩
                    · intro ev wy hp hl hk hd
                      have e157 : ev (.tmp 157) = .agg #[.int .i64 x0, .int .i64 x1, .slice xa1 xn1 xc1, .string x3] := hk 157 (by decide)
                      have e161 : ev (.tmp 161) = .agg #[.int .i64 r0', .int .i64 r1', .slice ra1 rn1 rc1, .string r3'] := hk 161 (by decide)
                      clear hk
                      refine ⟨fun _ _ _ => ?_, fun _ hx hne => absurd hx hne⟩
                      clear hd
                      refine Yield.call rfl hp Tryz.func22 rfl (by kernel_rfl) ?_
                      simp only [List.map_toArray, List.map_cons, List.map_nil, e157, e161]
                      exact ((HSA.out wy hl)).mono fun _ _ ⟨he, hb⟩ => ⟨_, he, hb, by first | rfl | simp⟩
                    · intro ev wy hp hl hk hd
                      have e162 : ev (.tmp 162) = .bool true := hk 162 (by decide)
                      clear hk
                      refine ⟨fun _ _ _ => ?_, fun _ hx hne => absurd hx hne⟩
                      clear hd
                      exact Yield.op (v := .bool false) (w' := wy) (by simp [execOp, go_sem, e162]) ⟨Ext.refl _, rfl⟩
                    · intro ev wy hp hl hk hd
                      have e156 : ev (.tmp 156) = .bool true := hk 156 (by decide)
                      have e163 : ev (.tmp 163) = .bool false := hk 163 (by decide)
                      clear hk hd
                      exact Yield.pick (t := true) rfl e156 ⟨Ext.refl _, e163⟩
                    · intro ev wy hp hl hk hd
                      have e164 : ev (.tmp 164) = .bool false := hk 164 (by decide)
                      clear hk hd
                      exact Yield.mv rfl ⟨Ext.refl _, e164⟩
                    · intro ev wy hp hl hk hd
                      have e21 : ev (.tmp 21) = .int .i64 eb := hk 21 (by decide)
                      clear hk
                      refine ⟨fun _ _ _ => ?_, fun _ hx hne => absurd hx hne⟩
                      clear hd
                      exact Yield.mv rfl ⟨Ext.refl _, e21⟩
                    · intro ev wy hp hl hk hd
                      have e166 : ev (.tmp 166) = .int .i64 eb := hk 166 (by decide)
                      clear hk
                      refine ⟨fun _ _ _ => ?_, fun _ hx hne => absurd hx hne⟩
                      clear hd
                      exact Yield.op (w' := wy) (by simp [execOp, go_sem, hp.const, e166, heb]) ⟨Ext.refl _, rfl⟩
                    · intro ev wy hp hl hk hd
                      have e167 : ev (.tmp 167) = .bool true := hk 167 (by decide)
                      clear hk
                      refine ⟨fun _ _ _ => ?_, fun _ hx hne => absurd hx hne⟩
                      clear hd
                      exact Yield.mv rfl ⟨Ext.refl _, e167⟩
                    · intro ev wy hp hl hk hd
                      have e20 : ev (.tmp 20) = .pointer (some ⟨p7, 0, none⟩) := hk 20 (by decide)
                      clear hk
                      refine ⟨fun _ _ _ => ?_, fun _ hx hne => absurd hx hne⟩
                      clear hd
                      exact Yield.load rfl e20 (by have hh := heap_ext HX7.out hl; have k0 := cell_of_heap hh 0; have k1 := cell_of_heap hh 1; have k2 := cell_of_heap hh 2; have k3 := cell_of_heap hh 3; simp at k0 k1 k2 k3; simp [go_sem, k0, k1, k2, k3]) ⟨Ext.refl _, rfl⟩
                    · intro ev wy hp hl hk hd
                      have e0 : ev (.tmp 0) = .slice (some ⟨rb, ro, none⟩) n c := hk 0 (by decide)
                      clear hk
                      refine ⟨fun _ _ _ => ?_, fun _ hx hne => absurd hx hne⟩
                      clear hd
                      exact Yield.mv rfl ⟨Ext.refl _, e0⟩
                    · intro ev wy hp hl hk hd
                      have e17 : ev (.tmp 17) = .int .i64 (m : Int) := hk 17 (by decide)
                      clear hk
                      refine ⟨fun _ _ _ => ?_, fun _ hx hne => absurd hx hne⟩
                      clear hd
                      exact Yield.mv rfl ⟨Ext.refl _, e17⟩
                    · intro ev wy hp hl hk hd
                      have e170 : ev (.tmp 170) = .slice (some ⟨rb, ro, none⟩) n c := hk 170 (by decide)
                      have e171 : ev (.tmp 171) = .int .i64 (m : Int) := hk 171 (by decide)
                      clear hk
                      refine ⟨fun _ _ _ => ?_, fun _ hx hne => absurd hx hne⟩
                      clear hd
                      exact Yield.op (w' := wy) (by simp [execOp, go_sem, e170, e171]; omega) ⟨Ext.refl _, rfl⟩
                    · intro ev wy hp hl hk hd
                      have e172 : ev (.tmp 172) = .pointer (some ⟨rb, ro + m * 4, none⟩) := hk 172 (by decide)
                      clear hk
                      refine ⟨fun _ _ _ => ?_, fun _ hx hne => absurd hx hne⟩
                      clear hd
                      exact Yield.load rfl e172 (by obtain ⟨k0, k1, k2, k3⟩ := HRC.out wy hl; simp [go_sem, k0, k1, k2, k3]) ⟨Ext.refl _, rfl⟩
                    · intro ev wy hp hl hk hd
                      have e169 : ev (.tmp 169) = .agg #[.int .i64 y0, .int .i64 y1, .slice ya1 yn1 yc1, .string y3] := hk 169 (by decide)
                      have e173 : ev (.tmp 173) = .agg #[.int .i64 r0', .int .i64 r1', .slice ra1 rn1 rc1, .string r3'] := hk 173 (by decide)
                      clear hk
                      refine ⟨fun _ _ _ => ?_, fun _ hx hne => absurd hx hne⟩
                      clear hd
                      refine Yield.call rfl hp Tryz.func22 rfl (by kernel_rfl) ?_
                      simp only [List.map_toArray, List.map_cons, List.map_nil, e169, e173]
                      exact ((HSB.out wy hl)).mono fun _ _ ⟨he, hb⟩ => ⟨_, he, hb, by first | rfl | simp⟩
                    · intro ev wy hp hl hk hd
                      have e174 : ev (.tmp 174) = .bool true := hk 174 (by decide)
                      clear hk
                      refine ⟨fun _ _ _ => ?_, fun _ hx hne => absurd hx hne⟩
                      clear hd
                      exact Yield.op (v := .bool false) (w' := wy) (by simp [execOp, go_sem, e174]) ⟨Ext.refl _, rfl⟩
                    · intro ev wy hp hl hk hd
                      have e168 : ev (.tmp 168) = .bool true := hk 168 (by decide)
                      have e175 : ev (.tmp 175) = .bool false := hk 175 (by decide)
                      clear hk
                      refine ⟨fun _ _ _ => ?_, fun _ hx hne => absurd hx hne⟩
                      clear hd
                      exact Yield.pick (t := true) rfl e168 ⟨Ext.refl _, e175⟩
                    · intro ev wy hp hl hk hd
                      have e165 : ev (.tmp 165) = .bool false := hk 165 (by decide)
                      have e176 : ev (.tmp 176) = .bool false := hk 176 (by decide)
                      clear hk hd
                      exact Yield.pick (t := false) rfl e165 ⟨Ext.refl _, e176⟩
                  · intro vals wz hz hv
                    have g154 : vals 0 = .int .i64 ea := hv 0 (by decide)
                    have g155 : vals 1 = .bool true := hv 1 (by decide)
                    have g156 : vals 2 = .bool true := hv 2 (by decide)
                    have g157 : vals 3 = .agg #[.int .i64 x0, .int .i64 x1, .slice xa1 xn1 xc1, .string x3] := hv 3 (by decide)
                    have g158 : vals 4 = .slice (some ⟨rb, ro, none⟩) n c := hv 4 (by decide)
                    have g159 : vals 5 = .int .i64 (m : Int) := hv 5 (by decide)
                    have g160 : vals 6 = .pointer (some ⟨rb, ro + m * 4, none⟩) := hv 6 (by decide)
                    have g161 : vals 7 = .agg #[.int .i64 r0', .int .i64 r1', .slice ra1 rn1 rc1, .string r3'] := hv 7 (by decide)
                    have g162 : vals 8 = .bool true := hv 8 (by decide)
                    have g163 : vals 9 = .bool false := hv 9 (by decide)
                    have g164 : vals 10 = .bool false := hv 10 (by decide)
                    have g165 : vals 11 = .bool false := hv 11 (by decide)
                    have g166 : vals 12 = .int .i64 eb := hv 12 (by decide)
                    have g167 : vals 13 = .bool true := hv 13 (by decide)
                    have g168 : vals 14 = .bool true := hv 14 (by decide)
                    have g169 : vals 15 = .agg #[.int .i64 y0, .int .i64 y1, .slice ya1 yn1 yc1, .string y3] := hv 15 (by decide)
                    have g170 : vals 16 = .slice (some ⟨rb, ro, none⟩) n c := hv 16 (by decide)
                    have g171 : vals 17 = .int .i64 (m : Int) := hv 17 (by decide)
                    have g172 : vals 18 = .pointer (some ⟨rb, ro + m * 4, none⟩) := hv 18 (by decide)
                    have g173 : vals 19 = .agg #[.int .i64 r0', .int .i64 r1', .slice ra1 rn1 rc1, .string r3'] := hv 19 (by decide)
                    have g174 : vals 20 = .bool true := hv 20 (by decide)
                    have g175 : vals 21 = .bool false := hv 21 (by decide)
                    have g176 : vals 22 = .bool false := hv 22 (by decide)
                    have g177 : vals 23 = .bool false := hv 23 (by decide)
                    clear hv
                    simp only [putAll, Act.put, List.setIfInBounds_toArray, List.set_cons_zero, List.set_cons_succ, g154, g155, g156, g157, g158, g159, g160, g161, g162, g163, g164, g165, g166, g167, g168, g169, g170, g171, g172, g173, g174, g175, g176, g177]
                    clear g154
                    clear g155
                    clear g156
                    clear g157
                    clear g158
                    clear g159
                    clear g160
                    clear g161
                    clear g162
                    clear g163
                    clear g164
                    clear g165
                    clear g166
                    clear g167
                    clear g168
                    clear g169
                    clear g170
                    clear g171
                    clear g172
                    clear g173
                    clear g174
                    clear g175
                    clear g176
                    clear g177
                    have HE9 := Lib.hid (HE8.out.trans hz)
                    clear hz
                    go_wp2_with fail
                    go_roundw
                    case rel => exact ⟨m + 1, by omega, by go_num, HE9⟩
                    case measure => simp [intOf]; omega
                · have HSB := HSB0
                  refine wp_region_facts (by kernel_rfl) Ext (fun iop v w => match iop with
                      | 0 => v = .int .i64 ea
                      | 1 => v = .bool true
                      | 2 => v = .bool true
                      | 3 => v = .agg #[.int .i64 x0, .int .i64 x1, .slice xa1 xn1 xc1, .string x3]
                      | 4 => v = .slice (some ⟨rb, ro, none⟩) n c
                      | 5 => v = .int .i64 (m : Int)
                      | 6 => v = .pointer (some ⟨rb, ro + m * 4, none⟩)
                      | 7 => v = .agg #[.int .i64 r0', .int .i64 r1', .slice ra1 rn1 rc1, .string r3']
                      | 8 => v = .bool true
                      | 9 => v = .bool false
                      | 10 => v = .bool false
                      | 11 => v = .bool false
                      | 12 => v = .int .i64 eb
                      | 13 => v = .bool false
                      | 14 => v = .bool false
                      | 15 => v = undef
                      | 16 => v = undef
                      | 17 => v = undef
                      | 18 => v = undef
                      | 19 => v = undef
                      | 20 => v = undef
                      | 21 => v = undef
                      | 22 => v = .bool false
                      | _ => v = .bool false
                      ) (by kernel_rfl) (fun _ _ _ h k => Ext.trans h k) (fun a => Ext.refl a) (Ext.drew _) ?_ ?_ ?_
                  · intro iop v wa wb hF hL
                    iterate 23 (rcases iop with _ | iop; exact hF)
                    exact hF
                  · refine Obls.cons ?_ (Obls.cons ?_ (Obls.cons ?_ (Obls.cons ?_ (Obls.cons ?_ (Obls.cons ?_ (Obls.cons ?_ (Obls.cons ?_ (Obls.cons ?_ (Obls.cons ?_ (Obls.cons ?_ (Obls.cons ?_ (Obls.cons ?_ (Obls.cons ?_ (Obls.cons ?_ (Obls.cons ?_ (Obls.cons ?_ (Obls.cons ?_ (Obls.cons ?_ (Obls.cons ?_ (Obls.cons ?_ (Obls.cons ?_ (Obls.cons ?_ (Obls.cons ?_ (Obls.nil))))))))))))))))))))))))
                    · intro ev wy hp hl hk hd
                      have e19 : ev (.tmp 19) = .int .i64 ea := hk 19 (by decide)
                      clear hk hd
                      exact Yield.mv rfl ⟨Ext.refl _, e19⟩
                    · intro ev wy hp hl hk hd
                      have e154 : ev (.tmp 154) = .int .i64 ea := hk 154 (by decide)
                      clear hk hd
                      exact Yield.op (w' := wy) (by simp [execOp, go_sem, hp.const, e154, hea]) ⟨Ext.refl _, rfl⟩
                    · intro ev wy hp hl hk hd
                      have e155 : ev (.tmp 155) = .bool true := hk 155 (by decide)
                      clear hk hd
                      exact Yield.mv rfl ⟨Ext.refl _, e155⟩
                    · intro ev wy hp hl hk hd
                      have e18 : ev (.tmp 18) = .pointer (some ⟨p5, 0, none⟩) := hk 18 (by decide)
                      clear hk
                      refine ⟨fun _ _ _ => ?_, fun _ hx hne => absurd hx hne⟩
                      clear hd
                      exact Yield.load rfl e18 (by have hh := heap_ext HX5.out hl; have k0 := cell_of_heap hh 0; have k1 := cell_of_heap hh 1; have k2 := cell_of_heap hh 2; have k3 := cell_of_heap hh 3; simp at k0 k1 k2 k3; simp [go_sem, k0, k1, k2, k3]) ⟨Ext.refl _, rfl⟩
                    · intro ev wy hp hl hk hd
                      have e0 : ev (.tmp 0) = .slice (some ⟨rb, ro, none⟩) n c := hk 0 (by decide)
                      clear hk
                      refine ⟨fun _ _ _ => ?_, fun _ hx hne => absurd hx hne⟩
                      clear hd
                      exact Yield.mv rfl ⟨Ext.refl _, e0⟩
                    · intro ev wy hp hl hk hd
                      have e17 : ev (.tmp 17) = .int .i64 (m : Int) := hk 17 (by decide)
                      clear hk
                      refine ⟨fun _ _ _ => ?_, fun _ hx hne => absurd hx hne⟩
                      clear hd
                      exact Yield.mv rfl ⟨Ext.refl _, e17⟩
                    · intro ev wy hp hl hk hd
                      have e158 : ev (.tmp 158) = .slice (some ⟨rb, ro, none⟩) n c := hk 158 (by decide)
                      have e159 : ev (.tmp 159) = .int .i64 (m : Int) := hk 159 (by decide)
                      clear hk
                      refine ⟨fun _ _ _ => ?_, fun _ hx hne => absurd hx hne⟩
                      clear hd
                      exact Yield.op (w' := wy) (by simp [execOp, go_sem, e158, e159]; omega) ⟨Ext.refl _, rfl⟩
                    · intro ev wy hp hl hk hd
                      have e160 : ev (.tmp 160) = .pointer (some ⟨rb, ro + m * 4, none⟩) := hk 160 (by decide)
                      clear hk
                      refine ⟨fun _ _ _ => ?_, fun _ hx hne => absurd hx hne⟩
                      clear hd
                      exact Yield.load rfl e160 (by obtain ⟨k0, k1, k2, k3⟩ := HRC.out wy hl; simp [go_sem, k0, k1, k2, k3]) ⟨Ext.refl _, rfl⟩
                    · intro ev wy hp hl hk hd
                      have e157 : ev (.tmp 157) = .agg #[.int .i64 x0, .int .i64 x1, .slice xa1 xn1 xc1, .string x3] := hk 157 (by decide)
                      have e161 : ev (.tmp 161) = .agg #[.int .i64 r0', .int .i64 r1', .slice ra1 rn1 rc1, .string r3'] := hk 161 (by decide)
                      clear hk
                      refine ⟨fun _ _ _ => ?_, fun _ hx hne => absurd hx hne⟩
                      clear hd
                      refine Yield.call rfl hp Tryz.func22 rfl (by kernel_rfl) ?_
                      simp only [List.map_toArray, List.map_cons, List.map_nil, e157, e161]
                      exact ((HSA.out wy hl)).mono fun _ _ ⟨he, hb⟩ => ⟨_, he, hb, by first | rfl | simp⟩
                    · intro ev wy hp hl hk hd
                      have e162 : ev (.tmp 162) = .bool true := hk 162 (by decide)
                      clear hk
                      refine ⟨fun _ _ _ => ?_, fun _ hx hne => absurd hx hne⟩
                      clear hd
                      exact Yield.op (v := .bool false) (w' := wy) (by simp [execOp, go_sem, e162]) ⟨Ext.refl _, rfl⟩
                    · intro ev wy hp hl hk hd
                      have e156 : ev (.tmp 156) = .bool true := hk 156 (by decide)
                      have e163 : ev (.tmp 163) = .bool false := hk 163 (by decide)
                      clear hk hd
                      exact Yield.pick (t := true) rfl e156 ⟨Ext.refl _, e163⟩
                    · intro ev wy hp hl hk hd
                      have e164 : ev (.tmp 164) = .bool false := hk 164 (by decide)
                      clear hk hd
                      exact Yield.mv rfl ⟨Ext.refl _, e164⟩
                    · intro ev wy hp hl hk hd
                      have e21 : ev (.tmp 21) = .int .i64 eb := hk 21 (by decide)
                      clear hk
                      refine ⟨fun _ _ _ => ?_, fun _ hx hne => absurd hx hne⟩
                      clear hd
                      exact Yield.mv rfl ⟨Ext.refl _, e21⟩
                    · intro ev wy hp hl hk hd
                      have e166 : ev (.tmp 166) = .int .i64 eb := hk 166 (by decide)
                      clear hk
                      refine ⟨fun _ _ _ => ?_, fun _ hx hne => absurd hx hne⟩
                      clear hd
                      exact Yield.op (w' := wy) (by simp [execOp, go_sem, hp.const, e166, heb]) ⟨Ext.refl _, rfl⟩
                    · intro ev wy hp hl hk hd
                      have e167 : ev (.tmp 167) = .bool false := hk 167 (by decide)
                      clear hk
                      refine ⟨fun _ _ _ => ?_, fun _ hx hne => absurd hx hne⟩
                      clear hd
                      exact Yield.mv rfl ⟨Ext.refl _, e167⟩
                    · intro ev wy hp hl hk hd
                      have e20 : ev (.tmp 20) = .pointer (some ⟨p7, 0, none⟩) := hk 20 (by decide)
                      clear hk
                      exact ⟨fun x hx he => (by rw [show x = .bool false from hx] at he; cases he), fun _ _ _ => rfl⟩
                    · intro ev wy hp hl hk hd
                      have e0 : ev (.tmp 0) = .slice (some ⟨rb, ro, none⟩) n c := hk 0 (by decide)
                      clear hk
                      exact ⟨fun x hx he => (by rw [show x = .bool false from hx] at he; cases he), fun _ _ _ => rfl⟩
                    · intro ev wy hp hl hk hd
                      have e17 : ev (.tmp 17) = .int .i64 (m : Int) := hk 17 (by decide)
                      clear hk
                      exact ⟨fun x hx he => (by rw [show x = .bool false from hx] at he; cases he), fun _ _ _ => rfl⟩
                    · intro ev wy hp hl hk hd
                      have e170 : ev (.tmp 170) = undef := hk 170 (by decide)
                      have e171 : ev (.tmp 171) = undef := hk 171 (by decide)
                      clear hk
                      exact ⟨fun x hx he => (by rw [show x = .bool false from hx] at he; cases he), fun _ _ _ => rfl⟩
                    · intro ev wy hp hl hk hd
                      have e172 : ev (.tmp 172) = undef := hk 172 (by decide)
                      clear hk
                      exact ⟨fun x hx he => (by rw [show x = .bool false from hx] at he; cases he), fun _ _ _ => rfl⟩
                    · intro ev wy hp hl hk hd
                      have e169 : ev (.tmp 169) = undef := hk 169 (by decide)
                      have e173 : ev (.tmp 173) = undef := hk 173 (by decide)
                      clear hk
                      exact ⟨fun x hx he => (by rw [show x = .bool false from hx] at he; cases he), fun _ _ _ => rfl⟩
                    · intro ev wy hp hl hk hd
                      have e174 : ev (.tmp 174) = undef := hk 174 (by decide)
                      clear hk
                      exact ⟨fun x hx he => (by rw [show x = .bool false from hx] at he; cases he), fun _ _ _ => rfl⟩
                    · intro ev wy hp hl hk hd
                      have e168 : ev (.tmp 168) = .bool false := hk 168 (by decide)
                      have e175 : ev (.tmp 175) = undef := hk 175 (by decide)
                      clear hk
                      refine ⟨fun _ _ _ => ?_, fun _ hx hne => absurd hx hne⟩
                      clear hd
                      exact Yield.pick (t := false) rfl e168 ⟨Ext.refl _, hp.const _⟩
                    · intro ev wy hp hl hk hd
                      have e165 : ev (.tmp 165) = .bool false := hk 165 (by decide)
                      have e176 : ev (.tmp 176) = .bool false := hk 176 (by decide)
                      clear hk hd
                      exact Yield.pick (t := false) rfl e165 ⟨Ext.refl _, e176⟩
                  · intro vals wz hz hv
                    have g154 : vals 0 = .int .i64 ea := hv 0 (by decide)
                    have g155 : vals 1 = .bool true := hv 1 (by decide)
                    have g156 : vals 2 = .bool true := hv 2 (by decide)
                    have g157 : vals 3 = .agg #[.int .i64 x0, .int .i64 x1, .slice xa1 xn1 xc1, .string x3] := hv 3 (by decide)
                    have g158 : vals 4 = .slice (some ⟨rb, ro, none⟩) n c := hv 4 (by decide)
                    have g159 : vals 5 = .int .i64 (m : Int) := hv 5 (by decide)
                    have g160 : vals 6 = .pointer (some ⟨rb, ro + m * 4, none⟩) := hv 6 (by decide)
                    have g161 : vals 7 = .agg #[.int .i64 r0', .int .i64 r1', .slice ra1 rn1 rc1, .string r3'] := hv 7 (by decide)
                    have g162 : vals 8 = .bool true := hv 8 (by decide)
                    have g163 : vals 9 = .bool false := hv 9 (by decide)
                    have g164 : vals 10 = .bool false := hv 10 (by decide)
                    have g165 : vals 11 = .bool false := hv 11 (by decide)
                    have g166 : vals 12 = .int .i64 eb := hv 12 (by decide)
                    have g167 : vals 13 = .bool false := hv 13 (by decide)
                    have g168 : vals 14 = .bool false := hv 14 (by decide)
                    have g169 : vals 15 = undef := hv 15 (by decide)
                    have g170 : vals 16 = undef := hv 16 (by decide)
                    have g171 : vals 17 = undef := hv 17 (by decide)
                    have g172 : vals 18 = undef := hv 18 (by decide)
                    have g173 : vals 19 = undef := hv 19 (by decide)
                    have g174 : vals 20 = undef := hv 20 (by decide)
                    have g175 : vals 21 = undef := hv 21 (by decide)
                    have g176 : vals 22 = .bool false := hv 22 (by decide)
                    have g177 : vals 23 = .bool false := hv 23 (by decide)
                    clear hv
                    simp only [putAll, Act.put, List.setIfInBounds_toArray, List.set_cons_zero, List.set_cons_succ, g154, g155, g156, g157, g158, g159, g160, g161, g162, g163, g164, g165, g166, g167, g168, g169, g170, g171, g172, g173, g174, g175, g176, g177]
                    clear g154
                    clear g155
                    clear g156
                    clear g157
                    clear g158
                    clear g159
                    clear g160
                    clear g161
                    clear g162
                    clear g163
                    clear g164
                    clear g165
                    clear g166
                    clear g167
                    clear g168
                    clear g169
                    clear g170
                    clear g171
                    clear g172
                    clear g173
                    clear g174
                    clear g175
                    clear g176
                    clear g177
                    have HE9 := Lib.hid (HE8.out.trans hz)
                    clear hz
                    go_wp2_with fail
                    go_roundw
                    case rel => exact ⟨m + 1, by omega, by go_num, HE9⟩
                    case measure => simp [intOf]; omega
              · have HSA := HSA0
                by_cases heb : eb = 0
                · have HSB := Lib.hid (HSB0.out heb)
                  refine wp_region_facts (by kernel_rfl) Ext (fun iop v w => match iop with
                      | 0 => v = .int .i64 ea
                      | 1 => v = .bool false
                      | 2 => v = .bool false
                      | 3 => v = undef
                      | 4 => v = undef
                      | 5 => v = undef
                      | 6 => v = undef
                      | 7 => v = undef
                      | 8 => v = undef
                      | 9 => v = undef
                      | 10 => v = .bool false
                      | 11 => v = .bool false
                      | 12 => v = .int .i64 eb
                      | 13 => v = .bool true
                      | 14 => v = .bool true
                      | 15 => v = .agg #[.int .i64 y0, .int .i64 y1, .slice ya1 yn1 yc1, .string y3]
                      | 16 => v = .slice (some ⟨rb, ro, none⟩) n c
                      | 17 => v = .int .i64 (m : Int)
                      | 18 => v = .pointer (some ⟨rb, ro + m * 4, none⟩)
                      | 19 => v = .agg #[.int .i64 r0', .int .i64 r1', .slice ra1 rn1 rc1, .string r3']
                      | 20 => v = .bool true
                      | 21 => v = .bool false
                      | 22 => v = .bool false
                      | _ => v = .bool false
                      ) (by kernel_rfl) (fun _ _ _ h k => Ext.trans h k) (fun a => Ext.refl a) (Ext.drew _) ?_ ?_ ?_
                  · intro iop v wa wb hF hL
                    iterate 23 (rcases iop with _ | iop; exact hF)
                    exact hF
                  · refine Obls.cons ?_ (Obls.cons ?_ (Obls.cons ?_ (Obls.cons ?_ (Obls.cons ?_ (Obls.cons ?_ (Obls.cons ?_ (Obls.cons ?_ (Obls.cons ?_ (Obls.cons ?_ (Obls.cons ?_ (Obls.cons ?_ (Obls.cons ?_ (Obls.cons ?_ (Obls.cons ?_ (Obls.cons ?_ (Obls.cons ?_ (Obls.cons ?_ (Obls.cons ?_ (Obls.cons ?_ (Obls.cons ?_ (Obls.cons ?_ (Obls.cons ?_ (Obls.cons ?_ (Obls.nil))))))))))))))))))))))))
                    · intro ev wy hp hl hk hd
                      have e19 : ev (.tmp 19) = .int .i64 ea := hk 19 (by decide)
                      clear hk hd
                      exact Yield.mv rfl ⟨Ext.refl _, e19⟩
                    · intro ev wy hp hl hk hd
                      have e154 : ev (.tmp 154) = .int .i64 ea := hk 154 (by decide)
                      clear hk hd
                      exact Yield.op (w' := wy) (by simp [execOp, go_sem, hp.const, e154, hea]) ⟨Ext.refl _, rfl⟩
                    · intro ev wy hp hl hk hd
                      have e155 : ev (.tmp 155) = .bool false := hk 155 (by decide)
                      clear hk hd
                      exact Yield.mv rfl ⟨Ext.refl _, e155⟩
                    · intro ev wy hp hl hk hd
                      have e18 : ev (.tmp 18) = .pointer (some ⟨p5, 0, none⟩) := hk 18 (by decide)
                      clear hk
                      exact ⟨fun x hx he => (by rw [show x = .bool false from hx] at he; cases he), fun _ _ _ => rfl⟩
                    · intro ev wy hp hl hk hd
                      have e0 : ev (.tmp 0) = .slice (some ⟨rb, ro, none⟩) n c := hk 0 (by decide)
                      clear hk
                      exact ⟨fun x hx he => (by rw [show x = .bool false from hx] at he; cases he), fun _ _ _ => rfl⟩
                    · intro ev wy hp hl hk hd
                      have e17 : ev (.tmp 17) = .int .i64 (m : Int) := hk 17 (by decide)
                      clear hk
                      exact ⟨fun x hx he => (by rw [show x = .bool false from hx] at he; cases he), fun _ _ _ => rfl⟩
                    · intro ev wy hp hl hk hd
                      have e158 : ev (.tmp 158) = undef := hk 158 (by decide)
                      have e159 : ev (.tmp 159) = undef := hk 159 (by decide)
                      clear hk
                      exact ⟨fun x hx he => (by rw [show x = .bool false from hx] at he; cases he), fun _ _ _ => rfl⟩
                    · intro ev wy hp hl hk hd
                      have e160 : ev (.tmp 160) = undef := hk 160 (by decide)
                      clear hk
                      exact ⟨fun x hx he => (by rw [show x = .bool false from hx] at he; cases he), fun _ _ _ => rfl⟩
                    · intro ev wy hp hl hk hd
                      have e157 : ev (.tmp 157) = undef := hk 157 (by decide)
                      have e161 : ev (.tmp 161) = undef := hk 161 (by decide)
                      clear hk
                      exact ⟨fun x hx he => (by rw [show x = .bool false from hx] at he; cases he), fun _ _ _ => rfl⟩
                    · intro ev wy hp hl hk hd
                      have e162 : ev (.tmp 162) = undef := hk 162 (by decide)
                      clear hk
                      exact ⟨fun x hx he => (by rw [show x = .bool false from hx] at he; cases he), fun _ _ _ => rfl⟩
                    · intro ev wy hp hl hk hd
                      have e156 : ev (.tmp 156) = .bool false := hk 156 (by decide)
                      have e163 : ev (.tmp 163) = undef := hk 163 (by decide)
                      clear hk hd
                      exact Yield.pick (t := false) rfl e156 ⟨Ext.refl _, hp.const _⟩
                    · intro ev wy hp hl hk hd
                      have e164 : ev (.tmp 164) = .bool false := hk 164 (by decide)
                      clear hk hd
                      exact Yield.mv rfl ⟨Ext.refl _, e164⟩
                    · intro ev wy hp hl hk hd
                      have e21 : ev (.tmp 21) = .int .i64 eb := hk 21 (by decide)
                      clear hk
                      refine ⟨fun _ _ _ => ?_, fun _ hx hne => absurd hx hne⟩
                      clear hd
                      exact Yield.mv rfl ⟨Ext.refl _, e21⟩
                    · intro ev wy hp hl hk hd
                      have e166 : ev (.tmp 166) = .int .i64 eb := hk 166 (by decide)
                      clear hk
                      refine ⟨fun _ _ _ => ?_, fun _ hx hne => absurd hx hne⟩
                      clear hd
                      exact Yield.op (w' := wy) (by simp [execOp, go_sem, hp.const, e166, heb]) ⟨Ext.refl _, rfl⟩
                    · intro ev wy hp hl hk hd
                      have e167 : ev (.tmp 167) = .bool true := hk 167 (by decide)
                      clear hk
                      refine ⟨fun _ _ _ => ?_, fun _ hx hne => absurd hx hne⟩
                      clear hd
                      exact Yield.mv rfl ⟨Ext.refl _, e167⟩
                    · intro ev wy hp hl hk hd
                      have e20 : ev (.tmp 20) = .pointer (some ⟨p7, 0, none⟩) := hk 20 (by decide)
                      clear hk
                      refine ⟨fun _ _ _ => ?_, fun _ hx hne => absurd hx hne⟩
                      clear hd
                      exact Yield.load rfl e20 (by have hh := heap_ext HX7.out hl; have k0 := cell_of_heap hh 0; have k1 := cell_of_heap hh 1; have k2 := cell_of_heap hh 2; have k3 := cell_of_heap hh 3; simp at k0 k1 k2 k3; simp [go_sem, k0, k1, k2, k3]) ⟨Ext.refl _, rfl⟩
                    · intro ev wy hp hl hk hd
                      have e0 : ev (.tmp 0) = .slice (some ⟨rb, ro, none⟩) n c := hk 0 (by decide)
                      clear hk
                      refine ⟨fun _ _ _ => ?_, fun _ hx hne => absurd hx hne⟩
                      clear hd
                      exact Yield.mv rfl ⟨Ext.refl _, e0⟩
                    · intro ev wy hp hl hk hd
                      have e17 : ev (.tmp 17) = .int .i64 (m : Int) := hk 17 (by decide)
                      clear hk
                      refine ⟨fun _ _ _ => ?_, fun _ hx hne => absurd hx hne⟩
                      clear hd
                      exact Yield.mv rfl ⟨Ext.refl _, e17⟩
                    · intro ev wy hp hl hk hd
                      have e170 : ev (.tmp 170) = .slice (some ⟨rb, ro, none⟩) n c := hk 170 (by decide)
                      have e171 : ev (.tmp 171) = .int .i64 (m : Int) := hk 171 (by decide)
                      clear hk
                      refine ⟨fun _ _ _ => ?_, fun _ hx hne => absurd hx hne⟩
                      clear hd
                      exact Yield.op (w' := wy) (by simp [execOp, go_sem, e170, e171]; omega) ⟨Ext.refl _, rfl⟩
                    · intro ev wy hp hl hk hd
                      have e172 : ev (.tmp 172) = .pointer (some ⟨rb, ro + m * 4, none⟩) := hk 172 (by decide)
                      clear hk
                      refine ⟨fun _ _ _ => ?_, fun _ hx hne => absurd hx hne⟩
                      clear hd
                      exact Yield.load rfl e172 (by obtain ⟨k0, k1, k2, k3⟩ := HRC.out wy hl; simp [go_sem, k0, k1, k2, k3]) ⟨Ext.refl _, rfl⟩
                    · intro ev wy hp hl hk hd
                      have e169 : ev (.tmp 169) = .agg #[.int .i64 y0, .int .i64 y1, .slice ya1 yn1 yc1, .string y3] := hk 169 (by decide)
                      have e173 : ev (.tmp 173) = .agg #[.int .i64 r0', .int .i64 r1', .slice ra1 rn1 rc1, .string r3'] := hk 173 (by decide)
                      clear hk
                      refine ⟨fun _ _ _ => ?_, fun _ hx hne => absurd hx hne⟩
                      clear hd
                      refine Yield.call rfl hp Tryz.func22 rfl (by kernel_rfl) ?_
                      simp only [List.map_toArray, List.map_cons, List.map_nil, e169, e173]
                      exact ((HSB.out wy hl)).mono fun _ _ ⟨he, hb⟩ => ⟨_, he, hb, by first | rfl | simp⟩
                    · intro ev wy hp hl hk hd
                      have e174 : ev (.tmp 174) = .bool true := hk 174 (by decide)
                      clear hk
                      refine ⟨fun _ _ _ => ?_, fun _ hx hne => absurd hx hne⟩
                      clear hd
                      exact Yield.op (v := .bool false) (w' := wy) (by simp [execOp, go_sem, e174]) ⟨Ext.refl _, rfl⟩
                    · intro ev wy hp hl hk hd
                      have e168 : ev (.tmp 168) = .bool true := hk 168 (by decide)
                      have e175 : ev (.tmp 175) = .bool false := hk 175 (by decide)
                      clear hk
                      refine ⟨fun _ _ _ => ?_, fun _ hx hne => absurd hx hne⟩
                      clear hd
                      exact Yield.pick (t := true) rfl e168 ⟨Ext.refl _, e175⟩
                    · intro ev wy hp hl hk hd
                      have e165 : ev (.tmp 165) = .bool false := hk 165 (by decide)
                      have e176 : ev (.tmp 176) = .bool false := hk 176 (by decide)
                      clear hk hd
                      exact Yield.pick (t := false) rfl e165 ⟨Ext.refl _, e176⟩
                  · intro vals wz hz hv
                    have g154 : vals 0 = .int .i64 ea := hv 0 (by decide)
                    have g155 : vals 1 = .bool false := hv 1 (by decide)
                    have g156 : vals 2 = .bool false := hv 2 (by decide)
                    have g157 : vals 3 = undef := hv 3 (by decide)
                    have g158 : vals 4 = undef := hv 4 (by decide)
                    have g159 : vals 5 = undef := hv 5 (by decide)
                    have g160 : vals 6 = undef := hv 6 (by decide)
                    have g161 : vals 7 = undef := hv 7 (by decide)
                    have g162 : vals 8 = undef := hv 8 (by decide)
                    have g163 : vals 9 = undef := hv 9 (by decide)
                    have g164 : vals 10 = .bool false := hv 10 (by decide)
                    have g165 : vals 11 = .bool false := hv 11 (by decide)
                    have g166 : vals 12 = .int .i64 eb := hv 12 (by decide)
                    have g167 : vals 13 = .bool true := hv 13 (by decide)
                    have g168 : vals 14 = .bool true := hv 14 (by decide)
                    have g169 : vals 15 = .agg #[.int .i64 y0, .int .i64 y1, .slice ya1 yn1 yc1, .string y3] := hv 15 (by decide)
                    have g170 : vals 16 = .slice (some ⟨rb, ro, none⟩) n c := hv 16 (by decide)
                    have g171 : vals 17 = .int .i64 (m : Int) := hv 17 (by decide)
                    have g172 : vals 18 = .pointer (some ⟨rb, ro + m * 4, none⟩) := hv 18 (by decide)
                    have g173 : vals 19 = .agg #[.int .i64 r0', .int .i64 r1', .slice ra1 rn1 rc1, .string r3'] := hv 19 (by decide)
                    have g174 : vals 20 = .bool true := hv 20 (by decide)
                    have g175 : vals 21 = .bool false := hv 21 (by decide)
                    have g176 : vals 22 = .bool false := hv 22 (by decide)
                    have g177 : vals 23 = .bool false := hv 23 (by decide)
                    clear hv
                    simp only [putAll, Act.put, List.setIfInBounds_toArray, List.set_cons_zero, List.set_cons_succ, g154, g155, g156, g157, g158, g159, g160, g161, g162, g163, g164, g165, g166, g167, g168, g169, g170, g171, g172, g173, g174, g175, g176, g177]
                    clear g154
                    clear g155
                    clear g156
                    clear g157
                    clear g158
                    clear g159
                    clear g160
                    clear g161
                    clear g162
                    clear g163
                    clear g164
                    clear g165
                    clear g166
                    clear g167
                    clear g168
                    clear g169
                    clear g170
                    clear g171
                    clear g172
                    clear g173
                    clear g174
                    clear g175
                    clear g176
                    clear g177
                    have HE9 := Lib.hid (HE8.out.trans hz)
                    clear hz
                    go_wp2_with fail
                    go_roundw
                    case rel => exact ⟨m + 1, by omega, by go_num, HE9⟩
                    case measure => simp [intOf]; omega
                · have HSB := HSB0
                  refine wp_region_facts (by kernel_rfl) Ext (fun iop v w => match iop with
                      | 0 => v = .int .i64 ea
                      | 1 => v = .bool false
                      | 2 => v = .bool false
                      | 3 => v = undef
                      | 4 => v = undef
                      | 5 => v = undef
                      | 6 => v = undef
                      | 7 => v = undef
                      | 8 => v = undef
                      | 9 => v = undef
                      | 10 => v = .bool false
                      | 11 => v = .bool false
                      | 12 => v = .int .i64 eb
                      | 13 => v = .bool false
                      | 14 => v = .bool false
                      | 15 => v = undef
                      | 16 => v = undef
                      | 17 => v = undef
                      | 18 => v = undef
                      | 19 => v = undef
                      | 20 => v = undef
                      | 21 => v = undef
                      | 22 => v = .bool false
                      | _ => v = .bool false
                      ) (by kernel_rfl) (fun _ _ _ h k => Ext.trans h k) (fun a => Ext.refl a) (Ext.drew _) ?_ ?_ ?_
                  · intro iop v wa wb hF hL
                    iterate 23 (rcases iop with _ | iop; exact hF)
                    exact hF
                  · refine Obls.cons ?_ (Obls.cons ?_ (Obls.cons ?_ (Obls.cons ?_ (Obls.cons ?_ (Obls.cons ?_ (Obls.cons ?_ (Obls.cons ?_ (Obls.cons ?_ (Obls.cons ?_ (Obls.cons ?_ (Obls.cons ?_ (Obls.cons ?_ (Obls.cons ?_ (Obls.cons ?_ (Obls.cons ?_ (Obls.cons ?_ (Obls.cons ?_ (Obls.cons ?_ (Obls.cons ?_ (Obls.cons ?_ (Obls.cons ?_ (Obls.cons ?_ (Obls.cons ?_ (Obls.nil))))))))))))))))))))))))
                    · intro ev wy hp hl hk hd
                      have e19 : ev (.tmp 19) = .int .i64 ea := hk 19 (by decide)
                      clear hk hd
                      exact Yield.mv rfl ⟨Ext.refl _, e19⟩
                    · intro ev wy hp hl hk hd
                      have e154 : ev (.tmp 154) = .int .i64 ea := hk 154 (by decide)
                      clear hk hd
                      exact Yield.op (w' := wy) (by simp [execOp, go_sem, hp.const, e154, hea]) ⟨Ext.refl _, rfl⟩
                    · intro ev wy hp hl hk hd
                      have e155 : ev (.tmp 155) = .bool false := hk 155 (by decide)
                      clear hk hd
                      exact Yield.mv rfl ⟨Ext.refl _, e155⟩
                    · intro ev wy hp hl hk hd
                      have e18 : ev (.tmp 18) = .pointer (some ⟨p5, 0, none⟩) := hk 18 (by decide)
                      clear hk
                      exact ⟨fun x hx he => (by rw [show x = .bool false from hx] at he; cases he), fun _ _ _ => rfl⟩
                    · intro ev wy hp hl hk hd
                      have e0 : ev (.tmp 0) = .slice (some ⟨rb, ro, none⟩) n c := hk 0 (by decide)
                      clear hk
                      exact ⟨fun x hx he => (by rw [show x = .bool false from hx] at he; cases he), fun _ _ _ => rfl⟩
                    · intro ev wy hp hl hk hd
                      have e17 : ev (.tmp 17) = .int .i64 (m : Int) := hk 17 (by decide)
                      clear hk
                      exact ⟨fun x hx he => (by rw [show x = .bool false from hx] at he; cases he), fun _ _ _ => rfl⟩
                    · intro ev wy hp hl hk hd
                      have e158 : ev (.tmp 158) = undef := hk 158 (by decide)
                      have e159 : ev (.tmp 159) = undef := hk 159 (by decide)
                      clear hk
                      exact ⟨fun x hx he => (by rw [show x = .bool false from hx] at he; cases he), fun _ _ _ => rfl⟩
                    · intro ev wy hp hl hk hd
                      have e160 : ev (.tmp 160) = undef := hk 160 (by decide)
                      clear hk
                      exact ⟨fun x hx he => (by rw [show x = .bool false from hx] at he; cases he), fun _ _ _ => rfl⟩
                    · intro ev wy hp hl hk hd
                      have e157 : ev (.tmp 157) = undef := hk 157 (by decide)
                      have e161 : ev (.tmp 161) = undef := hk 161 (by decide)
                      clear hk
                      exact ⟨fun x hx he => (by rw [show x = .bool false from hx] at he; cases he), fun _ _ _ => rfl⟩
                    · intro ev wy hp hl hk hd
                      have e162 : ev (.tmp 162) = undef := hk 162 (by decide)
                      clear hk
                      exact ⟨fun x hx he => (by rw [show x = .bool false from hx] at he; cases he), fun _ _ _ => rfl⟩
                    · intro ev wy hp hl hk hd
                      have e156 : ev (.tmp 156) = .bool false := hk 156 (by decide)
                      have e163 : ev (.tmp 163) = undef := hk 163 (by decide)
                      clear hk hd
                      exact Yield.pick (t := false) rfl e156 ⟨Ext.refl _, hp.const _⟩
                    · intro ev wy hp hl hk hd
                      have e164 : ev (.tmp 164) = .bool false := hk 164 (by decide)
                      clear hk hd
                      exact Yield.mv rfl ⟨Ext.refl _, e164⟩
                    · intro ev wy hp hl hk hd
                      have e21 : ev (.tmp 21) = .int .i64 eb := hk 21 (by decide)
                      clear hk
                      refine ⟨fun _ _ _ => ?_, fun _ hx hne => absurd hx hne⟩
                      clear hd
                      exact Yield.mv rfl ⟨Ext.refl _, e21⟩
                    · intro ev wy hp hl hk hd
                      have e166 : ev (.tmp 166) = .int .i64 eb := hk 166 (by decide)
                      clear hk
                      refine ⟨fun _ _ _ => ?_, fun _ hx hne => absurd hx hne⟩
                      clear hd
                      exact Yield.op (w' := wy) (by simp [execOp, go_sem, hp.const, e166, heb]) ⟨Ext.refl _, rfl⟩
                    · intro ev wy hp hl hk hd
                      have e167 : ev (.tmp 167) = .bool false := hk 167 (by decide)
                      clear hk
                      refine ⟨fun _ _ _ => ?_, fun _ hx hne => absurd hx hne⟩
                      clear hd
                      exact Yield.mv rfl ⟨Ext.refl _, e167⟩
                    · intro ev wy hp hl hk hd
                      have e20 : ev (.tmp 20) = .pointer (some ⟨p7, 0, none⟩) := hk 20 (by decide)
                      clear hk
                      exact ⟨fun x hx he => (by rw [show x = .bool false from hx] at he; cases he), fun _ _ _ => rfl⟩
                    · intro ev wy hp hl hk hd
                      have e0 : ev (.tmp 0) = .slice (some ⟨rb, ro, none⟩) n c := hk 0 (by decide)
                      clear hk
                      exact ⟨fun x hx he => (by rw [show x = .bool false from hx] at he; cases he), fun _ _ _ => rfl⟩
                    · intro ev wy hp hl hk hd
                      have e17 : ev (.tmp 17) = .int .i64 (m : Int) := hk 17 (by decide)
                      clear hk
                      exact ⟨fun x hx he => (by rw [show x = .bool false from hx] at he; cases he), fun _ _ _ => rfl⟩
                    · intro ev wy hp hl hk hd
                      have e170 : ev (.tmp 170) = undef := hk 170 (by decide)
                      have e171 : ev (.tmp 171) = undef := hk 171 (by decide)
                      clear hk
                      exact ⟨fun x hx he => (by rw [show x = .bool false from hx] at he; cases he), fun _ _ _ => rfl⟩
                    · intro ev wy hp hl hk hd
                      have e172 : ev (.tmp 172) = undef := hk 172 (by decide)
                      clear hk
                      exact ⟨fun x hx he => (by rw [show x = .bool false from hx] at he; cases he), fun _ _ _ => rfl⟩
                    · intro ev wy hp hl hk hd
                      have e169 : ev (.tmp 169) = undef := hk 169 (by decide)
                      have e173 : ev (.tmp 173) = undef := hk 173 (by decide)
                      clear hk
                      exact ⟨fun x hx he => (by rw [show x = .bool false from hx] at he; cases he), fun _ _ _ => rfl⟩
                    · intro ev wy hp hl hk hd
                      have e174 : ev (.tmp 174) = undef := hk 174 (by decide)
                      clear hk
                      exact ⟨fun x hx he => (by rw [show x = .bool false from hx] at he; cases he), fun _ _ _ => rfl⟩
                    · intro ev wy hp hl hk hd
                      have e168 : ev (.tmp 168) = .bool false := hk 168 (by decide)
                      have e175 : ev (.tmp 175) = undef := hk 175 (by decide)
                      clear hk
                      refine ⟨fun _ _ _ => ?_, fun _ hx hne => absurd hx hne⟩
                      clear hd
                      exact Yield.pick (t := false) rfl e168 ⟨Ext.refl _, hp.const _⟩
                    · intro ev wy hp hl hk hd
                      have e165 : ev (.tmp 165) = .bool false := hk 165 (by decide)
                      have e176 : ev (.tmp 176) = .bool false := hk 176 (by decide)
                      clear hk hd
                      exact Yield.pick (t := false) rfl e165 ⟨Ext.refl _, e176⟩
                  · intro vals wz hz hv
                    have g154 : vals 0 = .int .i64 ea := hv 0 (by decide)
                    have g155 : vals 1 = .bool false := hv 1 (by decide)
                    have g156 : vals 2 = .bool false := hv 2 (by decide)
                    have g157 : vals 3 = undef := hv 3 (by decide)
                    have g158 : vals 4 = undef := hv 4 (by decide)
                    have g159 : vals 5 = undef := hv 5 (by decide)
                    have g160 : vals 6 = undef := hv 6 (by decide)
                    have g161 : vals 7 = undef := hv 7 (by decide)
                    have g162 : vals 8 = undef := hv 8 (by decide)
                    have g163 : vals 9 = undef := hv 9 (by decide)
                    have g164 : vals 10 = .bool false := hv 10 (by decide)
                    have g165 : vals 11 = .bool false := hv 11 (by decide)
                    have g166 : vals 12 = .int .i64 eb := hv 12 (by decide)
                    have g167 : vals 13 = .bool false := hv 13 (by decide)
                    have g168 : vals 14 = .bool false := hv 14 (by decide)
                    have g169 : vals 15 = undef := hv 15 (by decide)
                    have g170 : vals 16 = undef := hv 16 (by decide)
                    have g171 : vals 17 = undef := hv 17 (by decide)
                    have g172 : vals 18 = undef := hv 18 (by decide)
                    have g173 : vals 19 = undef := hv 19 (by decide)
                    have g174 : vals 20 = undef := hv 20 (by decide)
                    have g175 : vals 21 = undef := hv 21 (by decide)
                    have g176 : vals 22 = .bool false := hv 22 (by decide)
                    have g177 : vals 23 = .bool false := hv 23 (by decide)
                    clear hv
                    simp only [putAll, Act.put, List.setIfInBounds_toArray, List.set_cons_zero, List.set_cons_succ, g154, g155, g156, g157, g158, g159, g160, g161, g162, g163, g164, g165, g166, g167, g168, g169, g170, g171, g172, g173, g174, g175, g176, g177]
                    clear g154
                    clear g155
                    clear g156
                    clear g157
                    clear g158
                    clear g159
                    clear g160
                    clear g161
                    clear g162
                    clear g163
                    clear g164
                    clear g165
                    clear g166
                    clear g167
                    clear g168
                    clear g169
                    clear g170
                    clear g171
                    clear g172
                    clear g173
                    clear g174
                    clear g175
                    clear g176
                    clear g177
                    have HE9 := Lib.hid (HE8.out.trans hz)
                    clear hz
                    go_wp2_with fail
                    go_roundw
                    case rel => exact ⟨m + 1, by omega, by go_num, HE9⟩
                    case measure => simp [intOf]; omega
            · obtain rfl : m = n := by omega
              go_wp2_with fail
              refine (HALIVE.out wr).mono ?_
              rintro e w9 ⟨rfl, hE9⟩
              have HE9 := Lib.hid ((HTT.out.1.ext.trans HE.out).trans hE9)
              clear hE9
              go_wp2_with fail
              go_ret
              exact ⟨rfl, HE9.out⟩

namespace shardTwo
theorem own : ownKnob Tryz.prog.godebug = none := by kernel_rfl
theorem laidOut : laidOutB Tryz.prog = true := by kernel_rfl
set_option linter.unusedVariables false in
set_option maxRecDepth 100000 in
theorem lifted (os : Os) (started : os.Started) (H : Type) (enc : TypeId × Value → H) :
    ReturnsInHanded {} Tryz.checked os 5 .any (Rows.shardTwoSpec.pre6 enc Tryz.prog Tryz.f5 Rows.shardTwoRow.domain false) (Rows.shardTwoSpec.post enc Tryz.prog Tryz.f5 false true false false) := by
  refine returnsInHanded_of_change_sized (C := Tryz.checked) own started (by kernel_rfl) Tryz.func5
    (ChangeSpec.witness6 (enc := enc) (C := Tryz.checked) false ⟨#[], #[.slice none 0 0, .slice none 0 0, .slice none 0 0], []⟩ 8 (by kernel_rfl) (by kernel_rfl) (by kernel_rfl) (by kernel_rfl)) ?_
  intro W base args ds gs before hval0 hW hcnd hsz _
  have hval : ∀ (j : Nat) t v, Tryz.f5.params[j]? = some t → args[j]? = some v → Value.okWide Tryz.prog W .any base t v := hval0
  have hW' := hW
  obtain ⟨p, q, hA0, hV, rfl, hfz, hnd⟩ := hW'
  have hA : DataW.TrodAll enc Tryz.prog W 0 (fun _ => true) true Tryz.f5.params.toList args.toList ds p := hA0
  rw [Tryz.params5] at hA hval
  obtain ⟨v0, vs0, d0, ds0, p0, q0, hargs, rfl, rfl, h0, r0⟩ := trodAll_cons hA
  obtain ⟨v1, vs1, d1, ds1, p1, q1, rfl, rfl, rfl, h1, r1⟩ := trodAll_cons r0
  obtain ⟨v2, vs2, d2, ds2, p2, q2, rfl, rfl, rfl, h2, r2⟩ := trodAll_cons r1
  obtain ⟨rfl, rfl, rfl⟩ := trodAll_nil r2
  obtain rfl : args = #[v0, v1, v2] := by cases args; simp_all
  obtain ⟨rfl, rfl⟩ := trodVars_none hV
  have k0 := h0
  have lt0 : ∀ x ∈ p0, x.block < W.heap.size := by obtain ⟨m, hm⟩ := k0; exact DataW.trod_lt m _ _ _ hm
  obtain ⟨a0, len0, cap0, rfl⟩ := okWide_slice Tryz.underlying64 (hval 0 64 v0 rfl rfl)
  obtain ⟨l0, w0⟩ : ∃ l, Recs W (.slice a0 len0 cap0) l := by
    obtain ⟨fuel, hf⟩ := h0
    obtain ⟨v, l, hcs, hb⟩ := recs_of_raw hf
    simp [Value.cells] at hcs
    subst hcs
    exact ⟨l, hb⟩
  have sz0 : len0 * 56 ≤ 140737488351232 := by obtain ⟨fuel, hf⟩ := h0; exact reach_of_raw (P := Tryz.prog) (x := (d0, p0)) (j := 0) hsz (by rw [Tryz.params5]; rfl) rfl Tryz.underlying64 (by kernel_rfl) hf
  have k1 := h1
  have lt1 : ∀ x ∈ p1, x.block < W.heap.size := by obtain ⟨m, hm⟩ := k1; exact DataW.trod_lt m _ _ _ hm
  obtain ⟨a1, len1, cap1, rfl⟩ := okWide_slice Tryz.underlying25 (hval 1 25 v1 rfl rfl)
  obtain ⟨l1, w1⟩ : ∃ l, Ints W (.slice a1 len1 cap1) l := by
    obtain ⟨fuel, hf⟩ := h1
    obtain ⟨v, l, hcs, hb⟩ := ints_of_raw Tryz.underlying25 Tryz.underlying3 (by kernel_rfl) hf
    simp [Value.cells] at hcs
    subst hcs
    exact ⟨l, hb⟩
  have sz1 : len1 * 8 ≤ 140737488351232 := by obtain ⟨fuel, hf⟩ := h1; exact reach_of_raw (P := Tryz.prog) (x := (d1, p1)) (j := 1) hsz (by rw [Tryz.params5]; rfl) rfl Tryz.underlying25 (by kernel_rfl) hf
  have k2 := h2
  have lt2 : ∀ x ∈ p2, x.block < W.heap.size := by obtain ⟨m, hm⟩ := k2; exact DataW.trod_lt m _ _ _ hm
  obtain ⟨a2, len2, cap2, rfl⟩ := okWide_slice Tryz.underlying25 (hval 2 25 v2 rfl rfl)
  obtain ⟨l2, w2⟩ : ∃ l, Ints W (.slice a2 len2 cap2) l := by
    obtain ⟨fuel, hf⟩ := h2
    obtain ⟨v, l, hcs, hb⟩ := ints_of_raw Tryz.underlying25 Tryz.underlying3 (by kernel_rfl) hf
    simp [Value.cells] at hcs
    subst hcs
    exact ⟨l, hb⟩
  have sz2 : len2 * 8 ≤ 140737488351232 := by obtain ⟨fuel, hf⟩ := h2; exact reach_of_raw (P := Tryz.prog) (x := (d2, p2)) (j := 2) hsz (by rw [Tryz.params5]; rfl) rfl Tryz.underlying25 (by kernel_rfl) hf
  clear hA0 hval0
  refine (shardTwo_walk a0 len0 cap0 l0 a1 len1 cap1 l1 a2 len2 cap2 l2 W w0 w1 w2 (by omega) (by omega)).mono fun e W' ⟨he, bel⟩ => ?_
  subst he
  exact ⟨_, rfl, _, _, _, [], _, [], hW, trodAll_mk1 (shut_bool Tryz.underlying4 _), (trodAll_cons_mk (Below.trod laidOut (by kernel_rfl) (of_decide_eq_true (by kernel_rfl)) k0 bel lt0) (trodAll_cons_mk (Below.trod laidOut (by kernel_rfl) (of_decide_eq_true (by kernel_rfl)) k1 bel lt1) (trodAll_cons_mk (Below.trod laidOut (by kernel_rfl) (of_decide_eq_true (by kernel_rfl)) k2 bel lt2) trodAll_mk0))), rfl, bel.frame _, fun h => by cases h⟩
theorem over : Rows.shardTwoRow.holds Tryz.pinned (OpenSpec.ofChange Rows.shardTwoSpec) :=
  OpenClaim.holds_of_wide 5 Tryz.f5 rfl rfl rfl rfl rfl rfl rfl ⟨rfl, rfl, rfl, rfl, rfl⟩ rfl rfl rfl rfl rfl (by kernel_rfl) Tryz.func5 (by kernel_rfl)
    (of_decide_eq_true (by kernel_rfl)) (by unfold Func.isWrapper; first | (rw [if_pos (by decide +kernel)]; kernel_rfl) | (rw [if_neg (by decide +kernel)]; exact ⟨rfl, rfl⟩))
    (fun os started H enc _ => lifted os started H enc)
theorem proved : Rows.ShardTwoSaid := over
end shardTwo
end Go.Proofs.YtnfieadjjmpnkaaGreat
