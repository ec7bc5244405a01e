import Derived.Test.YtnoeconcpgdjlaaGreatBsMath2
import Derived.Test.YtnoeconcpgdjlaaGreatBsPgA
namespace Go.Proofs.YtnoeconcpgdjlaaGreat
set_option linter.unusedSimpArgs false
set_option linter.unusedVariables false
set_option maxRecDepth 100000
open Go.RowKit
def zgv (p : Nat) (w : World) (r : Option (List UInt8)) (e : Ending) (w' : World) : Prop :=
 But p w w' /\ TB w' p /\ match r with
  | none => e = .returned (.tuple #[.slice none 0 0, .int .i64 0, .bool false])
  | some x => ∃ a n c, e = .returned (.tuple #[.slice a n c, .int .i64 ((Page.frame x).length : Nat), .bool true]) /\ BytesU w' (.slice a n c) x
set_option maxHeartbeats 2000000 in
theorem zm9 (p : Nat) (v : Value) (l : List UInt8) (w : World) (ht : TB w p) (hv : Bytes w v l) (hl : l.length <= 200000) :
 Calls Tryz.prog 145 #[v, .pointer (some ⟨p, 0, none⟩)] w (zgv p w (Page.first l)) := by
 have HV := Hi hv
 have HT := Hi ht
 obtain ⟨a, cap, rfl, hcap, hmax, _, _⟩ := hv.open
 unfold maxLen at hmax
 have hbig : (l.length : Int) <= 9223372036854775807 := by omega
 clear hv
 have hpl : Page.peek l = Pack.St.num ⟨l.take (min l.length 9), 0⟩ 65536 := rfl
 obtain ⟨M, hM⟩ : ∃ M, min l.length 9 = M := ⟨_, rfl⟩
 have hM1 : M <= l.length := by omega
 have hM9 : M <= 9 := by omega
 have HM := Hi hM
 clear hM
 go_enter Tryz.func145, Tryz.ntmps145
 go_upto_region 1 with fail
 go_cut [7] (fun s wx => w = wx /\ s = .int .i64 (M : Nat))
 case first =>
  have hM := HM.out
  go_wp2_with fail
  all_goals
   go_meet
   refine ⟨rfl, ?_⟩
   congr 1
   omega
 case rest =>
  obtain ⟨rfl, rfl⟩ := hcut
  have hb9 : Bytes w (.slice a M M) (l.take M) := HV.out.part0 M hM1
  have HB := Hi hb9
  have hl9 : (l.take M).length <= 140737488355328 := by simp; omega
  clear hb9
  go_wp2_with fail
  refine (zce _ _ w HB.out hl9).mono ?_
  rintro e w1 ⟨q, rfl, hq, hr1, hE1⟩
  go_wp2_with fail
  refine (zcp q _ 65536 w1 hr1).mono ?_
  rintro e w2 ⟨rfl, hB2, hr2⟩
  have hpk : Pack.St.num ⟨l.take M, 0⟩ 65536 = Page.peek l := by rw [hpl, HM.out]
  rw [hpk] at hr2 ⊢
  have hple := Page.peek_le l
  have hlm := Page.peek_left l
  rw [HM.out] at hlm
  obtain ⟨N, hN⟩ : ∃ N, (Page.peek l).2 = N := ⟨_, rfl⟩
  obtain ⟨L, hL⟩ : ∃ L, (Page.peek l).1.left.length = L := ⟨_, rfl⟩
  obtain ⟨E, hE⟩ : ∃ E, (Page.peek l).1.err = E := ⟨_, rfl⟩
  have hhd : Page.headOf l = M - L := by unfold Page.headOf; rw [HM.out, hL]
  have hsz : Page.sizeOf l = M - L + N + 4 := by unfold Page.sizeOf; rw [hhd, hN]
  have HH := Hi hhd
  have HS := Hi hsz
  have HN := Hi hN
  have HL := Hi hL
  have HE := Hi hE
  rw [hN] at hple
  rw [hL] at hlm
  have hB02 : Ext w w2 := Below.trans (B := w.heap.size) hE1 (hB2.below hq hE1.size)
  have ht2 : TB w2 p := ht.ext hB02
  have HPK := Hi hpk
  rw [hN]
  clear hpl hhd hsz hN hL hE hpk ht
  go_wp2_with fail
  refine (zrw q _ w2 hr2).mono ?_
  rintro e w3 ⟨rfl, rfl⟩
  rw [HL.out]
  have hsub : IntKind.i64.wrap ((M : Int) - (L : Int)) = ((M - L : Nat) : Int) := by rw [IntWalk.i64_in _ (by omega)]; omega
  go_wp2_with fail
  refine (zsx q _ w2 hr2).mono ?_
  rintro e w3 ⟨rfl, rfl⟩
  rw [HE.out]
  obtain ⟨Z, hZ⟩ : ∃ Z : Nat, M - L + N + 4 = Z := ⟨_, rfl⟩
  have hz : ((M - L : Nat) : Int) + (N : Int) + 4 = (Z : Int) := by omega
  rw [hz]
  obtain ⟨H, hH⟩ : ∃ H : Nat, M - L = H := ⟨_, rfl⟩
  rw [hH]
  have hHZ : H + N + 4 = Z := by omega
  have HS2 : Hid (Page.sizeOf l = Z) := by have := HS.out; exact Hi (this.trans hZ)
  have HH2 : Hid (Page.headOf l = H) := by have := HH.out; exact Hi (this.trans hH)
  clear hsub hZ hz hH HS HH
  by_cases hE0 : E = 0
  . subst hE0
    have hf0 : Page.sizeOf l <= l.length -> Page.first l = (Crc.cutOf (l.take Z)).map (List.drop H) := fun h => by
     have := Page.first_cutOf HE.out h
     rwa [HS2.out, HH2.out] at this
    by_cases hzl : Z <= l.length
    . have HF := Hi (hf0 (by rw [HS2.out]; exact hzl))
      clear hf0
      have hb2 : Bytes w2 (.slice a Z Z) (l.take Z) := (HV.out.below hB02).part0 Z hzl
      have HB2 := Hi hb2
      have HT2 := Hi ht2
      clear hb2 ht2
      obtain ⟨d, c, hd, htab⟩ := HT2.out
      have HD := Hi hd
      have HTab := Hi htab
      have hlt : (l.take Z).length <= 200000 := by simp; omega
      have HLT := Hi hlt
      clear hd htab hlt
      go_wp2_with fail
      refine (zn2 p d c _ (l.take Z) w2 HTab.out HD.out HB2.out HLT.out).mono ?_
      rintro e w3 ⟨⟨d', hd', ht3⟩, hB3, hr⟩
      have HT3 : Hid (TB w3 p) := Hi ⟨d', _, hd', ht3⟩
      have hbut : But p w w3 := (Ext.but hB02 p).trans hB3
      clear hd' ht3 hB3
      obtain ⟨C, hC⟩ : ∃ C, Crc.cutOf (l.take Z) = C := ⟨_, rfl⟩
      have HC := Hi hC
      rw [hC] at hr
      clear hC
      cases C with
      | none =>
       simp only at hr
       subst hr
       have HF2 : Hid (Page.first l = none) := Hi (by rw [HF.out, HC.out]; rfl)
       go_wp2_with fail
       go_ret3
       exact ⟨hbut, HT3.out, by rw [HF2.out]; rfl⟩
      | some W =>
       obtain ⟨u, rfl, ho⟩ := hr
       have hwl := Page.cut_len HC.out
       have hwl2 : W.length = H + N := by
        rw [List.length_take] at hwl
        omega
       have hbu := BytesU.own ho
       obtain ⟨a3, n3, c3, rfl⟩ := zao ho
       have hlen := hbu.1.len
       obtain ⟨rfl, hl3, hl4⟩ := hlen
       have hpart := hbu.part H W.length (by omega) (Nat.le_refl _)
       rw [List.take_length] at hpart
       have HF2 : Hid (Page.first l = some (W.drop H)) := Hi (by rw [HF.out, HC.out]; rfl)
       have hHW : H <= W.length := by omega
       have hcw : (W.length : Int) <= 9223372036854775807 := by omega
       have hszf : (Page.frame (W.drop H)).length = Z := by rw [<- (Page.first_size HF2.out).1]; exact HS2.out
       have HSZ := Hi hszf
       by_cases hWH : W.length = H
       . rw [if_pos hWH, hWH, Nat.sub_self] at hpart
         have HP := Hi hpart
         clear hbu hpart ho hwl hwl2 hszf
         go_wp2_with fail
         go_ret3
         refine ⟨hbut, HT3.out, ?_⟩
         rw [HF2.out]
         refine ⟨_, _, _, ?_, HP.out⟩
         rw [HSZ.out]
         rfl
       . rw [if_neg hWH] at hpart
         have HP := Hi hpart
         clear hbu hpart ho hwl hwl2 hszf
         go_wp2_with fail
         go_ret3
         refine ⟨hbut, HT3.out, ?_⟩
         rw [HF2.out]
         refine ⟨_, _, _, ?_, HP.out⟩
         rw [HSZ.out]
         rfl
    . have HF2 : Hid (Page.first l = none) := Hi (Page.first_short (by rw [HS2.out]; omega))
      have hlz : (l.length : Int) < (Z : Int) := by omega
      clear hf0
      go_wp2_with fail
      go_ret3
      exact ⟨(Ext.but hB02 p), ht2, by rw [HF2.out]; rfl⟩
  . have HF2 : Hid (Page.first l = none) := Hi (Page.first_wrong (by rw [HE.out]; exact hE0))
    go_wp2_with fail
    go_ret3
    exact ⟨(Ext.but hB02 p), ht2, by rw [HF2.out]; rfl⟩
end Go.Proofs.YtnoeconcpgdjlaaGreat
