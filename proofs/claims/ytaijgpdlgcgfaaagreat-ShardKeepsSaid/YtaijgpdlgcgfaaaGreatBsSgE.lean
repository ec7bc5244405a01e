/-
  Merged: Layer 9: a frame's trim is taken.
-/
import Derived.Test.YtaijgpdlgcgfaaaGreatBsPack
import Derived.Test.YtaijgpdlgcgfaaaGreatBsSgD

namespace Go.Proofs.YtaijgpdlgcgfaaaGreat
set_option linter.unusedSimpArgs false
set_option linter.unusedVariables false
set_option maxRecDepth 100000
open Go.RowKit
/- Layer 9: a frame's trim is taken; a frame is taken. -/
namespace Seg
def trimOf (many trimmed : Nat) (rest : List UInt8) : Option Nat := if (Pack.St.num ⟨rest, 0⟩ (many : Int)).1.done = 0 ∧ trimmed ≤ (Pack.St.num ⟨rest, 0⟩ (many : Int)).2 then some (Pack.St.num ⟨rest, 0⟩ (many : Int)).2 else none
def addTrim (o : Option Nat) (W : What) : What := ⟨W.l, o.getD W.trimmed, W.broken⟩
theorem asTrim_two (many trimmed : Nat) (rest : List UInt8) : asTrim many trimmed (2 :: rest) = trimOf many trimmed rest := by
  unfold asTrim trimOf
  simp
theorem asTrim_else (many trimmed : Nat) {k : UInt8} (h : k ≠ 2) (rest : List UInt8) : asTrim many trimmed (k :: rest) = none := by
  unfold asTrim
  simp [h]
theorem asRec_one (rest : List UInt8) : asRec (1 :: rest) = Rec.dec rest := by
  unfold asRec
  simp
theorem asRec_else {k : UInt8} (h : k ≠ 1) (rest : List UInt8) : asRec (k :: rest) = none := by
  unfold asRec
  simp [h]
theorem step_one {W : What} (hW : W.broken = false) (rest : List UInt8) : step W (1 :: rest) = ⟨(addRec (Rec.dec rest) W).l, W.trimmed, !(Rec.dec rest).isSome⟩ := by
  unfold step addRec
  rw [hW, asRec_one]
  cases Rec.dec rest with
  | some r => simp
  | none => simp [asTrim_else W.l.length W.trimmed (show (1 : UInt8) ≠ 2 by decide)]
theorem step_two {W : What} (hW : W.broken = false) (rest : List UInt8) : step W (2 :: rest) = ⟨W.l, (addTrim (trimOf W.l.length W.trimmed rest) W).trimmed, !(trimOf W.l.length W.trimmed rest).isSome⟩ := by
  unfold step addTrim
  rw [hW, asRec_else (show (2 : UInt8) ≠ 1 by decide), asTrim_two]
  cases trimOf W.l.length W.trimmed rest with
  | some r => simp
  | none => simp
theorem step_else {W : What} (hW : W.broken = false) {k : UInt8} (h1 : k ≠ 1) (h2 : k ≠ 2) (rest : List UInt8) : step W (k :: rest) = ⟨W.l, W.trimmed, true⟩ := by
  unfold step
  rw [hW, asRec_else h1, asTrim_else _ _ h2]
theorem step_nil {W : What} (hW : W.broken = false) : step W [] = ⟨W.l, W.trimmed, true⟩ := by
  unfold step asRec asTrim
  rw [hW]
end Seg

set_option maxHeartbeats 4000000 in
theorem takeTrim9_any {w : World} {B g p : Nat} {vp lv : Value} {ps : List (Value × Rec.R)} {W : Seg.What} {safe : Nat} {br : Bool} (h : SegAt w B g p vp lv ps W safe br) (hW : W.trimmed ≤ W.l.length) (hl : W.l.length ≤ 100000) (hB : B ≤ w.heap.size) (hg : B ≤ g)
    (v : Value) (b : List UInt8) (hv : Bytes w v b) (hb : b.length ≤ 200000) :
    Calls Tryz.prog 146 #[.pointer (some ⟨g, 0, none⟩), v] w fun e w' => e = .returned (.bool (Seg.trimOf W.l.length W.trimmed b).isSome) ∧ ∃ lv' ps', SegAt w' B g p vp lv' ps' (Seg.addTrim (Seg.trimOf W.l.length W.trimmed b) W) safe br ∧ Below B w w' ∧ Keep9 w w' := by
  have H := Lib.hid h
  have HV := Lib.hid hv
  obtain ⟨va, vn, vc, rfl⟩ := hv.isSlice
  obtain ⟨n, hn⟩ : ∃ n, W.l.length = n := ⟨_, rfl⟩
  obtain ⟨t, ht⟩ : ∃ t, W.trimmed = t := ⟨_, rfl⟩
  have HN := Lib.hid (And.intro hn ht)
  rw [hn, ht] at hW ⊢
  rw [hn] at hl
  clear hv h hn ht
  go_enter Tryz.func146, Tryz.ntmps146
  go_wp2_with fail
  refine (newReader_any _ b w HV.out (by omega)).mono ?_
  rintro e w1 ⟨q, rfl, hq, hr1, hE1⟩
  have HR1 := Lib.hid hr1
  have HE1 := Lib.hid hE1
  clear hr1 hE1
  go_wp2_with fail
  refine (seglen_any (H.out.ext HE1.out) (by rw [HN.out.1, HN.out.2]; exact hW) (by rw [HN.out.1]; exact hl)).mono ?_
  rintro e w2 ⟨rfl, hE2⟩
  rw [HN.out.1]
  have HE2 := Lib.hid (HE1.out.trans hE2)
  have HR2 := Lib.hid (HR1.out.ext hE2)
  clear hE2
  obtain ⟨Z, hZ⟩ : ∃ Z, Pack.St.num ⟨b, 0⟩ (n : Int) = Z := ⟨_, rfl⟩
  have hzn := numMost ⟨b, 0⟩ (n : Int) (by omega)
  rw [hZ] at hzn
  have HZ := Lib.hid hZ
  clear hZ
  go_wp2_with fail
  refine (num_any q _ (n : Int) _ HR2.out).mono ?_
  rw [HZ.out]
  rintro e w3 ⟨rfl, hB3, hr3⟩
  have hE3 : Ext w w3 := Below.trans (B := w.heap.size) HE2.out (hB3.below hq HE2.out.size)
  have HE3 := Lib.hid hE3
  have HS3 := Lib.hid (H.out.ext hE3)
  have HR3 := Lib.hid hr3
  have hto : Seg.trimOf n t b = if Z.1.done = 0 ∧ t ≤ Z.2 then some Z.2 else none := by unfold Seg.trimOf; rw [HZ.out]
  obtain ⟨zs, zn⟩ := Z
  simp only at hzn hto HR3 ⊢
  have HTO := Lib.hid hto
  have c1 : w3.cell? ⟨g, 1, none⟩ = some (.int .i64 (t : Nat)) := by rw [← HN.out.2]; exact cell_of_heap HS3.out.heap 1
  obtain ⟨D, hD⟩ : ∃ D, zs.done = D := ⟨_, rfl⟩
  rw [hD] at HTO
  have HD := Lib.hid hD
  clear hE3 hB3 hr3 hto hD
  go_wp2_with fail
  refine (end_any q _ w3 HR3.out).mono ?_
  rintro e w4 ⟨rfl, rfl⟩
  rw [HD.out]
  have e0 : Seg.addTrim none W = W := by unfold Seg.addTrim; simp
  by_cases hd : D = 0
  · subst hd
    by_cases hlt : zn < t
    · have hto2 : Seg.trimOf n t b = none := by rw [HTO.out, if_neg (by omega)]
      go_wp2_with fail
      go_ret
      rw [hto2, e0]
      exact ⟨rfl, _, ps, HS3.out, HE3.out.mono hB, Keep9.ext HE3.out⟩
    · have hto2 : Seg.trimOf n t b = some zn := by rw [HTO.out, if_pos ⟨rfl, by omega⟩]
      have HTO2 := Lib.hid hto2
      have hdr := drop9_any HS3.out (by rw [HN.out.1, HN.out.2]; exact hW) (by rw [HN.out.1]; exact hl) zn (by rw [HN.out.2]; omega) (by rw [HN.out.1]; omega)
      have HDR := Lib.hid hdr
      clear hto2 hdr e0
      go_wp2_with fail
      refine HDR.out.mono ?_
      rintro e w5 ⟨rfl, lv', hd5⟩
      have HD5 := Lib.hid hd5
      clear hd5
      go_wp2_with fail
      go_ret
      rw [HTO2.out]
      refine ⟨rfl, lv', _, HD5.out.seg, (HE3.out.mono hB).trans (DropAt.below HS3.out HD5.out hg (Nat.le_trans hB HE3.out.size)), (Keep9.ext HE3.out).trans (Keep9.drop HS3.out HD5.out)⟩
  · have hd2 : (D != 0) = true := by simpa using hd
    have hto2 : Seg.trimOf n t b = none := by rw [HTO.out, if_neg (by omega)]
    go_wp2_with fail
    go_ret
    rw [hto2, e0]
    exact ⟨rfl, _, ps, HS3.out, HE3.out.mono hB, Keep9.ext HE3.out⟩

set_option maxHeartbeats 4000000 in
/-- A frame is taken. -/
theorem take9_any {w : World} {B g p : Nat} {vp lv : Value} {ps : List (Value × Rec.R)} {W : Seg.What} {safe : Nat} {br : Bool} (h : SegAt w B g p vp lv ps W safe br) (hW : W.trimmed ≤ W.l.length) (hWb : W.broken = false) (hl : W.l.length ≤ 100000) (hB : B ≤ w.heap.size) (hg : B ≤ g) (hvp : ∀ k, vp.ownBlock = some k → k < w.heap.size)
    (v : Value) (f : List UInt8) (hv : Bytes w v f) (hb : f.length ≤ 200000) :
    Calls Tryz.prog 116 #[.pointer (some ⟨g, 0, none⟩), v] w fun e w' => e = .returned (.bool (!(Seg.step W f).broken)) ∧ ∃ lv' ps', SegAt w' B g p vp lv' ps' ⟨(Seg.step W f).l, (Seg.step W f).trimmed, false⟩ safe br ∧ Below B w w' ∧ Keep9 w w' := by
  have eW : W = ⟨W.l, W.trimmed, false⟩ := by rw [← hWb]
  have HV := Lib.hid hv
  obtain ⟨va, vn, vc, rfl⟩ := hv.isSlice
  have hln := hv.len
  clear hv
  cases f with
  | nil =>
    obtain rfl : vn = 0 := by simpa using hln.1
    rw [Seg.step_nil hWb]
    rw [eW] at h
    have H := Lib.hid h
    clear h hln
    go_enter Tryz.func116, Tryz.ntmps116
    go_wp2_with fail
    go_ret
    exact ⟨rfl, _, ps, H.out, Below.refl _ _, Keep9.ext (Ext.refl _)⟩
  | cons k rest =>
    have hvn : vn = rest.length + 1 := by simpa using hln.1
    obtain ⟨_, _, e1, _, _, _, hcell⟩ := HV.out.open
    obtain ⟨bb, bo, rfl, hc0⟩ := hcell 0 (by simp)
    injection e1 with e1 e2 e3
    clear e2 e3
    subst e1
    have hcl : ∀ i (hi : i < rest.length), w.cell? ⟨bb, bo + 1 + i, none⟩ = some (.int .u8 (rest[i].toNat : Int)) := by
      intro i hi
      obtain ⟨b', o', eb, hc⟩ := hcell (i + 1) (by simpa using hi)
      injection eb with eb
      injection eb with eb eo
      subst eb eo
      rw [show bo + 1 + i = bo + (i + 1) by omega, hc]
      rfl
    have hrl : rest.length ≤ maxLen := by
      have := hln.2
      unfold maxLen
      omega
    have hrest0 : ∀ A, (if vn = 1 then (some ⟨bb, bo, none⟩ : Option Addr) else some ⟨bb, bo + 1, none⟩) = A → Bytes w (.slice A (vn - 1) (vn - 1)) rest := by
      rintro A rfl
      have hm : vn - 1 = rest.length := by omega
      have e2 : (u8s rest).length = rest.length := u8s_length rest
      refine ⟨if vn = 1 then some ⟨bb, bo, none⟩ else some ⟨bb, bo + 1, none⟩, rest.length, by rw [hm, e2], by rw [e2]; exact Nat.le_refl _, hrl, fun e => (by split at e <;> cases e), fun i hi => ?_⟩
      rw [e2] at hi
      refine ⟨bb, bo + 1, by rw [if_neg (by omega)], ?_⟩
      rw [hcl i hi]
      simp [u8s]
    obtain ⟨A, hA⟩ : ∃ A, (if vn = 1 then (some ⟨bb, bo, none⟩ : Option Addr) else some ⟨bb, bo + 1, none⟩) = A := ⟨_, rfl⟩
    have hrest := hrest0 A hA
    have hbr : rest.length ≤ 200000 := by simp only [List.length_cons] at hb; omega
    have hvcx : vn ≤ vc := hln.2.1
    have hvc9 : vc ≤ 9223372036854775807 := hln.2.2
    have HR := Lib.hid hrest
    have hvn2 : ((vn : Int) == 0) = false := by rw [beq_eq_false_iff_ne]; omega
    have hvn3 : 1 ≤ vn := by omega
    have H := Lib.hid h
    simp only [Nat.add_zero] at hc0
    clear hvn hrest h hrest0 hcl hrl hln hb hcell
    obtain ⟨K, hK⟩ : ∃ K : Nat, k.toNat = K := ⟨_, rfl⟩
    have hc1 : w.cell? ⟨bb, bo, none⟩ = some (.int .u8 (K : Nat)) := by rw [← hK]; exact hc0
    clear hc0
    by_cases k1 : k = 1
    · obtain rfl : K = 1 := by rw [← hK, k1]; rfl
      subst k1
      rw [Seg.step_one hWb]
      have hcall := takeRec9_any H.out hW hl hB hg hvp _ rest HR.out hbr
      have HC := Lib.hid hcall
      clear hcall hK hbr eW
      go_enter Tryz.func116, Tryz.ntmps116
      go_wp2_with fail
      refine HC.out.mono ?_
      rintro e w1 ⟨rfl, lv', ps', hs, hb1, hk1⟩
      have HS := Lib.hid hs
      clear hs
      go_wp2_with fail
      go_ret
      refine ⟨by simp, lv', ps', ?_, hb1, hk1⟩
      have := HS.out
      unfold Seg.addRec at this ⊢
      rwa [hWb] at this
    · have k1' : ¬ K = 1 := fun e => k1 (by rw [← UInt8.toNat_inj, hK, e]; rfl)
      by_cases k2 : k = 2
      · obtain rfl : K = 2 := by rw [← hK, k2]; rfl
        subst k2
        rw [Seg.step_two hWb]
        have hcall := takeTrim9_any H.out hW hl hB hg _ rest HR.out hbr
        have HC := Lib.hid hcall
        clear hcall hK hbr eW
        go_enter Tryz.func116, Tryz.ntmps116
        go_wp2_with fail
        refine HC.out.mono ?_
        rintro e w1 ⟨rfl, lv', ps', hs, hb1, hk1⟩
        have HS := Lib.hid hs
        clear hs
        go_wp2_with fail
        go_ret
        refine ⟨by simp, lv', ps', ?_, hb1, hk1⟩
        have := HS.out
        unfold Seg.addTrim at this ⊢
        rwa [hWb] at this
      · have k2' : ¬ K = 2 := fun e => k2 (by rw [← UInt8.toNat_inj, hK, e]; rfl)
        have q1 : ((K : Int) == 1) = false := by rw [beq_eq_false_iff_ne]; omega
        have q2 : ((K : Int) == 2) = false := by rw [beq_eq_false_iff_ne]; omega
        rw [Seg.step_else hWb k1 k2]
        clear hK
        go_enter Tryz.func116, Tryz.ntmps116
        go_wp2_with fail
        go_ret
        refine ⟨rfl, lv, ps, ?_, Below.refl _ _, Keep9.ext (Ext.refl _)⟩
        have := H.out
        rw [eW] at this
        exact this
end Go.Proofs.YtaijgpdlgcgfaaaGreat
