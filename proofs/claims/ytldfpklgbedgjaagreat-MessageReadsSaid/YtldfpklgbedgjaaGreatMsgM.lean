/-
 Merged: Layer 7, the program: a message as bytes.
-/
import Derived.Test.YtldfpklgbedgjaaGreatBrCrc
import Derived.Test.YtldfpklgbedgjaaGreatBrLib
import Derived.Test.YtldfpklgbedgjaaGreatMsgD
import Derived.Test.YtldfpklgbedgjaaGreatMsgL
namespace Go.Proofs.YtldfpklgbedgjaaGreat
set_option linter.unusedSimpArgs false
set_option linter.unusedVariables false
set_option maxRecDepth 100000
open Go.RowKit
def OwnsEnc7 (w : World) (m : Msg.M) (x : Ending) (w' : World) : Prop := ∃ u, x = .returned (.tuple #[u, .int .i64 0]) ∧ Own w' w.heap.size u (Msg.enc m) ∧ Ext w w'
theorem text_split (m : Msg.M) : nums [m.kind, m.src, m.dst, m.term] ++ Msg.parts m = Msg.text m := by
 unfold Msg.text Msg.num nums
 simp
theorem Ints.new4 (w : World) (a b c d : Int) : Ints (w.alloc (.cells #[.int .i64 a, .int .i64 b, .int .i64 c, .int .i64 d] 3)) (.slice (some ⟨w.heap.size, 0, none⟩) 4 4) [a, b, c, d] :=
 Sl.made w (i64s [a, b, c, d]) 3 4 (by simp) (by simp [maxLen]) (fr := (0, 0))
set_option maxHeartbeats 32000000 in
theorem encode7_own (v : Value) (m : Msg.M) (w : World) (hv : IsMsg w v m) (hr : Msg.right m = true) : Calls Tryz.prog 11 #[v] w (OwnsEnc7 w m) := by
 have HR := Lib.hid hr
 have hbx := box_msg
 obtain ⟨a0, n0, k0, a1, n1, k1, a2, n2, k2, a3, n3, k3, rfl, h1, h2, h3, h4⟩ := hv.opened
 have HM := Lib.hid (Msg7.new (m := m) 45 h1 h2 h3 h4)
 have hE0 := Ext.alloc w (.cells (msgCells m (.slice a0 n0 k0) (.slice a1 n1 k1) (.slice a2 n2 k2) (.slice a3 n3 k3)) 45)
 obtain ⟨hh, hi⟩ := Msg.right_is hr
 obtain ⟨x1, x2, x3, x4, x5⟩ := Msg.head_ok hh
 have hk := Msg.kind_in hr
 have HOK := Lib.hid (show [m.kind, m.src, m.dst, m.term].all okNum = true by simp only [List.all_cons, List.all_nil, Bool.and_true, Bool.and_eq_true]; exact ⟨okNumOf (by omega), okNumOf (by omega), okNumOf (by omega), okNumOf (by omega)⟩)
 have hN := nums_le _ HOK.out
 have hle := Msg.enc_le hr
 have htl : (Msg.text m).length ≤ 1203 := by unfold Msg.enc at hle; rw [List.length_append] at hle; omega
 simp only [List.length_cons, List.length_nil] at hN
 clear h1 h2 h3 h4 hv hi hh hk x1 x2 x3 x4 x5 hr hle
 go_enter Tryz.func11, Tryz.ntmps11
 go_wp2_with (refine ldM (by rfl) _ rfl rfl HM.out ?_)
 refine (right7_any _ m _ HM.out.isMsg).mono ?_
 rw [HR.out]
 rintro e w1 ⟨rfl, hE1⟩
 have HM1 := Lib.hid (HM.out.ext hE1)
 have e1 := hE0.trans hE1
 obtain ⟨C0, C1, C2, C3, C4, C5, C6⟩ := HM1.out.at_.head
 go_wp2_with fail
 refine (packNum_any _ _ [] [m.kind, m.src, m.dst, m.term] _ (bytes_none _) (Ints.new4 w1 _ _ _ _) (by simp) (by simp)).mono ?_
 rw [HOK.out, if_pos rfl, List.nil_append]
 rintro e w2 ⟨u2, rfl, ho2, hE2⟩
 have e2 : Ext w1 w2 := (Ext.alloc _ _).trans hE2
 have HM2 := Lib.hid (HM1.out.ext e2)
 have HB2 := Lib.hid ho2.bytes
 obtain ⟨X, hX⟩ : ∃ X, nums [m.kind, m.src, m.dst, m.term] = X := ⟨_, rfl⟩
 rw [hX] at HB2 hN
 have HTX := Lib.hid (show X ++ Msg.parts m = Msg.text m by rw [← hX]; exact text_split m)
 obtain ⟨ua, un, uc, rfl⟩ := ho2.isSlice
 clear C0 C1 C2 C3 C4 C5 C6 hX ho2
 go_wp2_with fail
 generalize hq : w.heap.size = q at *
 have HQ := Lib.hid hq
 clear hq hbx
 refine wp_region_tail (by kernel_rfl) 4 Ext (fun iop v w => match iop with
  | 0 => ∃ p, v = .pointer (some ⟨p, 0, none⟩) ∧ Tab w p 0 0 ∧ w2.heap.size ≤ p
  | 1 => v = .slice ua un uc
  | 2 => v = .agg (msgCells m (.slice a0 n0 k0) (.slice a1 n1 k1) (.slice a2 n2 k2) (.slice a3 n3 k3))
  | _ => Bytes w v (X ++ Msg.parts m)
  ) (by kernel_rfl) (by kernel_rfl) (by decide) (fun _ _ _ h k => Ext.trans h k) (fun a => Ext.refl a) (Ext.drew _) ?_ ?_ ?_
 · intro iop v wa wb hF hL
   rcases iop with _ | iop; (first | exact hF | (obtain ⟨p, h1, h2, h3⟩ := hF; exact ⟨p, h1, h2.ext hL, h3⟩) | exact Bytes.below hF hL)
   iterate 2 (rcases iop with _ | iop; exact hF)
   (first | exact hF | (obtain ⟨p, h1, h2, h3⟩ := hF; exact ⟨p, h1, h2.ext hL, h3⟩) | exact Bytes.below hF hL)
 · refine Obls.cons ?_ (Obls.cons ?_ (Obls.cons ?_ (Obls.cons ?_ (Obls.nil))))
   · intro ev wy hp hl hk hd
     clear hk hd
     refine Yield.call rfl hp Tryz.func22 rfl (by kernel_rfl) ?_
     simp only [List.map_toArray, List.map_nil]
     exact (new_any wy).mono fun e w' ⟨he, ht, hE⟩ => ⟨_, he, hE, _, rfl, ht, hl.size⟩
   · intro ev wy hp hl hk hd
     have e4 : ev (.tmp 4) = .slice ua un uc := hk 4 (by decide)
     clear hk hd
     exact Yield.mv rfl ⟨Ext.refl _, e4⟩
   · intro ev wy hp hl hk hd
     have e1 : ev (.tmp 1) = .pointer (some ⟨q, 0, none⟩) := hk 1 (by decide)
     clear hk hd
     exact Yield.load rfl e1 (HM2.out.ext hl).ld ⟨Ext.refl _, rfl⟩
   · intro ev wy hp hl hk hd
     have e23 : ev (.tmp 23) = .slice ua un uc := hk 23 (by decide)
     have e24 : ev (.tmp 24) = .agg (msgCells m (.slice a0 n0 k0) (.slice a1 n1 k1) (.slice a2 n2 k2) (.slice a3 n3 k3)) := hk 24 (by decide)
     clear hk hd
     refine Yield.call rfl hp Tryz.func24 rfl (by kernel_rfl) ?_
     simp only [List.map_toArray, List.map_cons, List.map_nil, e23, e24]
     exact (addFields7_any _ _ X m wy (HB2.out.below hl) (HM2.out.ext hl).isMsg HR.out (by omega)).mono fun e w' ⟨u, he, hb, hE⟩ => ⟨u, he, hE, hb⟩
 · intro vals wz hz hv
   have g22 : (fun (v : Value) (w : World) => ∃ p, v = .pointer (some ⟨p, 0, none⟩) ∧ Tab w p 0 0 ∧ w2.heap.size ≤ p) (vals 0) wz := hv 0 (by decide)
   have g23 : vals 1 = .slice ua un uc := hv 1 (by decide)
   have g24 : vals 2 = .agg (msgCells m (.slice a0 n0 k0) (.slice a1 n1 k1) (.slice a2 n2 k2) (.slice a3 n3 k3)) := hv 2 (by decide)
   have g25 : (fun (v : Value) (w : World) => Bytes w v (X ++ Msg.parts m)) (vals 3) wz := hv 3 (by decide)
   clear hv
   simp only [List.take_succ_cons, List.take_zero, List.drop_succ_cons, List.drop_zero]
   simp only [putAll, Act.put, List.setIfInBounds_toArray, List.set_cons_zero, List.set_cons_succ, g23, g24]
   generalize vals 0 = v22 at *
   clear g23
   clear g24
   generalize vals 3 = v25 at *
   obtain ⟨p, rfl, ht, hp⟩ := g22
   rw [HTX.out] at g25
   have HG := Lib.hid g25
   have HTAB := Lib.hid ht
   clear g25 ht
   go_wp2_with fail
   refine (put_own p 0 0 _ _ _ HTAB.out (.inl rfl) HG.out (by omega)).mono ?_
   rintro e w7 ⟨v7, d7, rfl, ho7, hB7, hd7, ht7⟩
   have e3 : Ext w w2 := e1.trans e2
   have hq2 : w.heap.size = q := HQ.out
   have e7 : Ext w w7 := Below.trans (B := w.heap.size) (e3.trans hz) (hB7.below (Nat.le_trans e3.size hp) (e3.trans hz).size)
   go_wp2_with fail
   go_ret2
   exact ⟨_, rfl, rowLower ho7 (by rw [HQ.out]; have := (e3.trans hz).size; omega), e7⟩
end Go.Proofs.YtldfpklgbedgjaaGreat
