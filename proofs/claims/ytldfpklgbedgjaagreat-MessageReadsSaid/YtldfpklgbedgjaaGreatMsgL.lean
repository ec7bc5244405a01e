/-
 Merged: Layer 7, the program: a message as bytes.
-/
import Derived.Test.YtldfpklgbedgjaaGreatBrCrc
import Derived.Test.YtldfpklgbedgjaaGreatBrLib
import Derived.Test.YtldfpklgbedgjaaGreatMsgD
import Derived.Test.YtldfpklgbedgjaaGreatMsgK
namespace Go.Proofs.YtldfpklgbedgjaaGreat
set_option linter.unusedSimpArgs false
set_option linter.unusedVariables false
set_option maxRecDepth 100000
open Go.RowKit
theorem packBool7 (v : Value) (l : List UInt8) (is : Bool) (w : World) (hv : Bytes w v l) (hl : l.length ≤ 60000000000000) : Calls Tryz.prog 67 #[v, .bool is] w (GivesOwn w.heap.size w (l ++ Msg.boolOf is)) := by
 have := packBool_any v l is w hv hl
 cases is <;> exact this
set_option maxHeartbeats 32000000 in
theorem addFields7_any (bv v : Value) (l : List UInt8) (m : Msg.M) (w : World) (hb : Bytes w bv l) (hv : IsMsg w v m) (hr : Msg.right m = true) (hl : l.length ≤ 1000) :
 Calls Tryz.prog 24 #[bv, v] w fun e w' => ∃ u, e = .returned u ∧ Bytes w' u (l ++ Msg.parts m) ∧ Ext w w' := by
 have HT := Lib.hid (tail7_eq hr l)
 obtain ⟨r1, r2, r3, r4⟩ := ranges7 hr
 obtain ⟨z1, z2, z3⟩ := right_of_bits hr
 obtain ⟨ba, bn, bc, rfl⟩ := hb.isSlice
 obtain ⟨a0, n0, k0, a1, n1, k1, a2, n2, k2, a3, n3, k3, rfl, h1, h2, h3, h4⟩ := hv.opened
 generalize hrt : Value.slice a0 n0 k0 = rt at *
 generalize het : Value.slice a1 n1 k1 = et at *
 generalize hsv : Value.slice a2 n2 k2 = sv at *
 generalize hdv : Value.slice a3 n3 k3 = dv at *
 clear hrt het hsv hdv
 have hbx := box_msg
 have hsz : (w.alloc (.cells #[.slice ba bn bc] 38)).heap.size = w.heap.size + 1 := World.size_alloc _ _
 have hat : MsgAt 45 ((w.alloc (.cells #[.slice ba bn bc] 38)).alloc (.cells (msgCells m rt et sv dv) 45)) (w.heap.size + 1) m rt et sv dv := by
  have := MsgAt.new 45 (w.alloc (.cells #[.slice ba bn bc] 38)) m rt et sv dv
  rwa [hsz] at this
 have hE0 := ext_two w (.cells #[.slice ba bn bc] 38) (.cells (msgCells m rt et sv dv) 45)
 have A0 := Lib.hid (show AF w w.heap.size (w.heap.size + 1) m rt et sv dv l ((w.alloc (.cells #[.slice ba bn bc] 38)).alloc (.cells (msgCells m rt et sv dv) 45)) from
  ⟨hat, ⟨ba, bn, bc, (heap_two w _ _).1, hb.below hE0⟩, hE0, Nat.le_refl _, by omega, by omega⟩)
 have H1 := Lib.hid h1
 have H2 := Lib.hid h2
 have H3 := Lib.hid h3
 have H4 := Lib.hid h4
 have Z1 := Lib.hid z1
 have Z2 := Lib.hid z2
 have Z3 := Lib.hid z3
 have R1 := Lib.hid r1
 have R2 := Lib.hid r2
 have R3 := Lib.hid r3
 have R4 := Lib.hid r4
 have n1 := Nat.le_trans (opt7_le m 1 (Msg.num m.shard)) (Msg.num_le r1.2)
 have n2 := Nat.le_trans (opt7_le m 2 (Msg.num m.number)) (Msg.num_le r2.2)
 have n4 := Nat.le_trans (opt7_le m 8 (Msg.num m.ballot)) (Msg.num_le r3.2)
 have n5 := Nat.le_trans (opt7_le m 16 (Msg.num m.old)) (Msg.num_le r4.2)
 have n3 : (opt7 m 4 (Msg.textOf (Ent.enc m.ent))).length ≤ 60009 := by
  unfold opt7
  cases hb4 : hasBit (mask m) 4 with
  | true => exact textOf7_le (by have := Ent.enc_le (z1 hb4); omega)
  | false => exact Nat.zero_le _
 have n7 : (opt7 m 64 (Msg.textOf (Rec.enc m.reco))).length ≤ 60009 := by
  unfold opt7
  cases hb4 : hasBit (mask m) 64 with
  | true => exact textOf7_le (by have := Rec.enc_le (z2 hb4); omega)
  | false => exact Nat.zero_le _
 have n6 : (opt7 m 32 (Msg.boolOf m.is)).length ≤ 1 := Nat.le_trans (opt7_le m 32 _) (Nat.le_of_eq (Msg.boolOf_le m.is))
 have HI1 := Lib.hid (show Ints (((w.alloc (.cells #[.slice ba bn bc] 38)).alloc (.cells (msgCells m rt et sv dv) 45)).alloc (.cells #[.int .i64 m.shard] 3)) (.slice (some ⟨w.heap.size + 1 + 1, 0, none⟩) 1 1) [m.shard] by
  have h := Ints.new1 ((w.alloc (.cells #[.slice ba bn bc] 38)).alloc (.cells (msgCells m rt et sv dv) 45)) m.shard
  rwa [show ((w.alloc (.cells #[.slice ba bn bc] 38)).alloc (.cells (msgCells m rt et sv dv) 45)).heap.size = w.heap.size + 1 + 1 from by rw [World.size_alloc, hsz]] at h)
 clear h1 h2 h3 h4 z1 z2 z3 r1 r2 r3 r4 hb hv hr hsz hE0
 obtain ⟨C0, C1, C2, C3, C4, C5, C6⟩ := hat.head
 clear hat C0 C1 C2 C3 C5 C6
 go_enter Tryz.func24, Tryz.ntmps24
 go_wp2_with fail
 refine (add7_any 1 m.shard _ w _ _ _ m rt et sv dv l (A0.out.ext (Ext.alloc _ _)) HI1.out R1.out (by omega)).mono ?_
 rintro e w1 ⟨rfl, hA1⟩
 clear C4
 obtain ⟨y1, hy1⟩ : ∃ y, y = l ++ opt7 m 1 (Msg.num m.shard) := ⟨_, rfl⟩
 have hl1 : y1.length = l.length + (opt7 m 1 (Msg.num m.shard)).length := by rw [hy1, List.length_append]
 have A1 := Lib.hid (show AF w w.heap.size (w.heap.size + 1) m rt et sv dv y1 w1 by rw [hy1]; exact hA1)
 have Y1 := Lib.hid hy1
 clear hA1 hy1
 have C5 := A1.out.at_.head.2.2.2.2.2.1
 go_wp2_with fail
 refine (add7_any 2 m.number _ w _ _ _ m rt et sv dv y1 (A1.out.ext (Ext.alloc _ _)) (Ints.new1 _ _) R2.out (by omega)).mono ?_
 rintro e w2 ⟨rfl, hA2⟩
 clear C5
 obtain ⟨y2, hy2⟩ : ∃ y, y = y1 ++ opt7 m 2 (Msg.num m.number) := ⟨_, rfl⟩
 have hl2 : y2.length = y1.length + (opt7 m 2 (Msg.num m.number)).length := by rw [hy2, List.length_append]
 have A2 := Lib.hid (show AF w w.heap.size (w.heap.size + 1) m rt et sv dv y2 w2 by rw [hy2]; exact hA2)
 have Y2 := Lib.hid hy2
 clear hA2 hy2
 go_wp2_with fail
 refine (addText7_ent w _ _ _ m rt et sv dv y2 A2.out H2.out Z1.out (by omega)).mono ?_
 rintro e w3 ⟨rfl, hA3⟩
 obtain ⟨y3, hy3⟩ : ∃ y, y = y2 ++ opt7 m 4 (Msg.textOf (Ent.enc m.ent)) := ⟨_, rfl⟩
 have hl3 : y3.length = y2.length + (opt7 m 4 (Msg.textOf (Ent.enc m.ent))).length := by rw [hy3, List.length_append]
 have A3 := Lib.hid (show AF w w.heap.size (w.heap.size + 1) m rt et sv dv y3 w3 by rw [hy3]; exact hA3)
 have Y3 := Lib.hid hy3
 clear hA3 hy3
 have C17 := A3.out.at_.votes.1
 go_wp2_with fail
 refine (add7_any 8 m.ballot _ w _ _ _ m rt et sv dv y3 (A3.out.ext (Ext.alloc _ _)) (Ints.new1 _ _) R3.out (by omega)).mono ?_
 rintro e w4 ⟨rfl, hA4⟩
 clear C17
 obtain ⟨y4, hy4⟩ : ∃ y, y = y3 ++ opt7 m 8 (Msg.num m.ballot) := ⟨_, rfl⟩
 have hl4 : y4.length = y3.length + (opt7 m 8 (Msg.num m.ballot)).length := by rw [hy4, List.length_append]
 have A4 := Lib.hid (show AF w w.heap.size (w.heap.size + 1) m rt et sv dv y4 w4 by rw [hy4]; exact hA4)
 have Y4 := Lib.hid hy4
 clear hA4 hy4
 have C18 := A4.out.at_.votes.2
 go_wp2_with fail
 refine (add7_any 16 m.old _ w _ _ _ m rt et sv dv y4 (A4.out.ext (Ext.alloc _ _)) (Ints.new1 _ _) R4.out (by omega)).mono ?_
 rintro e w5 ⟨rfl, hA5⟩
 clear C18
 obtain ⟨y5, hy5⟩ : ∃ y, y = y4 ++ opt7 m 16 (Msg.num m.old) := ⟨_, rfl⟩
 have hl5 : y5.length = y4.length + (opt7 m 16 (Msg.num m.old)).length := by rw [hy5, List.length_append]
 have A5 := Lib.hid (show AF w w.heap.size (w.heap.size + 1) m rt et sv dv y5 w5 by rw [hy5]; exact hA5)
 have Y5 := Lib.hid hy5
 clear hA5 hy5
 go_wp2_with (refine ldA (by rfl) _ rfl rfl A5.out.at_ ?_)
 refine (fieldsOf_flat m rt et sv dv _).mono ?_
 rintro e wf ⟨rfl, hEf⟩
 have AB := Lib.hid (A5.out.ext hEf)
 clear A5
 cases hb : hasBit (mask m) 32 with
 | false =>
  have hbb : (bits .and .i64 (mask m) 32 != 0) = false := hb
  obtain ⟨y6, hy6⟩ : ∃ y, y = y5 ++ opt7 m 32 (Msg.boolOf m.is) := ⟨_, rfl⟩
  have hl6 : y6.length = y5.length + (opt7 m 32 (Msg.boolOf m.is)).length := by rw [hy6, List.length_append]
  have A6 := Lib.hid (show AF w w.heap.size (w.heap.size + 1) m rt et sv dv y6 wf by rw [hy6]; unfold opt7; rw [hb]; show AF w w.heap.size (w.heap.size + 1) m rt et sv dv (y5 ++ []) wf; rw [List.append_nil]; exact AB.out)
  have Y6 := Lib.hid hy6
  clear hy6
  go_wp2_with fail
  refine (addText7_reco w _ _ _ m rt et sv dv y6 A6.out H1.out Z2.out (by omega)).mono ?_
  rintro e w16 ⟨rfl, hA7⟩
  obtain ⟨y7, hy7⟩ : ∃ y, y = y6 ++ opt7 m 64 (Msg.textOf (Rec.enc m.reco)) := ⟨_, rfl⟩
  have hl7 : y7.length = y6.length + (opt7 m 64 (Msg.textOf (Rec.enc m.reco))).length := by rw [hy7, List.length_append]
  have A7 := Lib.hid (show AF w w.heap.size (w.heap.size + 1) m rt et sv dv y7 w16 by rw [hy7]; exact hA7)
  have Y7 := Lib.hid hy7
  clear hA7 hy7
  go_wp2_with fail
  refine (addText7_conf w _ _ _ m rt et sv dv y7 A7.out H3.out H4.out Z3.out (by omega)).mono ?_
  rintro e w17 ⟨rfl, hA8⟩
  obtain ⟨y8, hy8⟩ : ∃ y, y = y7 ++ opt7 m 128 (Msg.textOf (Term.enc m.conf)) := ⟨_, rfl⟩
  have hl8 : y8.length = y7.length + (opt7 m 128 (Msg.textOf (Term.enc m.conf))).length := by rw [hy8, List.length_append]
  have A8 := Lib.hid (show AF w w.heap.size (w.heap.size + 1) m rt et sv dv y8 w17 by rw [hy8]; exact hA8)
  have Y8 := Lib.hid hy8
  clear hA8 hy8
  obtain ⟨a9, k9, c9, hh9, hb9⟩ := A8.out.cell
  have cP9 := cell_of_heap hh9 0
  simp only [List.getElem?_toArray, List.getElem?_cons_zero] at cP9
  have HB9 := Lib.hid hb9
  have HE9 := Lib.hid A8.out.low
  have HF := Lib.hid (show y8 = l ++ Msg.parts m by rw [← HT.out, Y8.out, Y7.out, Y6.out, Y5.out, Y4.out, Y3.out, Y2.out, Y1.out]; rfl)
  clear hh9 hb9
  go_wp2_with fail
  go_ret
  exact ⟨_, rfl, by rw [← HF.out]; exact HB9.out, HE9.out⟩
 | true =>
  have hbb : (bits .and .i64 (mask m) 32 != 0) = true := hb
  obtain ⟨a, k, c, hh, hby⟩ := AB.out.cell
  have HB := Lib.hid hby
  have cP := cell_of_heap hh 0
  simp only [List.getElem?_toArray, List.getElem?_cons_zero] at cP
  have C6 := AB.out.at_.head.2.2.2.2.2.2
  clear hh hby
  go_wp2_with fail
  refine (packBool7 _ y5 m.is _ HB.out (by omega)).mono ?_
  rintro e w2 ⟨u2, rfl, ho2, hE2⟩
  have AC := Lib.hid (AB.out.ext hE2)
  have HO2 := Lib.hid ho2
  obtain ⟨a', k', c', hh, hby⟩ := AC.out.cell
  have cP2 := cell_of_heap hh 0
  have fP2 := frozen_of_heap hh 0
  simp only [List.getElem?_toArray, List.getElem?_cons_zero] at cP2
  obtain ⟨ua, un, uc, rfl⟩ := ho2.isSlice
  obtain ⟨y6, hy6⟩ : ∃ y, y = y5 ++ opt7 m 32 (Msg.boolOf m.is) := ⟨_, rfl⟩
  have hl6 : y6.length = y5.length + (opt7 m 32 (Msg.boolOf m.is)).length := by rw [hy6, List.length_append]
  have A6 := Lib.hid (show AF w w.heap.size (w.heap.size + 1) m rt et sv dv y6 (w2.setCell ⟨w.heap.size, 0, none⟩ (.slice ua un uc)) by rw [hy6]; unfold opt7; rw [hb]; exact AC.out.store HO2.out)
  have Y6 := Lib.hid hy6
  clear hy6 hh hby ho2 C6 cP
  go_wp2_with fail
  refine (addText7_reco w _ _ _ m rt et sv dv y6 A6.out H1.out Z2.out (by omega)).mono ?_
  rintro e w16 ⟨rfl, hA7⟩
  obtain ⟨y7, hy7⟩ : ∃ y, y = y6 ++ opt7 m 64 (Msg.textOf (Rec.enc m.reco)) := ⟨_, rfl⟩
  have hl7 : y7.length = y6.length + (opt7 m 64 (Msg.textOf (Rec.enc m.reco))).length := by rw [hy7, List.length_append]
  have A7 := Lib.hid (show AF w w.heap.size (w.heap.size + 1) m rt et sv dv y7 w16 by rw [hy7]; exact hA7)
  have Y7 := Lib.hid hy7
  clear hA7 hy7
  go_wp2_with fail
  refine (addText7_conf w _ _ _ m rt et sv dv y7 A7.out H3.out H4.out Z3.out (by omega)).mono ?_
  rintro e w17 ⟨rfl, hA8⟩
  obtain ⟨y8, hy8⟩ : ∃ y, y = y7 ++ opt7 m 128 (Msg.textOf (Term.enc m.conf)) := ⟨_, rfl⟩
  have hl8 : y8.length = y7.length + (opt7 m 128 (Msg.textOf (Term.enc m.conf))).length := by rw [hy8, List.length_append]
  have A8 := Lib.hid (show AF w w.heap.size (w.heap.size + 1) m rt et sv dv y8 w17 by rw [hy8]; exact hA8)
  have Y8 := Lib.hid hy8
  clear hA8 hy8
  obtain ⟨a9, k9, c9, hh9, hb9⟩ := A8.out.cell
  have cP9 := cell_of_heap hh9 0
  simp only [List.getElem?_toArray, List.getElem?_cons_zero] at cP9
  have HB9 := Lib.hid hb9
  have HE9 := Lib.hid A8.out.low
  have HF := Lib.hid (show y8 = l ++ Msg.parts m by rw [← HT.out, Y8.out, Y7.out, Y6.out, Y5.out, Y4.out, Y3.out, Y2.out, Y1.out]; rfl)
  clear hh9 hb9
  go_wp2_with fail
  go_ret
  exact ⟨_, rfl, by rw [← HF.out]; exact HB9.out, HE9.out⟩
end Go.Proofs.YtldfpklgbedgjaaGreat
