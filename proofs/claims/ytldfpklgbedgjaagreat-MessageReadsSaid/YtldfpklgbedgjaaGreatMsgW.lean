/-
 Merged: Layer 7, the document: bytes as messages.
-/
import Derived.Test.YtldfpklgbedgjaaGreatMsgJ
import Derived.Test.YtldfpklgbedgjaaGreatMsgRM
import Derived.Test.YtldfpklgbedgjaaGreatMsgV
namespace Go.Proofs.YtldfpklgbedgjaaGreat
set_option linter.unusedSimpArgs false
set_option linter.unusedVariables false
set_option maxRecDepth 100000
open Go.RowKit
theorem build_msgR0 (w : World) : (Instr.build 35 #[]).run Tryz.prog w = .ok (.agg (msgCells Msg.none0 (.slice none 0 0) (.slice none 0 0) (.slice none 0 0) (.slice none 0 0))) w := by kernel_rfl
theorem build_stR (w : World) (l : List UInt8) : (Instr.build 90 #[(0, .agg #[.string ⟨l.toArray⟩, .int .i64 0])]).run Tryz.prog w = .ok (.agg (stCells l 0 Msg.none0 (.slice none 0 0) (.slice none 0 0) (.slice none 0 0) (.slice none 0 0))) w := by kernel_rfl
theorem decR_no {b t : List UInt8} (hc : Crc.cutOf b = some t) (h : (((Msg.stText t).1.done == 0) && (Msg.right (Msg.read Ent.vd t) && (Msg.enc (Msg.read Ent.vd t) == b))) = false) : Msg.dec Ent.vd b = none := by
 unfold Msg.dec
 rw [hc]
 simp only [h, Bool.false_eq_true, if_false]
theorem decR_yes {b t : List UInt8} (hc : Crc.cutOf b = some t) (h : (((Msg.stText t).1.done == 0) && (Msg.right (Msg.read Ent.vd t) && (Msg.enc (Msg.read Ent.vd t) == b))) = true) : Msg.dec Ent.vd b = some (Msg.read Ent.vd t) := by
 unfold Msg.dec
 rw [hc]
 simp only [h, if_true]
set_option maxHeartbeats 32000000 in
theorem refDecode7_any (v : Value) (l : List UInt8) (w : World) (hv : Bytes w v l) (hl : l.length ≤ 100000) : Calls Tryz.prog 17 #[v] w fun x w' => ∃ u, x = .returned (.tuple #[u, .int .i64 (errOf7 (Msg.dec Ent.vd l))]) ∧ IsMsg w' u (msgOf7 (Msg.dec Ent.vd l)) ∧ Ext w w' := by
 have hb0 := build_msgR0
 have hbr := build_refR
 have hbs := build_stR
 have HV := Lib.hid hv
 obtain ⟨a, cap, rfl, hcap, hmax, hn, hc⟩ := hv.open
 unfold maxLen at hmax
 clear hv hc
 have hno := fun h => Msg.By.dec_cut (vd := Ent.vd) (b := l) h
 have hbad := fun t h1 h2 => decR_no (b := l) (t := t) h1 h2
 have hyes := fun t h1 h2 => decR_yes (b := l) (t := t) h1 h2
 have hlen := fun t h => cutOf_le7 (l := l) (t := t) h
 obtain ⟨D, hD⟩ : ∃ D, Msg.dec Ent.vd l = D := ⟨_, rfl⟩
 obtain ⟨C, hC⟩ : ∃ C, Crc.cutOf l = C := ⟨_, rfl⟩
 rw [hC] at hno hbad hyes hlen
 rw [hD] at hno hbad hyes ⊢
 have HC := Lib.hid hC
 have HNO := Lib.hid hno
 have HBAD := Lib.hid hbad
 have HYES := Lib.hid hyes
 have HLEN := Lib.hid hlen
 clear hC hD hno hbad hyes hlen
 go_enter Tryz.func17, Tryz.ntmps17
 go_wp2_with (refine allocMR (by rfl) rfl ?_; intro W0 qr hat0 hE0 hq0)
 have hcall := cut_ref _ l _ (HV.out.below hE0.out) hl
 rw [HC.out] at hcall
 refine hcall.mono ?_
 clear hcall
 intro e w1 hq
 obtain ⟨hE1, hcut⟩ := hq
 have e1 := Lib.hid (show Ext w w1 from hE0.out.trans hE1)
 have r1 := Lib.hid (hat0.out.ext hE1)
 have hqw : w.heap.size ≤ qr := by have := hq0.out; omega
 clear hat0 hE0 hE1 hq0
 have hcases : ∃ (t : List UInt8) (is : Bool) (u : Value), e = .returned (.tuple #[u, .bool is]) ∧ Bytes w1 u t ∧ t.length ≤ l.length ∧ ((is = false ∧ D = none) ∨ (is = true ∧ C = some t)) := by
  cases C with
  | none => exact ⟨[], false, _, hcut, bytes_none _, Nat.zero_le _, .inl ⟨rfl, HNO.out rfl⟩⟩
  | some t =>
   obtain ⟨u, he, hb⟩ := hcut
   exact ⟨t, true, u, he, hb, HLEN.out t rfl, .inr ⟨rfl, rfl⟩⟩
 obtain ⟨t, is, u0, rfl, hbt, htl, hor⟩ := hcases
 have HOR := Lib.hid hor
 clear hcut hor
 have hcv := run_str (P := Tryz.prog) 38 9 5 Tryz.underlying38 Tryz.underlying5 Tryz.underlying9 hbt
 obtain ⟨ua, un, uc, rfl⟩ := hbt.isSlice
 have HS0 := Lib.hid (show Sim t (⟨t, 0⟩ : Pack.St) from ⟨fun _ => rfl, fun h => absurd rfl h⟩)
 clear hbt
 go_wp2_with (first
  | (refine allocS (by rfl) rfl ?_; intro W2 q hat2 hE2 hq2)
  | (refine putS (l2 := t) (e2 := 0) (m2 := Msg.none0) (r2 := .slice none 0 0) (et2 := .slice none 0 0) (s2 := .slice none 0 0) (d2 := .slice none 0 0) (by rfl) _ _ rfl rfl rfl hat2.out noSlice noSlice noSlice noSlice ?_; intro W3 hat3 hB3; have HQ0 := Lib.hid (show StAt W3 q t (⟨Msg.none0, 0, ⟨t, 0⟩⟩ : St7).s.err (⟨Msg.none0, 0, ⟨t, 0⟩⟩ : St7).m (.slice none 0 0) (.slice none 0 0) (.slice none 0 0) (.slice none 0 0) from hat3.out); have NE := Lib.hid (show qr ≠ q ∧ w.heap.size ≤ q by have h1 := r1.out.lt; have h2 := hq2.out; have h3 := e1.out.size; omega); have RES0 := Lib.hid ((r1.out.ext hE2.out).but hB3.out NE.out.1); have EA0 := e1.out.trans hE2.out; have EX0 := Lib.hid (show Ext w W3 from Below.trans (B := w.heap.size) EA0 (hB3.out.below NE.out.2 EA0.size)); clear EA0)
  | (refine ldS (by rfl) _ rfl rfl HQ0.out ?_))
 refine (number7_any t (⟨Msg.none0, 0, ⟨t, 0⟩⟩ : St7).s (⟨Msg.none0, 0, ⟨t, 0⟩⟩ : St7).m (.slice none 0 0) (.slice none 0 0) (.slice none 0 0) (.slice none 0 0) _ HS0.out (by omega) noSlice noSlice noSlice noSlice).mono ?_
 rintro e w1n ⟨l1, rfl, hs1, hl1, hE1⟩
 have HS1 := Lib.hid (show Sim l1 (rdKindR (⟨Msg.none0, 0, ⟨t, 0⟩⟩ : St7)).s from hs1)
 clear hs1
 go_wp2_with (first
  | (refine putS (l2 := l1) (e2 := (rdKindR (⟨Msg.none0, 0, ⟨t, 0⟩⟩ : St7)).s.err) (m2 := (⟨Msg.none0, 0, ⟨t, 0⟩⟩ : St7).m) (r2 := .slice none 0 0) (et2 := .slice none 0 0) (s2 := .slice none 0 0) (d2 := .slice none 0 0) (by rfl) _ _ rfl rfl rfl (StAt.ext HQ0.out hE1) noSlice noSlice noSlice noSlice ?_; intro WA1 hatA1 hBA1)
  | (refine putS_kind (n := (((⟨Msg.none0, 0, ⟨t, 0⟩⟩ : St7).s.num 1099511627776).2 : Nat)) (by rfl) _ _ rfl rfl rfl hatA1.out ?_; intro WB1 hatB1 hBB1; have HQ1 := Lib.hid (show StAt WB1 q l1 (rdKindR (⟨Msg.none0, 0, ⟨t, 0⟩⟩ : St7)).s.err (rdKindR (⟨Msg.none0, 0, ⟨t, 0⟩⟩ : St7)).m (.slice none 0 0) (.slice none 0 0) (.slice none 0 0) (.slice none 0 0) from hatB1.out); have RES1 := Lib.hid (((RES0.out.ext hE1).but hBA1.out NE.out.1).but hBB1.out NE.out.1); have EA1 := EX0.out.trans hE1; have EB1 := Below.trans (B := w.heap.size) EA1 (hBA1.out.below NE.out.2 EA1.size); have EX1 := Lib.hid (show Ext w WB1 from Below.trans (B := w.heap.size) EB1 (hBB1.out.below NE.out.2 (Nat.le_trans EA1.size hBA1.out.size))); clear EA1 EB1)
  | (refine ldS (by rfl) _ rfl rfl HQ1.out ?_))
 refine (number7_any l1 (rdKindR (⟨Msg.none0, 0, ⟨t, 0⟩⟩ : St7)).s (rdKindR (⟨Msg.none0, 0, ⟨t, 0⟩⟩ : St7)).m (.slice none 0 0) (.slice none 0 0) (.slice none 0 0) (.slice none 0 0) _ HS1.out (by omega) noSlice noSlice noSlice noSlice).mono ?_
 rintro e w2n ⟨l2, rfl, hs2, hl2, hE2⟩
 have HS2 := Lib.hid (show Sim l2 (rdSrcR (rdKindR (⟨Msg.none0, 0, ⟨t, 0⟩⟩ : St7))).s from hs2)
 clear hs2
 go_wp2_with (first
  | (refine putS (l2 := l2) (e2 := (rdSrcR (rdKindR (⟨Msg.none0, 0, ⟨t, 0⟩⟩ : St7))).s.err) (m2 := (rdKindR (⟨Msg.none0, 0, ⟨t, 0⟩⟩ : St7)).m) (r2 := .slice none 0 0) (et2 := .slice none 0 0) (s2 := .slice none 0 0) (d2 := .slice none 0 0) (by rfl) _ _ rfl rfl rfl (StAt.ext HQ1.out hE2) noSlice noSlice noSlice noSlice ?_; intro WA2 hatA2 hBA2)
  | (refine putS_src (n := (((rdKindR (⟨Msg.none0, 0, ⟨t, 0⟩⟩ : St7)).s.num 1099511627776).2 : Nat)) (by rfl) _ _ rfl rfl rfl hatA2.out ?_; intro WB2 hatB2 hBB2; have HQ2 := Lib.hid (show StAt WB2 q l2 (rdSrcR (rdKindR (⟨Msg.none0, 0, ⟨t, 0⟩⟩ : St7))).s.err (rdSrcR (rdKindR (⟨Msg.none0, 0, ⟨t, 0⟩⟩ : St7))).m (.slice none 0 0) (.slice none 0 0) (.slice none 0 0) (.slice none 0 0) from hatB2.out); have RES2 := Lib.hid (((RES1.out.ext hE2).but hBA2.out NE.out.1).but hBB2.out NE.out.1); have EA2 := EX1.out.trans hE2; have EB2 := Below.trans (B := w.heap.size) EA2 (hBA2.out.below NE.out.2 EA2.size); have EX2 := Lib.hid (show Ext w WB2 from Below.trans (B := w.heap.size) EB2 (hBB2.out.below NE.out.2 (Nat.le_trans EA2.size hBA2.out.size))); clear EA2 EB2)
  | (refine ldS (by rfl) _ rfl rfl HQ2.out ?_))
 refine (number7_any l2 (rdSrcR (rdKindR (⟨Msg.none0, 0, ⟨t, 0⟩⟩ : St7))).s (rdSrcR (rdKindR (⟨Msg.none0, 0, ⟨t, 0⟩⟩ : St7))).m (.slice none 0 0) (.slice none 0 0) (.slice none 0 0) (.slice none 0 0) _ HS2.out (by omega) noSlice noSlice noSlice noSlice).mono ?_
 rintro e w3n ⟨l3, rfl, hs3, hl3, hE3⟩
 have HS3 := Lib.hid (show Sim l3 (rdDstR (rdSrcR (rdKindR (⟨Msg.none0, 0, ⟨t, 0⟩⟩ : St7)))).s from hs3)
 clear hs3
 go_wp2_with (first
  | (refine putS (l2 := l3) (e2 := (rdDstR (rdSrcR (rdKindR (⟨Msg.none0, 0, ⟨t, 0⟩⟩ : St7)))).s.err) (m2 := (rdSrcR (rdKindR (⟨Msg.none0, 0, ⟨t, 0⟩⟩ : St7))).m) (r2 := .slice none 0 0) (et2 := .slice none 0 0) (s2 := .slice none 0 0) (d2 := .slice none 0 0) (by rfl) _ _ rfl rfl rfl (StAt.ext HQ2.out hE3) noSlice noSlice noSlice noSlice ?_; intro WA3 hatA3 hBA3)
  | (refine putS_dst (n := (((rdSrcR (rdKindR (⟨Msg.none0, 0, ⟨t, 0⟩⟩ : St7))).s.num 1099511627776).2 : Nat)) (by rfl) _ _ rfl rfl rfl hatA3.out ?_; intro WB3 hatB3 hBB3; have HQ3 := Lib.hid (show StAt WB3 q l3 (rdDstR (rdSrcR (rdKindR (⟨Msg.none0, 0, ⟨t, 0⟩⟩ : St7)))).s.err (rdDstR (rdSrcR (rdKindR (⟨Msg.none0, 0, ⟨t, 0⟩⟩ : St7)))).m (.slice none 0 0) (.slice none 0 0) (.slice none 0 0) (.slice none 0 0) from hatB3.out); have RES3 := Lib.hid (((RES2.out.ext hE3).but hBA3.out NE.out.1).but hBB3.out NE.out.1); have EA3 := EX2.out.trans hE3; have EB3 := Below.trans (B := w.heap.size) EA3 (hBA3.out.below NE.out.2 EA3.size); have EX3 := Lib.hid (show Ext w WB3 from Below.trans (B := w.heap.size) EB3 (hBB3.out.below NE.out.2 (Nat.le_trans EA3.size hBA3.out.size))); clear EA3 EB3)
  | (refine ldS (by rfl) _ rfl rfl HQ3.out ?_))
 refine (number7_any l3 (rdDstR (rdSrcR (rdKindR (⟨Msg.none0, 0, ⟨t, 0⟩⟩ : St7)))).s (rdDstR (rdSrcR (rdKindR (⟨Msg.none0, 0, ⟨t, 0⟩⟩ : St7)))).m (.slice none 0 0) (.slice none 0 0) (.slice none 0 0) (.slice none 0 0) _ HS3.out (by omega) noSlice noSlice noSlice noSlice).mono ?_
 rintro e w4n ⟨l4, rfl, hs4, hl4, hE4⟩
 have HS4 := Lib.hid (show Sim l4 (rdTermR (rdDstR (rdSrcR (rdKindR (⟨Msg.none0, 0, ⟨t, 0⟩⟩ : St7))))).s from hs4)
 clear hs4
 go_wp2_with (first
  | (refine putS (l2 := l4) (e2 := (rdTermR (rdDstR (rdSrcR (rdKindR (⟨Msg.none0, 0, ⟨t, 0⟩⟩ : St7))))).s.err) (m2 := (rdDstR (rdSrcR (rdKindR (⟨Msg.none0, 0, ⟨t, 0⟩⟩ : St7)))).m) (r2 := .slice none 0 0) (et2 := .slice none 0 0) (s2 := .slice none 0 0) (d2 := .slice none 0 0) (by rfl) _ _ rfl rfl rfl (StAt.ext HQ3.out hE4) noSlice noSlice noSlice noSlice ?_; intro WA4 hatA4 hBA4)
  | (refine putS_term (n := (((rdDstR (rdSrcR (rdKindR (⟨Msg.none0, 0, ⟨t, 0⟩⟩ : St7)))).s.num 1099511627776).2 : Nat)) (by rfl) _ _ rfl rfl rfl hatA4.out ?_; intro WB4 hatB4 hBB4; have HQ4 := Lib.hid (show StAt WB4 q l4 (rdTermR (rdDstR (rdSrcR (rdKindR (⟨Msg.none0, 0, ⟨t, 0⟩⟩ : St7))))).s.err (rdTermR (rdDstR (rdSrcR (rdKindR (⟨Msg.none0, 0, ⟨t, 0⟩⟩ : St7))))).m (.slice none 0 0) (.slice none 0 0) (.slice none 0 0) (.slice none 0 0) from hatB4.out); have RES4 := Lib.hid (((RES3.out.ext hE4).but hBA4.out NE.out.1).but hBB4.out NE.out.1); have EA4 := EX3.out.trans hE4; have EB4 := Below.trans (B := w.heap.size) EA4 (hBA4.out.below NE.out.2 EA4.size); have EX4 := Lib.hid (show Ext w WB4 from Below.trans (B := w.heap.size) EB4 (hBB4.out.below NE.out.2 (Nat.le_trans EA4.size hBA4.out.size))); clear EA4 EB4)
  | (refine ldS (by rfl) _ rfl rfl HQ4.out ?_))
 have hrw : RowsM WB4 (.slice none 0 0) (.slice none 0 0) (.slice none 0 0) (.slice none 0 0) (rdTermR (rdDstR (rdSrcR (rdKindR (⟨Msg.none0, 0, ⟨t, 0⟩⟩ : St7))))).m := ⟨RowI.nil _, RowI.nil _, RowI.nil _, RowRR.nil _⟩
 have hcall := fields7_any l4 (rdTermR (rdDstR (rdSrcR (rdKindR (⟨Msg.none0, 0, ⟨t, 0⟩⟩ : St7))))).s (rdTermR (rdDstR (rdSrcR (rdKindR (⟨Msg.none0, 0, ⟨t, 0⟩⟩ : St7))))).m _ _ _ _ _ HS4.out (by omega) hrw
 unfold GivesFields at hcall
 obtain ⟨hR1, hR2⟩ := read7 t
 rw [show fieldsR ⟨(rdTermR (rdDstR (rdSrcR (rdKindR (⟨Msg.none0, 0, ⟨t, 0⟩⟩ : St7))))).m, 0, (rdTermR (rdDstR (rdSrcR (rdKindR (⟨Msg.none0, 0, ⟨t, 0⟩⟩ : St7))))).s⟩ = fieldsR (headR t) from rfl] at hcall
 obtain ⟨Y, hY⟩ : ∃ Y, fieldsR (headR t) = Y := ⟨_, rfl⟩
 rw [hY] at hcall hR1 hR2
 have HR1 := Lib.hid hR1
 have HR2 := Lib.hid hR2
 clear hR1 hR2 hrw hY
 refine hcall.mono ?_
 clear hcall
 rintro e w5 ⟨l5, rt, et, sv, dv, rfl, hs5, hl5, hrow5, hE5⟩
 have HS5 := Lib.hid hs5
 have HRW5 := Lib.hid hrow5
 obtain ⟨i1, i2, i3, i4⟩ := hrow5.sl
 have I1 := Lib.hid i1
 have I2 := Lib.hid i2
 have I3 := Lib.hid i3
 have I4 := Lib.hid i4
 clear hs5 hrow5 i1 i2 i3 i4
 go_wp2_with (first
  | (refine putS (l2 := l5) (e2 := Y.s.err) (m2 := Y.m) (r2 := rt) (et2 := et) (s2 := sv) (d2 := dv) (by rfl) _ _ rfl rfl rfl (StAt.ext HQ4.out hE5) I1.out I2.out I3.out I4.out ?_; intro W6 hat6 hB6)
  | (refine ldSM (by rfl) _ rfl rfl hat6.out ?_))
 have RES6 := Lib.hid ((RES4.out.ext hE5).but hB6.out NE.out.1)
 have E56 := EX4.out.trans hE5
 have EX6 := Lib.hid (show Ext w W6 from Below.trans (B := w.heap.size) E56 (hB6.out.below NE.out.2 E56.size))
 have RW6 := Lib.hid (HRW5.out.keeps (StAt.keeps (StAt.ext HQ4.out hE5) hB6.out))
 clear E56
 refine (refEncode7_any _ Y.m _ ⟨_, _, _, _, rfl, RW6.out.1.ints, RW6.out.2.1.ints, RW6.out.2.2.1.ints, RW6.out.2.2.2.rows⟩).mono ?_
 rintro e w7 ⟨u7, rfl, hb7, hE7⟩
 have HB7 := Lib.hid hb7
 have RES7 := Lib.hid (RES6.out.ext hE7)
 have HAT7 := Lib.hid (StAt.ext hat6.out hE7)
 have EX7 := Lib.hid (EX6.out.trans hE7)
 have HFIN := Lib.hid (show ∀ w' w'', Ext w7 w' → But qr w' w'' → MsgAt 35 w' qr Msg.none0 (.slice none 0 0) (.slice none 0 0) (.slice none 0 0) (.slice none 0 0) → IsMsg w'' (.agg (msgCells Y.m rt et sv dv)) Y.m from fun w' w'' h1 h2 h3 => by
  have k := RW6.out.keeps ((Keeps.ofExt hE7).trans ((Keeps.ofExt h1).trans (Keeps.ofBut h3 (by decide) (by decide) (by decide) h2)))
  exact ⟨_, _, _, _, rfl, k.1.ints, k.2.1.ints, k.2.2.1.ints, k.2.2.2.rows⟩)
 obtain ⟨ha, hna, hka, rfl⟩ := hb7.isSlice
 clear hb7 hcv hE5 hE7
 rcases HOR.out with ⟨his, hdn⟩ | ⟨his, hcs⟩
 · subst his hdn
   go_wp2_with (refine putMR (m2 := Msg.none0) (r2 := .slice none 0 0) (e2 := .slice none 0 0) (s2 := .slice none 0 0) (d2 := .slice none 0 0) (by rfl) _ _ rfl rfl rfl RES7.out noSlice noSlice noSlice noSlice ?_; intro W9 hat9 hB9)
   have hld := run_loadVar_mid (P := Tryz.prog) W9 qr 0 35 _ _ hat9.out.range Tryz.underlying35 rfl (by kernel_rfl)
   exact bodyPost_ret (v := .tuple #[.agg (msgCells Msg.none0 (.slice none 0 0) (.slice none 0 0) (.slice none 0 0) (.slice none 0 0)), .int .i64 70]) (by simp [results, Tryz.results17, hld, asAddr, Act.put]) rfl ⟨_, rfl, (rowMsg0 _).is, Below.trans (B := w.heap.size) EX7.out (hB9.out.below hqw EX7.out.size)⟩
 · subst his
   have HCS := Lib.hid hcs
   clear hcs HOR
   obtain ⟨d, hdd⟩ : ∃ d, Y.s.done = d := ⟨_, rfl⟩
   have HD := Lib.hid (show (Msg.stText t).1.done = d by rw [← HR2.out]; exact hdd)
   go_wp2_with (refine ldRd (l := l5) (e := Y.s.err) (by rfl) _ rfl rfl (StAt.rd HAT7.out) ?_)
   refine (endRef_any l5 Y.s _ HS5.out (by omega)).mono ?_
   rw [hdd]
   clear hdd
   rintro e w8 ⟨rfl, hE8⟩
   have RES8 := Lib.hid (RES7.out.ext hE8)
   have HAT8 := Lib.hid (StAt.ext HAT7.out hE8)
   have EX8 := Lib.hid (EX7.out.trans hE8)
   cases hd0 : (d == 0) with
   | false =>
    have hdn : (d != 0) = true := by rw [bne, hd0]; rfl
    have hbad := HBAD.out t HCS.out (by rw [HD.out, hd0]; rfl)
    subst hbad
    clear hd0
    go_wp2_with (refine putMR (m2 := Msg.none0) (r2 := .slice none 0 0) (e2 := .slice none 0 0) (s2 := .slice none 0 0) (d2 := .slice none 0 0) (by rfl) _ _ rfl rfl rfl RES8.out noSlice noSlice noSlice noSlice ?_; intro W9 hat9 hB9)
    have hld := run_loadVar_mid (P := Tryz.prog) W9 qr 0 35 _ _ hat9.out.range Tryz.underlying35 rfl (by kernel_rfl)
    exact bodyPost_ret (v := .tuple #[.agg (msgCells Msg.none0 (.slice none 0 0) (.slice none 0 0) (.slice none 0 0) (.slice none 0 0)), .int .i64 70]) (by simp [results, Tryz.results17, hld, asAddr, Act.put]) rfl ⟨_, rfl, (rowMsg0 _).is, Below.trans (B := w.heap.size) EX8.out (hB9.out.below hqw EX8.out.size)⟩
   | true =>
    have hdn : (d != 0) = false := by rw [bne, hd0]; rfl
    have HDZ := Lib.hid hd0
    clear hd0
    cases hrr : Msg.right Y.m with
    | false =>
     have hbad := HBAD.out t HCS.out (by rw [← HR1.out, hrr]; simp)
     subst hbad
     have ho : (orErr 70 (Msg.right Y.m)) = 70 := by rw [hrr]; rfl
     clear hrr
     go_wp2_with (refine putMR (m2 := Msg.none0) (r2 := .slice none 0 0) (e2 := .slice none 0 0) (s2 := .slice none 0 0) (d2 := .slice none 0 0) (by rfl) _ _ rfl rfl rfl RES8.out noSlice noSlice noSlice noSlice ?_; intro W9 hat9 hB9)
     have hld := run_loadVar_mid (P := Tryz.prog) W9 qr 0 35 _ _ hat9.out.range Tryz.underlying35 rfl (by kernel_rfl)
     exact bodyPost_ret (v := .tuple #[.agg (msgCells Msg.none0 (.slice none 0 0) (.slice none 0 0) (.slice none 0 0) (.slice none 0 0)), .int .i64 70]) (by simp [results, Tryz.results17, hld, asAddr, Act.put]) rfl ⟨_, rfl, (rowMsg0 _).is, Below.trans (B := w.heap.size) EX8.out (hB9.out.below hqw EX8.out.size)⟩
    | true =>
     have ho : (orErr 70 (Msg.right Y.m)) = 0 := by rw [hrr]; rfl
     have hb8 := HB7.out.below hE8
     rw [hrr, bytesOr_true] at hb8
     have hst := run_str (P := Tryz.prog) 38 9 5 Tryz.underlying38 Tryz.underlying5 Tryz.underlying9 hb8
     have hst2 := run_str (P := Tryz.prog) 38 9 5 Tryz.underlying38 Tryz.underlying5 Tryz.underlying9 (HV.out.below EX8.out)
     have HRR := Lib.hid hrr
     obtain ⟨Z, hZ⟩ : ∃ Z, Msg.enc Y.m = Z := ⟨_, rfl⟩
     rw [hZ] at hst
     have HZ := Lib.hid hZ
     clear hb8 hrr hZ
     by_cases hzl : Z = l
     · have hyes := HYES.out t HCS.out (by rw [HD.out, HDZ.out, ← HR1.out, HRR.out, HZ.out, hzl]; simp)
       rw [← HR1.out] at hyes
       subst hyes
       subst hzl
       go_wp2_with (first
        | (refine ldSM (by rfl) _ rfl rfl HAT8.out ?_)
        | (refine putMR (m2 := Y.m) (r2 := rt) (e2 := et) (s2 := sv) (d2 := dv) (by rfl) _ _ rfl rfl rfl RES8.out I1.out I2.out I3.out I4.out ?_; intro W9 hat9 hB9))
       have hld := run_loadVar_mid (P := Tryz.prog) W9 qr 0 35 _ _ hat9.out.range Tryz.underlying35 rfl (by kernel_rfl)
       exact bodyPost_ret (v := .tuple #[.agg (msgCells Y.m rt et sv dv), .int .i64 0]) (by simp [results, Tryz.results17, hld, asAddr, Act.put]) rfl ⟨_, rfl, HFIN.out _ _ hE8 hB9.out RES8.out, Below.trans (B := w.heap.size) EX8.out (hB9.out.below hqw EX8.out.size)⟩
     · have hbad := HBAD.out t HCS.out (by rw [← HR1.out, HZ.out, show (Z == l) = false from beq_eq_false_iff_ne.2 hzl]; simp)
       subst hbad
       have hzz : (Z == l) = false := beq_eq_false_iff_ne.2 hzl
       go_wp2_with (refine putMR (m2 := Msg.none0) (r2 := .slice none 0 0) (e2 := .slice none 0 0) (s2 := .slice none 0 0) (d2 := .slice none 0 0) (by rfl) _ _ rfl rfl rfl RES8.out noSlice noSlice noSlice noSlice ?_; intro W9 hat9 hB9)
       have hld := run_loadVar_mid (P := Tryz.prog) W9 qr 0 35 _ _ hat9.out.range Tryz.underlying35 rfl (by kernel_rfl)
       exact bodyPost_ret (v := .tuple #[.agg (msgCells Msg.none0 (.slice none 0 0) (.slice none 0 0) (.slice none 0 0) (.slice none 0 0)), .int .i64 70]) (by simp [results, Tryz.results17, hld, asAddr, Act.put]) rfl ⟨_, rfl, (rowMsg0 _).is, Below.trans (B := w.heap.size) EX8.out (hB9.out.below hqw EX8.out.size)⟩
end Go.Proofs.YtldfpklgbedgjaaGreat
