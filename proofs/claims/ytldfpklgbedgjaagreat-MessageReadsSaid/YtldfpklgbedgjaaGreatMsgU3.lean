/-
 Merged: Layer 7, the document: what a message has, by its kind, read.
-/
import Derived.Test.YtldfpklgbedgjaaGreatBrEnt
import Derived.Test.YtldfpklgbedgjaaGreatBrRec
import Derived.Test.YtldfpklgbedgjaaGreatBrTerm
import Derived.Test.YtldfpklgbedgjaaGreatMsgU
namespace Go.Proofs.YtldfpklgbedgjaaGreat
set_option linter.unusedSimpArgs false
set_option linter.unusedVariables false
set_option maxRecDepth 100000
open Go.RowKit
set_option maxHeartbeats 16000000 in
theorem fields7_7 (l : List UInt8) (s : Pack.St) (m : Msg.M) (rt et sv dv : Value) (w : World) (hs : Sim l s) (hl : l.length ≤ 140737488355328) (hr : RowsM w rt et sv dv m) (hk : m.kind = 7) : Calls Tryz.prog 51 #[.agg (stCells l s.err m rt et sv dv)] w (GivesFields w l.length (fieldsR ⟨m, 0, s⟩)) := by
 have hX : fieldsR ⟨m, 0, s⟩ = (rdBallot (⟨m, 0, s⟩ : St7)) := by
  unfold fieldsR
  show (if m.kind = 1 then _ else if m.kind = 2 then _ else if m.kind = 3 then _ else if m.kind = 4 ∨ m.kind = 6 then _ else if m.kind = 7 then _ else if m.kind = 8 then _ else if m.kind = 9 then _ else if m.kind = 10 then _ else _) = _
  rw [if_neg (by omega), if_neg (by omega), if_neg (by omega), if_neg (by omega), if_pos (by omega)]
 rw [hX]
 unfold GivesFields
 have HK := Lib.hid hk
 have HS0 := Lib.hid hs
 have HRW := Lib.hid hr
 obtain ⟨i1, i2, i3, i4⟩ := hr.sl
 have I1 := Lib.hid i1
 have I2 := Lib.hid i2
 have I3 := Lib.hid i3
 have I4 := Lib.hid i4
 clear hX hs hr hk i1 i2 i3 i4
 go_enter Tryz.func51, Tryz.ntmps51
 go_wp2_with (first
  | (refine boxS (l := l) (e := s.err) (m := m) (by rfl) _ rfl rfl ?_; intro W0 q hat0 hE0 hq0)
  | (refine allocS (by rfl) rfl ?_; intro W1 q1 hat1 hE1 hq1; have HQ0 := Lib.hid (show StAt W1 q l (⟨m, 0, s⟩ : St7).s.err (⟨m, 0, s⟩ : St7).m rt et sv dv from StAt.ext hat0.out hE1.out); have RES0 := hat1; have EX0 := Lib.hid (hE0.out.trans hE1.out); have NE := Lib.hid (show q ≠ q1 ∧ w.heap.size ≤ q ∧ w.heap.size ≤ q1 by have h1 := hat0.out.lt; have h2 := hq0.out; have h3 := hq1.out; have h4 := hE0.out.size; omega); have RW0 := Lib.hid (HRW.out.keeps (Keeps.ofExt EX0.out)); have ck := StAt.kind HQ0.out; clear hat0 hat1 hE0 hE1 hq0 hq1; rw [show (⟨m, 0, s⟩ : St7).m.kind = _ from HK.out] at ck)
  | (refine ldS (by rfl) _ rfl rfl HQ0.out ?_))
 refine (number7_any l (⟨m, 0, s⟩ : St7).s (⟨m, 0, s⟩ : St7).m rt et sv dv _ HS0.out (by omega) I1.out I2.out I3.out I4.out).mono ?_
 rintro e w1 ⟨l1, rfl, hs1, hl1, hE1⟩
 have HS1 := Lib.hid (show Sim l1 (rdBallot (⟨m, 0, s⟩ : St7)).s from hs1)
 clear hs1
 try clear ck
 go_wp2_with (first
  | (refine putS (l2 := l1) (e2 := (rdBallot (⟨m, 0, s⟩ : St7)).s.err) (m2 := (⟨m, 0, s⟩ : St7).m) (r2 := rt) (et2 := et) (s2 := sv) (d2 := dv) (by rfl) _ _ rfl rfl rfl (StAt.ext HQ0.out hE1) I1.out I2.out I3.out I4.out ?_; intro WA1 hatA1 hBA1)
  | (refine putS_ballot (n := (((⟨m, 0, s⟩ : St7).s.num 1099511627776).2 : Nat)) (by rfl) _ _ rfl rfl rfl hatA1.out ?_; intro WB1 hatB1 hBB1; have HQ1 := Lib.hid (show StAt WB1 q l1 (rdBallot (⟨m, 0, s⟩ : St7)).s.err (rdBallot (⟨m, 0, s⟩ : St7)).m rt et sv dv from hatB1.out); have RES1 := Lib.hid (StAt.but (StAt.but (StAt.ext RES0.out hE1) hBA1.out (by have := NE.out; omega)) hBB1.out (by have := NE.out; omega)); have EA1 := EX0.out.trans hE1; have EB1 := Below.trans (B := w.heap.size) EA1 (hBA1.out.below NE.out.2.1 EA1.size); have EX1 := Lib.hid (show Ext w WB1 from Below.trans (B := w.heap.size) EB1 (hBB1.out.below NE.out.2.1 (Nat.le_trans EA1.size hBA1.out.size))); have RW1 := Lib.hid (show RowsM WB1 rt et sv dv (rdBallot (⟨m, 0, s⟩ : St7)).m from RowsM.keeps (m := (⟨m, 0, s⟩ : St7).m) RW0.out (Keeps.trans (Keeps.ofExt hE1) (Keeps.trans (StAt.keeps (StAt.ext HQ0.out hE1) hBA1.out) (StAt.keeps hatA1.out hBB1.out)))); clear EA1 EB1)
  | (refine ldS (by rfl) _ rfl rfl HQ1.out ?_)
  | (refine putS (l2 := l1) (e2 := (rdBallot (⟨m, 0, s⟩ : St7)).s.err) (m2 := (rdBallot (⟨m, 0, s⟩ : St7)).m) (r2 := rt) (et2 := et) (s2 := sv) (d2 := dv) (by rfl) _ _ rfl rfl rfl RES1.out I1.out I2.out I3.out I4.out ?_; intro WZ hatZ hBZ))
 have hld := run_loadVar_mid (P := Tryz.prog) WZ q1 0 90 _ _ hatZ.out.range Tryz.underlying90 rfl (by kernel_rfl)
 have hZ : Ext w WZ := Below.trans (B := w.heap.size) EX1.out (hBZ.out.below NE.out.2.2 EX1.out.size)
 exact bodyPost_ret (v := .agg (stCells l1 (rdBallot (⟨m, 0, s⟩ : St7)).s.err (rdBallot (⟨m, 0, s⟩ : St7)).m rt et sv dv)) (by simp [results, Tryz.results51, hld, asAddr, Act.put]) rfl ⟨_, _, _, _, _, rfl, HS1.out, by omega, RW1.out.keeps (StAt.keeps RES1.out hBZ.out), hZ⟩
set_option maxHeartbeats 16000000 in
theorem fields7_8z (l : List UInt8) (s : Pack.St) (m : Msg.M) (rt et sv dv : Value) (w : World) (hs : Sim l s) (hl : l.length ≤ 140737488355328) (hr : RowsM w rt et sv dv m) (hk : m.kind = 8) (ho : (rdOld (rdBallot ⟨m, 0, s⟩)).m.old = 0) : Calls Tryz.prog 51 #[.agg (stCells l s.err m rt et sv dv)] w (GivesFields w l.length (fieldsR ⟨m, 0, s⟩)) := by
 have hX : fieldsR ⟨m, 0, s⟩ = (rdOld (rdBallot (⟨m, 0, s⟩ : St7))) := by
  unfold fieldsR
  show (if m.kind = 1 then _ else if m.kind = 2 then _ else if m.kind = 3 then _ else if m.kind = 4 ∨ m.kind = 6 then _ else if m.kind = 7 then _ else if m.kind = 8 then _ else if m.kind = 9 then _ else if m.kind = 10 then _ else _) = _
  rw [if_neg (by omega), if_neg (by omega), if_neg (by omega), if_neg (by omega), if_neg (by omega), if_pos (by omega), if_pos ho]
 rw [hX]
 unfold GivesFields
 have HK := Lib.hid hk
 have HS0 := Lib.hid hs
 have HRW := Lib.hid hr
 obtain ⟨i1, i2, i3, i4⟩ := hr.sl
 have I1 := Lib.hid i1
 have I2 := Lib.hid i2
 have I3 := Lib.hid i3
 have I4 := Lib.hid i4
 have hoz : ((rdOld (rdBallot (⟨m, 0, s⟩ : St7))).m.old != 0) = false := by rw [bne, ho]; rfl
 clear ho
 clear hX hs hr hk i1 i2 i3 i4
 go_enter Tryz.func51, Tryz.ntmps51
 go_wp2_with (first
  | (refine boxS (l := l) (e := s.err) (m := m) (by rfl) _ rfl rfl ?_; intro W0 q hat0 hE0 hq0)
  | (refine allocS (by rfl) rfl ?_; intro W1 q1 hat1 hE1 hq1; have HQ0 := Lib.hid (show StAt W1 q l (⟨m, 0, s⟩ : St7).s.err (⟨m, 0, s⟩ : St7).m rt et sv dv from StAt.ext hat0.out hE1.out); have RES0 := hat1; have EX0 := Lib.hid (hE0.out.trans hE1.out); have NE := Lib.hid (show q ≠ q1 ∧ w.heap.size ≤ q ∧ w.heap.size ≤ q1 by have h1 := hat0.out.lt; have h2 := hq0.out; have h3 := hq1.out; have h4 := hE0.out.size; omega); have RW0 := Lib.hid (HRW.out.keeps (Keeps.ofExt EX0.out)); have ck := StAt.kind HQ0.out; clear hat0 hat1 hE0 hE1 hq0 hq1; rw [show (⟨m, 0, s⟩ : St7).m.kind = _ from HK.out] at ck)
  | (refine ldS (by rfl) _ rfl rfl HQ0.out ?_))
 refine (number7_any l (⟨m, 0, s⟩ : St7).s (⟨m, 0, s⟩ : St7).m rt et sv dv _ HS0.out (by omega) I1.out I2.out I3.out I4.out).mono ?_
 rintro e w1 ⟨l1, rfl, hs1, hl1, hE1⟩
 have HS1 := Lib.hid (show Sim l1 (rdBallot (⟨m, 0, s⟩ : St7)).s from hs1)
 clear hs1
 try clear ck
 go_wp2_with (first
  | (refine putS (l2 := l1) (e2 := (rdBallot (⟨m, 0, s⟩ : St7)).s.err) (m2 := (⟨m, 0, s⟩ : St7).m) (r2 := rt) (et2 := et) (s2 := sv) (d2 := dv) (by rfl) _ _ rfl rfl rfl (StAt.ext HQ0.out hE1) I1.out I2.out I3.out I4.out ?_; intro WA1 hatA1 hBA1)
  | (refine putS_ballot (n := (((⟨m, 0, s⟩ : St7).s.num 1099511627776).2 : Nat)) (by rfl) _ _ rfl rfl rfl hatA1.out ?_; intro WB1 hatB1 hBB1; have HQ1 := Lib.hid (show StAt WB1 q l1 (rdBallot (⟨m, 0, s⟩ : St7)).s.err (rdBallot (⟨m, 0, s⟩ : St7)).m rt et sv dv from hatB1.out); have RES1 := Lib.hid (StAt.but (StAt.but (StAt.ext RES0.out hE1) hBA1.out (by have := NE.out; omega)) hBB1.out (by have := NE.out; omega)); have EA1 := EX0.out.trans hE1; have EB1 := Below.trans (B := w.heap.size) EA1 (hBA1.out.below NE.out.2.1 EA1.size); have EX1 := Lib.hid (show Ext w WB1 from Below.trans (B := w.heap.size) EB1 (hBB1.out.below NE.out.2.1 (Nat.le_trans EA1.size hBA1.out.size))); have RW1 := Lib.hid (show RowsM WB1 rt et sv dv (rdBallot (⟨m, 0, s⟩ : St7)).m from RowsM.keeps (m := (⟨m, 0, s⟩ : St7).m) RW0.out (Keeps.trans (Keeps.ofExt hE1) (Keeps.trans (StAt.keeps (StAt.ext HQ0.out hE1) hBA1.out) (StAt.keeps hatA1.out hBB1.out)))); clear EA1 EB1)
  | (refine ldS (by rfl) _ rfl rfl HQ1.out ?_))
 refine (number7_any l1 (rdBallot (⟨m, 0, s⟩ : St7)).s (rdBallot (⟨m, 0, s⟩ : St7)).m rt et sv dv _ HS1.out (by omega) I1.out I2.out I3.out I4.out).mono ?_
 rintro e w2 ⟨l2, rfl, hs2, hl2, hE2⟩
 have HS2 := Lib.hid (show Sim l2 (rdOld (rdBallot (⟨m, 0, s⟩ : St7))).s from hs2)
 clear hs2
 go_wp2_with (first
  | (refine putS (l2 := l2) (e2 := (rdOld (rdBallot (⟨m, 0, s⟩ : St7))).s.err) (m2 := (rdBallot (⟨m, 0, s⟩ : St7)).m) (r2 := rt) (et2 := et) (s2 := sv) (d2 := dv) (by rfl) _ _ rfl rfl rfl (StAt.ext HQ1.out hE2) I1.out I2.out I3.out I4.out ?_; intro WA2 hatA2 hBA2)
  | (refine putS_old (n := (((rdBallot (⟨m, 0, s⟩ : St7)).s.num 1099511627776).2 : Nat)) (by rfl) _ _ rfl rfl rfl hatA2.out ?_; intro WB2 hatB2 hBB2; have HQ2 := Lib.hid (show StAt WB2 q l2 (rdOld (rdBallot (⟨m, 0, s⟩ : St7))).s.err (rdOld (rdBallot (⟨m, 0, s⟩ : St7))).m rt et sv dv from hatB2.out); have RES2 := Lib.hid (StAt.but (StAt.but (StAt.ext RES1.out hE2) hBA2.out (by have := NE.out; omega)) hBB2.out (by have := NE.out; omega)); have EA2 := EX1.out.trans hE2; have EB2 := Below.trans (B := w.heap.size) EA2 (hBA2.out.below NE.out.2.1 EA2.size); have EX2 := Lib.hid (show Ext w WB2 from Below.trans (B := w.heap.size) EB2 (hBB2.out.below NE.out.2.1 (Nat.le_trans EA2.size hBA2.out.size))); have RW2 := Lib.hid (show RowsM WB2 rt et sv dv (rdOld (rdBallot (⟨m, 0, s⟩ : St7))).m from RowsM.keeps (m := (rdBallot (⟨m, 0, s⟩ : St7)).m) RW1.out (Keeps.trans (Keeps.ofExt hE2) (Keeps.trans (StAt.keeps (StAt.ext HQ1.out hE2) hBA2.out) (StAt.keeps hatA2.out hBB2.out)))); clear EA2 EB2; have co := StAt.old HQ2.out)
  | (refine ldS (by rfl) _ rfl rfl HQ2.out ?_)
  | (refine putS (l2 := l2) (e2 := (rdOld (rdBallot (⟨m, 0, s⟩ : St7))).s.err) (m2 := (rdOld (rdBallot (⟨m, 0, s⟩ : St7))).m) (r2 := rt) (et2 := et) (s2 := sv) (d2 := dv) (by rfl) _ _ rfl rfl rfl RES2.out I1.out I2.out I3.out I4.out ?_; intro WZ hatZ hBZ))
 have hld := run_loadVar_mid (P := Tryz.prog) WZ q1 0 90 _ _ hatZ.out.range Tryz.underlying90 rfl (by kernel_rfl)
 have hZ : Ext w WZ := Below.trans (B := w.heap.size) EX2.out (hBZ.out.below NE.out.2.2 EX2.out.size)
 exact bodyPost_ret (v := .agg (stCells l2 (rdOld (rdBallot (⟨m, 0, s⟩ : St7))).s.err (rdOld (rdBallot (⟨m, 0, s⟩ : St7))).m rt et sv dv)) (by simp [results, Tryz.results51, hld, asAddr, Act.put]) rfl ⟨_, _, _, _, _, rfl, HS2.out, by omega, RW2.out.keeps (StAt.keeps RES2.out hBZ.out), hZ⟩
set_option maxHeartbeats 16000000 in
theorem fields7_8n (l : List UInt8) (s : Pack.St) (m : Msg.M) (rt et sv dv : Value) (w : World) (hs : Sim l s) (hl : l.length ≤ 140737488355328) (hr : RowsM w rt et sv dv m) (hk : m.kind = 8) (ho : ¬ (rdOld (rdBallot ⟨m, 0, s⟩)).m.old = 0) : Calls Tryz.prog 51 #[.agg (stCells l s.err m rt et sv dv)] w (GivesFields w l.length (fieldsR ⟨m, 0, s⟩)) := by
 have hX : fieldsR ⟨m, 0, s⟩ = (rdConf (rdOld (rdBallot (⟨m, 0, s⟩ : St7)))) := by
  unfold fieldsR
  show (if m.kind = 1 then _ else if m.kind = 2 then _ else if m.kind = 3 then _ else if m.kind = 4 ∨ m.kind = 6 then _ else if m.kind = 7 then _ else if m.kind = 8 then _ else if m.kind = 9 then _ else if m.kind = 10 then _ else _) = _
  rw [if_neg (by omega), if_neg (by omega), if_neg (by omega), if_neg (by omega), if_neg (by omega), if_pos (by omega), if_neg ho]
 rw [hX]
 unfold GivesFields
 have HK := Lib.hid hk
 have HS0 := Lib.hid hs
 have HRW := Lib.hid hr
 obtain ⟨i1, i2, i3, i4⟩ := hr.sl
 have I1 := Lib.hid i1
 have I2 := Lib.hid i2
 have I3 := Lib.hid i3
 have I4 := Lib.hid i4
 have hoz : ((rdOld (rdBallot (⟨m, 0, s⟩ : St7))).m.old != 0) = true := by rw [bne_iff_ne]; exact ho
 clear ho
 clear hX hs hr hk i1 i2 i3 i4
 go_enter Tryz.func51, Tryz.ntmps51
 go_wp2_with (first
  | (refine boxS (l := l) (e := s.err) (m := m) (by rfl) _ rfl rfl ?_; intro W0 q hat0 hE0 hq0)
  | (refine allocS (by rfl) rfl ?_; intro W1 q1 hat1 hE1 hq1; have HQ0 := Lib.hid (show StAt W1 q l (⟨m, 0, s⟩ : St7).s.err (⟨m, 0, s⟩ : St7).m rt et sv dv from StAt.ext hat0.out hE1.out); have RES0 := hat1; have EX0 := Lib.hid (hE0.out.trans hE1.out); have NE := Lib.hid (show q ≠ q1 ∧ w.heap.size ≤ q ∧ w.heap.size ≤ q1 by have h1 := hat0.out.lt; have h2 := hq0.out; have h3 := hq1.out; have h4 := hE0.out.size; omega); have RW0 := Lib.hid (HRW.out.keeps (Keeps.ofExt EX0.out)); have ck := StAt.kind HQ0.out; clear hat0 hat1 hE0 hE1 hq0 hq1; rw [show (⟨m, 0, s⟩ : St7).m.kind = _ from HK.out] at ck)
  | (refine ldS (by rfl) _ rfl rfl HQ0.out ?_))
 refine (number7_any l (⟨m, 0, s⟩ : St7).s (⟨m, 0, s⟩ : St7).m rt et sv dv _ HS0.out (by omega) I1.out I2.out I3.out I4.out).mono ?_
 rintro e w1 ⟨l1, rfl, hs1, hl1, hE1⟩
 have HS1 := Lib.hid (show Sim l1 (rdBallot (⟨m, 0, s⟩ : St7)).s from hs1)
 clear hs1
 try clear ck
 go_wp2_with (first
  | (refine putS (l2 := l1) (e2 := (rdBallot (⟨m, 0, s⟩ : St7)).s.err) (m2 := (⟨m, 0, s⟩ : St7).m) (r2 := rt) (et2 := et) (s2 := sv) (d2 := dv) (by rfl) _ _ rfl rfl rfl (StAt.ext HQ0.out hE1) I1.out I2.out I3.out I4.out ?_; intro WA1 hatA1 hBA1)
  | (refine putS_ballot (n := (((⟨m, 0, s⟩ : St7).s.num 1099511627776).2 : Nat)) (by rfl) _ _ rfl rfl rfl hatA1.out ?_; intro WB1 hatB1 hBB1; have HQ1 := Lib.hid (show StAt WB1 q l1 (rdBallot (⟨m, 0, s⟩ : St7)).s.err (rdBallot (⟨m, 0, s⟩ : St7)).m rt et sv dv from hatB1.out); have RES1 := Lib.hid (StAt.but (StAt.but (StAt.ext RES0.out hE1) hBA1.out (by have := NE.out; omega)) hBB1.out (by have := NE.out; omega)); have EA1 := EX0.out.trans hE1; have EB1 := Below.trans (B := w.heap.size) EA1 (hBA1.out.below NE.out.2.1 EA1.size); have EX1 := Lib.hid (show Ext w WB1 from Below.trans (B := w.heap.size) EB1 (hBB1.out.below NE.out.2.1 (Nat.le_trans EA1.size hBA1.out.size))); have RW1 := Lib.hid (show RowsM WB1 rt et sv dv (rdBallot (⟨m, 0, s⟩ : St7)).m from RowsM.keeps (m := (⟨m, 0, s⟩ : St7).m) RW0.out (Keeps.trans (Keeps.ofExt hE1) (Keeps.trans (StAt.keeps (StAt.ext HQ0.out hE1) hBA1.out) (StAt.keeps hatA1.out hBB1.out)))); clear EA1 EB1)
  | (refine ldS (by rfl) _ rfl rfl HQ1.out ?_))
 refine (number7_any l1 (rdBallot (⟨m, 0, s⟩ : St7)).s (rdBallot (⟨m, 0, s⟩ : St7)).m rt et sv dv _ HS1.out (by omega) I1.out I2.out I3.out I4.out).mono ?_
 rintro e w2 ⟨l2, rfl, hs2, hl2, hE2⟩
 have HS2 := Lib.hid (show Sim l2 (rdOld (rdBallot (⟨m, 0, s⟩ : St7))).s from hs2)
 clear hs2
 go_wp2_with (first
  | (refine putS (l2 := l2) (e2 := (rdOld (rdBallot (⟨m, 0, s⟩ : St7))).s.err) (m2 := (rdBallot (⟨m, 0, s⟩ : St7)).m) (r2 := rt) (et2 := et) (s2 := sv) (d2 := dv) (by rfl) _ _ rfl rfl rfl (StAt.ext HQ1.out hE2) I1.out I2.out I3.out I4.out ?_; intro WA2 hatA2 hBA2)
  | (refine putS_old (n := (((rdBallot (⟨m, 0, s⟩ : St7)).s.num 1099511627776).2 : Nat)) (by rfl) _ _ rfl rfl rfl hatA2.out ?_; intro WB2 hatB2 hBB2; have HQ2 := Lib.hid (show StAt WB2 q l2 (rdOld (rdBallot (⟨m, 0, s⟩ : St7))).s.err (rdOld (rdBallot (⟨m, 0, s⟩ : St7))).m rt et sv dv from hatB2.out); have RES2 := Lib.hid (StAt.but (StAt.but (StAt.ext RES1.out hE2) hBA2.out (by have := NE.out; omega)) hBB2.out (by have := NE.out; omega)); have EA2 := EX1.out.trans hE2; have EB2 := Below.trans (B := w.heap.size) EA2 (hBA2.out.below NE.out.2.1 EA2.size); have EX2 := Lib.hid (show Ext w WB2 from Below.trans (B := w.heap.size) EB2 (hBB2.out.below NE.out.2.1 (Nat.le_trans EA2.size hBA2.out.size))); have RW2 := Lib.hid (show RowsM WB2 rt et sv dv (rdOld (rdBallot (⟨m, 0, s⟩ : St7))).m from RowsM.keeps (m := (rdBallot (⟨m, 0, s⟩ : St7)).m) RW1.out (Keeps.trans (Keeps.ofExt hE2) (Keeps.trans (StAt.keeps (StAt.ext HQ1.out hE2) hBA2.out) (StAt.keeps hatA2.out hBB2.out)))); clear EA2 EB2; have co := StAt.old HQ2.out)
  | (refine ldS (by rfl) _ rfl rfl HQ2.out ?_))
 refine (text7_any l2 (rdOld (rdBallot (⟨m, 0, s⟩ : St7))).s (rdOld (rdBallot (⟨m, 0, s⟩ : St7))).m rt et sv dv _ HS2.out (by omega) I1.out I2.out I3.out I4.out).mono ?_
 rintro e w3 ⟨l3, u, rfl, hbo, hs3, hl3, hE3⟩
 have HS3 := Lib.hid (show Sim l3 (rdConf (rdOld (rdBallot (⟨m, 0, s⟩ : St7)))).s from hs3)
 clear hs3
 have HBO := Lib.hid hbo
 clear hbo
 have HLE := Lib.hid (text_len (rdOld (rdBallot (⟨m, 0, s⟩ : St7))).s (by omega))
 go_wp2_with (first
  | (refine allocS (by rfl) rfl ?_; intro WC qc hatC hEC hqC)
  | (refine putS (q := qc) (l2 := l3) (e2 := ((rdOld (rdBallot (⟨m, 0, s⟩ : St7))).s.text 65536).1.err) (m2 := (rdOld (rdBallot (⟨m, 0, s⟩ : St7))).m) (r2 := rt) (et2 := et) (s2 := sv) (d2 := dv) (by rfl) _ _ rfl rfl rfl hatC.out I1.out I2.out I3.out I4.out ?_; intro WD hatD hBD)
  | (refine ldS (by rfl) _ rfl rfl hatD.out ?_)
  | (refine putS (q := q) (l2 := l3) (e2 := ((rdOld (rdBallot (⟨m, 0, s⟩ : St7))).s.text 65536).1.err) (m2 := (rdOld (rdBallot (⟨m, 0, s⟩ : St7))).m) (r2 := rt) (et2 := et) (s2 := sv) (d2 := dv) (by rfl) _ _ rfl rfl rfl (StAt.but (StAt.ext (StAt.ext HQ2.out hE3) hEC.out) hBD.out (by have h1 := hqC.out; have h2 := (StAt.ext HQ2.out hE3).lt; omega)) I1.out I2.out I3.out I4.out ?_; intro WE hatE hBE))
 have hn := hqC.out
 have hlq := (StAt.ext HQ2.out hE3).lt
 have hlr := (StAt.ext RES2.out hE3).lt
 have RESE := Lib.hid (StAt.but (StAt.but (StAt.ext (StAt.ext RES2.out hE3) hEC.out) hBD.out (by omega)) hBE.out (by have := NE.out; omega))
 have EA := (EX2.out.trans hE3).trans hEC.out
 have EB := Below.trans (B := w.heap.size) EA (hBD.out.below (by have := (EX2.out.trans hE3).size; omega) EA.size)
 have EXE := Lib.hid (show Ext w WE from Below.trans (B := w.heap.size) EB (hBE.out.below NE.out.2.1 (Nat.le_trans EA.size hBD.out.size)))
 have hKE : Keeps w3 WE := Keeps.trans (Keeps.ofExt hEC.out) (Keeps.trans (StAt.keeps hatC.out hBD.out) (StAt.keeps (StAt.but (StAt.ext (StAt.ext HQ2.out hE3) hEC.out) hBD.out (by omega)) hBE.out))
 have HBE := Lib.hid (hKE.b _ _ HBO.out)
 have RWE := Lib.hid (RowsM.keeps (m := (rdOld (rdBallot (⟨m, 0, s⟩ : St7))).m) RW2.out (Keeps.trans (Keeps.ofExt hE3) hKE))
 clear EA EB hn hlq hlr hKE
 refine (refDecode6_row u _ _ HBE.out.1 (by have := HLE.out; omega)).mono ?_
 rintro e wd ⟨v, rfl, ⟨t, d, rfl, hk1, hk2⟩, hEd⟩
 have K1 := Lib.hid hk1
 have K2 := Lib.hid hk2
 have J2 := Lib.hid (irowsSlice hk2.rows)
 clear hk2
 have J1 := Lib.hid (intsSlice hk1.ints)
 clear hk1
 go_wp2_with (first
  | (refine putS_conf (z := Term.confOf (Term.dec ((rdOld (rdBallot (⟨m, 0, s⟩ : St7))).s.text 65536).2)) (t := t) (d := d) (by rfl) _ _ rfl rfl rfl (StAt.ext hatE.out hEd) J1.out J2.out ?_; intro WF hatF hBF; have HQ3 := Lib.hid (show StAt WF q l3 (rdConf (rdOld (rdBallot (⟨m, 0, s⟩ : St7)))).s.err (rdConf (rdOld (rdBallot (⟨m, 0, s⟩ : St7)))).m rt et t d from hatF.out); have RES3 := Lib.hid (StAt.but (StAt.ext RESE.out hEd) hBF.out (by have := NE.out; omega)); have EF := EXE.out.trans hEd; have EX3 := Lib.hid (show Ext w WF from Below.trans (B := w.heap.size) EF (hBF.out.below NE.out.2.1 EF.size)); have hKF : Keeps wd WF := StAt.keeps (StAt.ext hatE.out hEd) hBF.out; have h2 := RowsM.keeps (m := (rdOld (rdBallot (⟨m, 0, s⟩ : St7))).m) RWE.out (Keeps.trans (Keeps.ofExt hEd) hKF); have RW3 := Lib.hid (show RowsM WF rt et t d (rdConf (rdOld (rdBallot (⟨m, 0, s⟩ : St7)))).m from ⟨h2.1, h2.2.1, hKF.i _ _ K1.out, hKF.r _ _ K2.out⟩); clear EF hKF h2)
  | (refine ldS (by rfl) _ rfl rfl HQ3.out ?_)
  | (refine putS (l2 := l3) (e2 := (rdConf (rdOld (rdBallot (⟨m, 0, s⟩ : St7)))).s.err) (m2 := (rdConf (rdOld (rdBallot (⟨m, 0, s⟩ : St7)))).m) (r2 := rt) (et2 := et) (s2 := t) (d2 := d) (by rfl) _ _ rfl rfl rfl RES3.out I1.out I2.out J1.out J2.out ?_; intro WZ hatZ hBZ))
 have hld := run_loadVar_mid (P := Tryz.prog) WZ q1 0 90 _ _ hatZ.out.range Tryz.underlying90 rfl (by kernel_rfl)
 have hZ : Ext w WZ := Below.trans (B := w.heap.size) EX3.out (hBZ.out.below NE.out.2.2 EX3.out.size)
 exact bodyPost_ret (v := .agg (stCells l3 (rdConf (rdOld (rdBallot (⟨m, 0, s⟩ : St7)))).s.err (rdConf (rdOld (rdBallot (⟨m, 0, s⟩ : St7)))).m rt et t d)) (by simp [results, Tryz.results51, hld, asAddr, Act.put]) rfl ⟨_, _, _, _, _, rfl, HS3.out, by omega, RW3.out.keeps (StAt.keeps RES3.out hBZ.out), hZ⟩
end Go.Proofs.YtldfpklgbedgjaaGreat
