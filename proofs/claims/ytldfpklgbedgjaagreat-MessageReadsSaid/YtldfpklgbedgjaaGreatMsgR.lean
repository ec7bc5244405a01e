/-
 Merged: Layer 7, the program: bytes as messages.
-/
import Derived.Test.YtldfpklgbedgjaaGreatBrCrc
import Derived.Test.YtldfpklgbedgjaaGreatMsgD
import Derived.Test.YtldfpklgbedgjaaGreatMsgQ
namespace Go.Proofs.YtldfpklgbedgjaaGreat
set_option linter.unusedSimpArgs false
set_option linter.unusedVariables false
set_option maxRecDepth 100000
open Go.RowKit
def errOf7 : Option Msg.M → Int
 | none => 70
 | some _ => 0
def msgOf7 : Option Msg.M → Msg.M
 | none => Msg.none0
 | some m => m
def RowMsg (w : World) (v : Value) (m : Msg.M) : Prop := ∃ rt et sv dv, v = .agg (msgCells m rt et sv dv) ∧ RowI w rt m.reco.tags ∧ RowI w et m.ent.cut ∧ RowI w sv m.conf.seqs ∧ RowRR w dv m.conf.shards
theorem RowMsg.is {w : World} {v : Value} {m : Msg.M} (h : RowMsg w v m) : IsMsg w v m := by
 obtain ⟨rt, et, sv, dv, rfl, h1, h2, h3, h4⟩ := h
 exact ⟨rt, et, sv, dv, rfl, h1.ints, h2.ints, h3.ints, h4.rows⟩
def GivesDec7 (w : World) (o : Option Msg.M) (x : Ending) (w' : World) : Prop := ∃ v, x = .returned (.tuple #[v, .int .i64 (errOf7 o)]) ∧ RowMsg w' v (msgOf7 o) ∧ Ext w w'
theorem build_msg0 (w : World) : (Instr.build 45 #[]).run Tryz.prog w = .ok (.agg (msgCells Msg.none0 (.slice none 0 0) (.slice none 0 0) (.slice none 0 0) (.slice none 0 0))) w := by kernel_rfl
theorem build_msg4 (w : World) (a b c d : Int) : (Instr.build 45 #[(0, .int .i64 a), (1, .int .i64 b), (2, .int .i64 c), (3, .int .i64 d)]).run Tryz.prog w = .ok (.agg (msgCells ⟨a, b, c, d, 0, 0, false, Msg.rec0, Msg.ent0, 0, 0, Msg.conf0⟩ (.slice none 0 0) (.slice none 0 0) (.slice none 0 0) (.slice none 0 0))) w := by kernel_rfl
theorem rowMsg0 (w : World) : RowMsg w (.agg (msgCells Msg.none0 (.slice none 0 0) (.slice none 0 0) (.slice none 0 0) (.slice none 0 0))) Msg.none0 := ⟨_, _, _, _, rfl, RowI.nil _, RowI.nil _, RowI.nil _, RowRR.nil _⟩
theorem cutOf_le7 {l t : List UInt8} (h : Crc.cutOf l = some t) : t.length ≤ l.length := cutOf_le6 h
theorem heap_setCells (b : Nat) (T : TypeId) (fr : Nat × Nat) : ∀ (vs pre cs : List Value) (o : Nat) (w : World), w.heap[b]? = some (.cells (pre ++ cs).toArray T fr) → pre.length = o → cs.length = vs.length → (w.setCells b o vs).heap[b]? = some (.cells (pre ++ vs).toArray T fr) := by
 intro vs
 induction vs with
 | nil =>
  intro pre cs o w h _ hl
  have : cs = [] := List.length_eq_zero_iff.1 hl
  subst this
  exact h
 | cons v vs ih =>
  intro pre cs o w h ho hl
  match cs, hl with
  | c :: cs, hl =>
   have h1 := heap_setCell h o v
   have e : (pre ++ c :: cs).toArray.setIfInBounds o v = ((pre ++ [v]) ++ cs).toArray := by
    rw [List.setIfInBounds_toArray]
    congr 1
    subst ho
    rw [List.set_append_right _ _ (Nat.le_refl _)]
    simp
   rw [e] at h1
   have h2 := ih (pre ++ [v]) cs (o + 1) (w.setCell ⟨b, o, none⟩ v) h1 (by rw [List.length_append, ho]; rfl) (by simpa using hl)
   rw [show pre ++ v :: vs = (pre ++ [v]) ++ vs by simp]
   exact h2
theorem but_setCells (b : Nat) : ∀ (vs : List Value) (o : Nat) (w : World), But b w (w.setCells b o vs) := by
 intro vs
 induction vs with
 | nil => exact fun o w => But.refl _ _
 | cons v vs ih => exact fun o w => ((But.refl b w).setCell o none v).trans (ih (o + 1) _)
theorem storeAll {W : World} {T : TypeId} {q : Nat} {m m2 : Msg.M} {rt et sv dv r2 e2 s2 d2 : Value} (h : MsgAt T W q m rt et sv dv) : MsgAt T (W.setCells q 0 (msgCells m2 r2 e2 s2 d2).toList) q m2 r2 e2 s2 d2 ∧ But q W (W.setCells q 0 (msgCells m2 r2 e2 s2 d2).toList) :=
 ⟨heap_setCells q T (0, 0) (msgCells m2 r2 e2 s2 d2).toList [] (msgCells m rt et sv dv).toList 0 W h rfl rfl, but_setCells q _ _ _⟩
theorem stM {W : World} {T : TypeId} {q : Nat} {m m2 : Msg.M} {rt et sv dv r2 e2 s2 d2 : Value} (h : MsgAt T W q m rt et sv dv) (h1 : ∃ a n c, r2 = .slice a n c) (h2 : ∃ a n c, e2 = .slice a n c) (h3 : ∃ a n c, s2 = .slice a n c) (h4 : ∃ a n c, d2 = .slice a n c) :
 (Instr.storeAt 45 (.pointer (some ⟨q, 0, none⟩)) (.agg (msgCells m2 r2 e2 s2 d2))).run Tryz.prog W = .ok () (W.setCells q 0 (msgCells m2 r2 e2 s2 d2).toList) := by
 obtain ⟨_, _, _, rfl⟩ := h1
 obtain ⟨_, _, _, rfl⟩ := h2
 obtain ⟨_, _, _, rfl⟩ := h3
 obtain ⟨_, _, _, rfl⟩ := h4
 exact run_storeAt_mid W q 0 45 _ (there7 h 0 22 (by omega)) (by kernel_rfl) (by simp [msgCells, Value.oneCell'])
theorem allocM {ops : Array Oper} {rest : List Oper} {op : Oper} {a : Act} {w : World} {Q : Exit → Act → World → Prop} (hw : Region.wanted op (yielded ops a.tmps) = true) (ho : op.op = .alloc 45)
 (h : ∀ W b, Hid (MsgAt 45 W b Msg.none0 (.slice none 0 0) (.slice none 0 0) (.slice none 0 0) (.slice none 0 0)) → Hid (Ext w W) → Hid (b = w.heap.size) → wpList Tryz.prog ops Q rest (a.put op.dst (.pointer (some ⟨b, 0, none⟩))) W) : wpList Tryz.prog ops Q (op :: rest) a w :=
 BigFrame.wpList_want hw fun K hK => by
  have hr : (execOp a.eval op).run Tryz.prog w = .ok (.value (.pointer (some ⟨w.heap.size, 0, none⟩))) (w.alloc (.cells (msgCells Msg.none0 (.slice none 0 0) (.slice none 0 0) (.slice none 0 0) (.slice none 0 0)) 45)) := by
   unfold execOp
   simp only [ho]
   kernel_rfl
  unfold Oper.wp
  rw [hr]
  exact hK _ _ (h _ _ (Lib.hid (MsgAt.new _ w _ _ _ _ _)) (Lib.hid (Ext.alloc _ _)) (Lib.hid rfl))
theorem putM {ops : Array Oper} {rest : List Oper} {op : Oper} {a : Act} {w : World} {Q : Exit → Act → World → Prop} {q : Nat} {m m2 : Msg.M} {rt et sv dv r2 e2 s2 d2 : Value} (hw : Region.wanted op (yielded ops a.tmps) = true) (x y : Operand) (ho : op.op = .store 45 x y)
 (hx : a.eval x = .pointer (some ⟨q, 0, none⟩)) (hy : a.eval y = .agg (msgCells m2 r2 e2 s2 d2)) (hat : MsgAt 45 w q m rt et sv dv) (h1 : ∃ a n c, r2 = .slice a n c) (h2 : ∃ a n c, e2 = .slice a n c) (h3 : ∃ a n c, s2 = .slice a n c) (h4 : ∃ a n c, d2 = .slice a n c)
 (h : ∀ W, Hid (MsgAt 45 W q m2 r2 e2 s2 d2) → Hid (But q w W) → wpList Tryz.prog ops Q rest (a.put op.dst undef) W) : wpList Tryz.prog ops Q (op :: rest) a w :=
 BigFrame.wpList_want hw fun K hK => by
  have hs := stM (m2 := m2) hat h1 h2 h3 h4
  obtain ⟨k1, k2⟩ := storeAll (m2 := m2) (r2 := r2) (e2 := e2) (s2 := s2) (d2 := d2) hat
  unfold Oper.wp execOp
  simp only [ho, hx, hy]
  rw [Sem.run_bind, hs]
  exact hK _ _ (h _ (Lib.hid k1) (Lib.hid k2))
theorem noSlice : ∃ a n c, (Value.slice none 0 0) = .slice a n c := ⟨_, _, _, rfl⟩
set_option maxHeartbeats 16000000 in
theorem decode7_row (v : Value) (l : List UInt8) (w : World) (hv : Bytes w v l) (hl : l.length ≤ 200000) : Calls Tryz.prog 16 #[v] w (GivesDec7 w (Msg.dec Ent.vd l)) := by
 have hb0 := build_msg0
 have hb4 := build_msg4
 have HV := Lib.hid hv
 obtain ⟨a, cap, rfl, hcap, hmax, hn, hc⟩ := hv.open
 unfold maxLen at hmax
 clear hv hc
 unfold GivesDec7
 have hno := fun h => Msg.By.dec_cut (vd := Ent.vd) (b := l) h
 have hyes := fun t h1 h2 => Msg.By.dec_yes (B := bds7) (vd := Ent.vd) Ent.vd_back (b := l) (l := t) h1 h2
 have hnot := fun t h1 h2 => Msg.By.dec_no (B := bds7) bds7_ok (vd := Ent.vd) Ent.vd_back (b := l) (l := t) h1 h2
 have hlen := fun t h => cutOf_le7 (l := l) (t := t) h
 obtain ⟨D, hD⟩ : ∃ D, Msg.dec Ent.vd l = D := ⟨_, rfl⟩
 obtain ⟨C, hC⟩ : ∃ C, Crc.cutOf l = C := ⟨_, rfl⟩
 rw [hC] at hno hyes hnot hlen
 rw [hD] at hno hyes hnot ⊢
 have HC := Lib.hid hC
 have HNO := Lib.hid hno
 have HYES := Lib.hid hyes
 have HNOT := Lib.hid hnot
 have HLEN := Lib.hid hlen
 clear hC hD hno hyes hnot hlen
 go_enter Tryz.func16, Tryz.ntmps16
 go_wp2_with (refine allocM (by rfl) rfl ?_; intro W0 q hat0 hE0 hq0)
 refine (new_any _).mono ?_
 rintro e w1 ⟨rfl, ht1, hE1⟩
 have e1 := hE0.out.trans hE1
 have r1 := Lib.hid (hat0.out.ext hE1)
 have hqw : w.heap.size ≤ q := by have := hq0.out; omega
 have hq1 : q < W0.heap.size := hat0.out.lt
 go_wp2_with fail
 have hcall := cut_any _ 0 0 _ l _ ht1 (.inl rfl) (HV.out.below e1) hl
 rw [HC.out] at hcall
 refine hcall.mono ?_
 clear hcall
 intro e w2 hq
 obtain ⟨-, hB2, hcut⟩ := hq
 have e2 : Ext w w2 := Below.trans (B := w.heap.size) e1 (hB2.below hE0.out.size e1.size)
 have r2 := Lib.hid (r1.out.but hB2 (by omega))
 clear hat0 hE0 hE1 ht1 r1
 cases C with
 | none =>
  subst hcut
  have hno := HNO.out rfl
  subst hno
  go_wp2_with (refine putM (m2 := Msg.none0) (by rfl) _ _ rfl rfl rfl r2.out noSlice noSlice noSlice noSlice ?_; intro W3 hat3 hB3)
  have hld := run_loadVar_mid (P := Tryz.prog) W3 q 0 45 _ _ hat3.out.range Tryz.underlying45 rfl (by kernel_rfl)
  exact bodyPost_ret (v := .tuple #[.agg (msgCells Msg.none0 (.slice none 0 0) (.slice none 0 0) (.slice none 0 0) (.slice none 0 0)), .int .i64 70]) (by simp [results, Tryz.results16, hld, asAddr]) rfl ⟨_, rfl, rowMsg0 _, Below.trans (B := w.heap.size) e2 (hB3.out.below hqw e2.size)⟩
 | some t =>
  obtain ⟨v2, rfl, hb2⟩ := hcut
  have htl : t.length ≤ l.length := HLEN.out t rfl
  obtain ⟨hok, hmm⟩ := fin7_ok t
  have HOK := Lib.hid hok
  have HMM := Lib.hid hmm
  obtain ⟨a2, n2, k2, rfl⟩ := hb2.isSlice
  clear hok hmm
  go_wp2_with fail
  refine (newReader_any _ t _ hb2 (by omega)).mono ?_
  rintro e w3 ⟨p, rfl, hp, hr3, hE3⟩
  have e3 := hE3
  have hq0' : q ≠ p := by have := r2.out.lt; omega
  have hwp : w2.heap.size ≤ p := hp
  obtain ⟨K, hK⟩ : ∃ K, Msg.By.stK bds7 t = K := ⟨_, rfl⟩
  obtain ⟨S, hS⟩ : ∃ S, Msg.By.stS bds7 t = S := ⟨_, rfl⟩
  obtain ⟨D1, hD1⟩ : ∃ D1, Msg.By.stD bds7 t = D1 := ⟨_, rfl⟩
  obtain ⟨T1, hT1⟩ : ∃ T1, Msg.By.stT bds7 t = T1 := ⟨_, rfl⟩
  have HK := Lib.hid (show Pack.St.num ⟨t, 0⟩ 10 = K from hK)
  have HS := Lib.hid (show K.1.num 15 = S by rw [← hS, ← hK]; rfl)
  have HD1 := Lib.hid (show S.1.num 15 = D1 by rw [← hD1, ← hS]; rfl)
  have HT1 := Lib.hid (show D1.1.num 64 = T1 by rw [← hT1, ← hD1]; rfl)
  have HH := Lib.hid (show (head7 t).m = ⟨(K.2 : Nat), (S.2 : Nat), (D1.2 : Nat), (T1.2 : Nat), 0, 0, false, Msg.rec0, Msg.ent0, 0, 0, Msg.conf0⟩ ∧ (head7 t).s = T1.1 by unfold head7 Msg.By.k; rw [hK, hS, hD1, hT1]; exact ⟨rfl, rfl⟩)
  clear hK hS hD1 hT1
  go_wp2_with fail
  refine (num_any p _ 10 _ hr3).mono ?_
  rw [HK.out]
  rintro e w4 ⟨rfl, hB4, hr4⟩
  have e4 : Ext w2 w4 := Below.trans (B := w2.heap.size) e3 (hB4.below hwp e3.size)
  go_wp2_with fail
  refine (num_any p _ 15 _ hr4).mono ?_
  rw [HS.out]
  rintro e w5 ⟨rfl, hB5, hr5⟩
  have e5 : Ext w2 w5 := Below.trans (B := w2.heap.size) e4 (hB5.below hwp e4.size)
  go_wp2_with fail
  refine (num_any p _ 15 _ hr5).mono ?_
  rw [HD1.out]
  rintro e w6 ⟨rfl, hB6, hr6⟩
  have e6 : Ext w2 w6 := Below.trans (B := w2.heap.size) e5 (hB6.below hwp e5.size)
  go_wp2_with fail
  refine (num_any p _ 64 _ hr6).mono ?_
  rw [HT1.out]
  rintro e w7 ⟨rfl, hB7, hr7⟩
  have R7 := Lib.hid hr7
  have e7 : Ext w2 w7 := Below.trans (B := w2.heap.size) e6 (hB7.below hwp e6.size)
  have hp7 : p < w7.heap.size := hr7.lt
  clear hr3 hr4 hr5 hr6 hr7 hb2
  go_wp2_with (first
   | (refine allocM (by rfl) rfl ?_; intro W8 M hat8 hE8 hM8)
   | (refine putM (m2 := (head7 t).m) (r2 := .slice none 0 0) (e2 := .slice none 0 0) (s2 := .slice none 0 0) (d2 := .slice none 0 0) (by rfl) _ _ rfl rfl (by rw [HH.out.1]; rfl) hat8.out noSlice noSlice noSlice noSlice ?_; intro W9 hat9 hB9))
  have hMe := hM8.out
  have hlt8 := hat8.out.lt
  have hR8 : RD W8 p T1.1 := R7.out.ext hE8.out
  have hR9 : RD W9 p (head7 t).s := by rw [HH.out.2]; exact hR8.keep (fun k hk => hB9.out.block k (by omega) (by omega))
  have e9 : Ext w2 W9 := Below.trans (B := w2.heap.size) (e7.trans hE8.out) (hB9.out.below (by have := e7.size; omega) (e7.trans hE8.out).size)
  have hrows : RowI W9 (.slice none 0 0) (head7 t).m.reco.tags ∧ RowI W9 (.slice none 0 0) (head7 t).m.ent.cut ∧ RowI W9 (.slice none 0 0) (head7 t).m.conf.seqs ∧ RowRR W9 (.slice none 0 0) (head7 t).m.conf.shards := ⟨RowI.nil _, RowI.nil _, RowI.nil _, RowRR.nil _⟩
  have hcall := readFields7_any w2 W9 p M (head7 t).m (head7 t).s _ _ _ _ hR9 hat9.out hrows.1 hrows.2.1 hrows.2.2.1 hrows.2.2.2 e9 hwp (by omega)
  have HX := Lib.hid (show rdAll ⟨(head7 t).m, 0, (head7 t).s⟩ = fin7 t from rfl)
  rw [HX.out] at hcall
  have hMq : q ≠ M := by have := r2.out.lt; have := e7.size; omega
  clear hat8 hE8 hM8 hat9 hB9 hR8 hR9 hrows R7 hMe hlt8
  refine hcall.mono ?_
  clear hcall
  rintro e w10 ⟨rfl, RR, MB, EB, TX, hdf⟩
  obtain ⟨X, hX⟩ : ∃ X, fin7 t = X := ⟨_, rfl⟩
  rw [hX] at hdf HOK HMM ⊢
  have HDF := Lib.hid hdf
  obtain ⟨rt, et, sv, dv, hr⟩ := hdf
  have HR := Lib.hid hr
  have e10 := Lib.hid (e2.trans hr.low)
  have r10 := Lib.hid (r2.out.ext hr.low)
  have HIS := Lib.hid (show ∀ w', Ext w10 w' → IsMsg w' (.agg (msgCells X.m rt et sv dv)) X.m from fun w' h => ⟨_, _, _, _, rfl, (hr.hr.ext h).ints, (hr.he.ext h).ints, (hr.hs.ext h).ints, (hr.hd.ext h).rows⟩)
  have HROWS := Lib.hid (show ∀ w' w'', Ext w10 w' → But q w' w'' → RowMsg w'' (.agg (msgCells X.m rt et sv dv)) X.m from fun w' w'' h hB => ⟨_, _, _, _, rfl, (hr.hr.ext h).but (r10.out.ext h) (by decide) hB, (hr.he.ext h).but (r10.out.ext h) (by decide) hB, (hr.hs.ext h).but (r10.out.ext h) (by decide) hB, (hr.hd.ext h).but (r10.out.ext h) (by decide) (by decide) hB⟩)
  have HSL := Lib.hid (show (∃ a n c, rt = .slice a n c) ∧ (∃ a n c, et = .slice a n c) ∧ (∃ a n c, sv = .slice a n c) ∧ (∃ a n c, dv = .slice a n c) from ⟨intsSlice hr.hr.ints, intsSlice hr.he.ints, intsSlice hr.hs.ints, irowsSlice hr.hd.rows⟩)
  clear hX hr e3 e4 e5 e6 e7 e9 hp7 hB2 e1
  cases he : (X.err == 0) with
  | false =>
   have hne : (X.err != 0) = true := by rw [bne, he]; rfl
   have hno := HNOT.out t rfl (by rw [← HOK.out, he]; rfl)
   subst hno
   clear he
   go_wp2_with (refine putM (m2 := Msg.none0) (by rfl) _ _ rfl rfl rfl r10.out noSlice noSlice noSlice noSlice ?_; intro W3 hat3 hB3)
   have hld := run_loadVar_mid (P := Tryz.prog) W3 q 0 45 _ _ hat3.out.range Tryz.underlying45 rfl (by kernel_rfl)
   exact bodyPost_ret (v := .tuple #[.agg (msgCells Msg.none0 (.slice none 0 0) (.slice none 0 0) (.slice none 0 0) (.slice none 0 0)), .int .i64 70]) (by simp [results, Tryz.results16, hld, asAddr]) rfl ⟨_, rfl, rowMsg0 _, Below.trans (B := w.heap.size) e10.out (hB3.out.below hqw e10.out.size)⟩
  | true =>
   have hne : (X.err != 0) = false := by rw [bne, he]; rfl
   have HEZ := Lib.hid (show X.err = 0 by simpa using he)
   have HOK2 := Lib.hid (show Msg.By.ok bds7 Ent.vd t = (X.s.done == 0 && Msg.right X.m) by rw [← HOK.out, he]; rfl)
   clear he
   go_wp2_with fail
   refine (end_any p X.s _ HDF.out.rd).mono ?_
   obtain ⟨d, hdd⟩ : ∃ d, X.s.done = d := ⟨_, rfl⟩
   rw [hdd] at HOK2 ⊢
   clear hdd
   rintro e w11 ⟨rfl, rfl⟩
   cases hd : (d == 0) with
   | false =>
    have hdn : (d != 0) = true := by rw [bne, hd]; rfl
    have hno := HNOT.out t rfl (by rw [HOK2.out, hd]; rfl)
    subst hno
    clear hd
    go_wp2_with (refine putM (m2 := Msg.none0) (by rfl) _ _ rfl rfl rfl r10.out noSlice noSlice noSlice noSlice ?_; intro W3 hat3 hB3)
    have hld := run_loadVar_mid (P := Tryz.prog) W3 q 0 45 _ _ hat3.out.range Tryz.underlying45 rfl (by kernel_rfl)
    exact bodyPost_ret (v := .tuple #[.agg (msgCells Msg.none0 (.slice none 0 0) (.slice none 0 0) (.slice none 0 0) (.slice none 0 0)), .int .i64 70]) (by simp [results, Tryz.results16, hld, asAddr]) rfl ⟨_, rfl, rowMsg0 _, Below.trans (B := w.heap.size) e10.out (hB3.out.below hqw e10.out.size)⟩
   | true =>
    have hdn : (d != 0) = false := by rw [bne, hd]; rfl
    have HOK3 := Lib.hid (show Msg.By.ok bds7 Ent.vd t = Msg.right X.m by rw [HOK2.out, hd]; rfl)
    clear hd
    go_wp2_with (refine ldA (by rfl) _ rfl rfl HR.out.at_ ?_)
    refine (right7_any _ X.m _ (HIS.out _ (Ext.refl _))).mono ?_
    rintro e w12 ⟨rfl, hE12⟩
    have e12 := Lib.hid (e10.out.trans hE12)
    have r12 := Lib.hid (r10.out.ext hE12)
    have HAT := Lib.hid (HR.out.at_.ext hE12)
    cases hrr : Msg.right X.m with
    | false =>
     have hno := HNOT.out t rfl (by rw [HOK3.out, hrr])
     subst hno
     clear hrr
     go_wp2_with (refine putM (m2 := Msg.none0) (by rfl) _ _ rfl rfl rfl r12.out noSlice noSlice noSlice noSlice ?_; intro W3 hat3 hB3)
     have hld := run_loadVar_mid (P := Tryz.prog) W3 q 0 45 _ _ hat3.out.range Tryz.underlying45 rfl (by kernel_rfl)
     exact bodyPost_ret (v := .tuple #[.agg (msgCells Msg.none0 (.slice none 0 0) (.slice none 0 0) (.slice none 0 0) (.slice none 0 0)), .int .i64 70]) (by simp [results, Tryz.results16, hld, asAddr]) rfl ⟨_, rfl, rowMsg0 _, Below.trans (B := w.heap.size) e12.out (hB3.out.below hqw e12.out.size)⟩
    | true =>
     have hyes := HYES.out t rfl (by rw [HOK3.out, hrr])
     rw [← HMM.out HEZ.out] at hyes
     subst hyes
     clear hrr
     go_wp2_with (first
      | (refine ldA (by rfl) _ rfl rfl HAT.out ?_)
      | (refine putM (m2 := X.m) (by rfl) _ _ rfl rfl rfl r12.out HSL.out.1 HSL.out.2.1 HSL.out.2.2.1 HSL.out.2.2.2 ?_; intro W3 hat3 hB3))
     have hld := run_loadVar_mid (P := Tryz.prog) W3 q 0 45 _ _ hat3.out.range Tryz.underlying45 rfl (by kernel_rfl)
     exact bodyPost_ret (v := .tuple #[.agg (msgCells X.m rt et sv dv), .int .i64 0]) (by simp [results, Tryz.results16, hld, asAddr]) rfl ⟨_, rfl, HROWS.out _ _ hE12 hB3.out, Below.trans (B := w.heap.size) e12.out (hB3.out.below hqw e12.out.size)⟩
theorem decode7_any (v : Value) (l : List UInt8) (w : World) (hv : Bytes w v l) (hl : l.length ≤ 200000) : Calls Tryz.prog 16 #[v] w fun x w' => ∃ u, x = .returned (.tuple #[u, .int .i64 (errOf7 (Msg.dec Ent.vd l))]) ∧ IsMsg w' u (msgOf7 (Msg.dec Ent.vd l)) ∧ Ext w w' :=
 (decode7_row v l w hv hl).mono fun e w' ⟨u, he, hr, hE⟩ => ⟨u, he, hr.is, hE⟩
theorem decode7_enc (v : Value) (m : Msg.M) (w : World) (hr : Msg.right m = true) (hv : Bytes w v (Msg.enc m)) : Calls Tryz.prog 16 #[v] w fun x w' => ∃ u, x = .returned (.tuple #[u, .int .i64 0]) ∧ IsMsg w' u m ∧ Ext w w' := by
 have h := decode7_any v (Msg.enc m) w hv (by have := Msg.enc_le hr; omega)
 rw [Msg.dec_enc Ent.vd_back hr] at h
 exact h
end Go.Proofs.YtldfpklgbedgjaaGreat
