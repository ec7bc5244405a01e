/-
  Layer 5: bytes as entries: the document's own answer.
-/
import Derived.Test.YtboopfbflfimlaaEntF
import Derived.Test.YtboopfbflfimlaaPackRefPart
namespace Go.Proofs.Ytboopfbflfimlaa
set_option linter.unusedSimpArgs false
set_option linter.unusedVariables false
set_option maxRecDepth 100000
open Go.RowKit

theorem build_entR0 (w : World) : (Instr.build 26 #[]).run Try.prog w = .ok (.agg #[.int .i64 0, .int .i64 0, .slice none 0 0, .int .i64 0, .int .i64 0, .int .i64 0]) w := by kernel_rfl
theorem build_refR (w : World) (s : ByteArray) : (Instr.build 76 #[(0, .string s)]).run Try.prog w = .ok (.agg #[.string s, .int .i64 0]) w := by kernel_rfl
theorem setTwoR {w : World} {q : Nat} {x0 x1 : Value} {T : TypeId} (h : w.heap[q]? = some (.cells #[x0, x1] T (0, 0))) (v0 v1 : Value) :
    ((w.setCell ⟨q, 0, none⟩ v0).setCell ⟨q, 1, none⟩ v1).heap[q]? = some (.cells #[v0, v1] T (0, 0)) ∧ But q w ((w.setCell ⟨q, 0, none⟩ v0).setCell ⟨q, 1, none⟩ v1) := by
  refine ⟨?_, ((But.refl _ _).setCell 0 none v0).setCell 1 none v1⟩
  have := heap_setCell (heap_setCell h 0 v0) 1 v1
  simpa using this
/-- Block q is the document's reader in this state. -/
def RefR (w : World) (q n : Nat) (s : Pack.St) : Prop := ∃ lk : List UInt8, w.heap[q]? = some (.cells #[.string ⟨lk.toArray⟩, .int .i64 s.err] 76 (0, 0)) ∧ Sim lk s ∧ lk.length ≤ n
theorem RefR.lt {w : World} {q n : Nat} {s : Pack.St} (h : RefR w q n s) : q < w.heap.size := by
  obtain ⟨lk, h, _⟩ := h
  exact (Array.getElem?_eq_some_iff.1 h).1
theorem RefR.ext {w w' : World} {q n : Nat} {s : Pack.St} (h : RefR w q n s) (hE : Ext w w') : RefR w' q n s := by
  have hlt := h.lt
  obtain ⟨lk, h1, h2⟩ := h
  exact ⟨lk, (hE.block q hlt).trans h1, h2⟩
theorem RefR.but {w w' : World} {q p n : Nat} {s : Pack.St} (h : RefR w q n s) (hB : But p w w') (hne : q ≠ p) : RefR w' q n s := by
  have hlt := h.lt
  obtain ⟨lk, h1, h2⟩ := h
  exact ⟨lk, (hB.block q hlt hne).trans h1, h2⟩
theorem RefR.set {w : World} {q n : Nat} {s : Pack.St} (h : RefR w q n s) {l : List UInt8} {s' : Pack.St} (hs : Sim l s') (hl : l.length ≤ n) :
    RefR ((w.setCell ⟨q, 0, none⟩ (.string ⟨l.toArray⟩)).setCell ⟨q, 1, none⟩ (.int .i64 s'.err)) q n s' ∧ But q w ((w.setCell ⟨q, 0, none⟩ (.string ⟨l.toArray⟩)).setCell ⟨q, 1, none⟩ (.int .i64 s'.err)) := by
  obtain ⟨lk, h1, h2⟩ := h
  have := setTwoR h1 (.string ⟨l.toArray⟩) (.int .i64 s'.err)
  exact ⟨⟨l, this.1, hs, hl⟩, this.2⟩
theorem Ent.dec_yes {b l : List UInt8} (hc : Crc.cutOf b = some l) (h1 : Ent.right (Ent.read Ent.vd l) = true) (h2 : Ent.enc (Ent.read Ent.vd l) = b) : Ent.dec Ent.vd b = some (Ent.read Ent.vd l) := by
  unfold Ent.dec
  rw [hc]
  simp only [h1, h2, beq_self_eq_true, Bool.and_self, if_true]
theorem Ent.dec_bad {b l : List UInt8} (hc : Crc.cutOf b = some l) (h1 : Ent.right (Ent.read Ent.vd l) = false) : Ent.dec Ent.vd b = none := by
  unfold Ent.dec
  rw [hc]
  simp only [h1, Bool.false_and, Bool.false_eq_true, if_false]
theorem Ent.dec_else {b l : List UInt8} (hc : Crc.cutOf b = some l) (h2 : ¬ Ent.enc (Ent.read Ent.vd l) = b) : Ent.dec Ent.vd b = none := by
  unfold Ent.dec
  rw [hc]
  simp only [beq_eq_false_iff_ne.2 h2, Bool.and_false, Bool.false_eq_true, if_false]

set_option maxHeartbeats 16000000 in
theorem refDecode5_any (v : Value) (l : List UInt8) (w : World) (hv : Bytes w v l) (hl : l.length ≤ 100000) :
    Calls Try.prog 17 #[v] w (GivesDec5 w l) := by
  have hb0 := build_entR0
  have hbr := build_refR
  have HV := Lib.hid hv
  obtain ⟨a, cap, rfl, hcap, hmax, hn, hc⟩ := hv.open
  unfold maxLen at hmax
  clear hv hc
  unfold GivesDec5
  have hno := fun h => Ent.dec_cut (b := l) h
  have hyes := fun t h1 h2 h3 => Ent.dec_yes (b := l) (l := t) h1 h2 h3
  have hbad := fun t h1 h2 => Ent.dec_bad (b := l) (l := t) h1 h2
  have helse := fun t h1 h2 => Ent.dec_else (b := l) (l := t) h1 h2
  have hlen := fun t h => cutOf_le (l := l) (t := t) h
  obtain ⟨D, hD⟩ : ∃ D, Ent.dec Ent.vd l = D := ⟨_, rfl⟩
  obtain ⟨C, hC⟩ : ∃ C, Crc.cutOf l = C := ⟨_, rfl⟩
  rw [hC, hD] at hno hyes hbad helse ⊢
  rw [hC] at hlen
  have HC := Lib.hid hC
  have HNO := Lib.hid hno
  have HYES := Lib.hid hyes
  have HBAD := Lib.hid hbad
  have HELSE := Lib.hid helse
  have HLEN := Lib.hid hlen
  clear hC hD hno hyes hbad helse hlen
  have hE0 : Ext w (w.alloc (.cells #[.int .i64 0, .int .i64 0, .slice none 0 0, .int .i64 0, .int .i64 0, .int .i64 0] 26)) := Ext.alloc _ _
  have HR0 := Lib.hid (EntAt.zero 26 w)
  go_enter Try.func17, Try.ntmps17
  go_wp2_with fail
  have hcall := cut_ref _ l _ (HV.out.below hE0) (by omega)
  rw [HC.out] at hcall
  refine hcall.mono ?_
  clear hcall
  intro e w1 hq
  obtain ⟨hE1, hcut⟩ := hq
  have r1 := Lib.hid (HR0.out.ext hE1)
  have e1 := hE0.trans hE1
  cases C with
  | none =>
    subst hcut
    have hno := HNO.out rfl
    subst hno
    obtain ⟨c0, c1, c2, c3, c4, c5⟩ := r1.out.cells
    have fr : ∀ i, w1.frozen? ⟨w.heap.size, i, none⟩ = false := fun i => frozen_of_heap r1.out i
    go_wp2_with fail
    have hs := r1.out.set (.slice none 0 0) Ent.noE
    exact bodyPost_ret (v := .tuple #[entV (.slice none 0 0) Ent.noE, .int .i64 51]) (by simp [results, Try.results17, go_sem, c0, c1, c2, c3, c4, c5, fr, Ent.noE, entV]) rfl ⟨_, rfl, ⟨_, rfl, ints_none _⟩, Below.trans (B := w.heap.size) e1 (hs.2.below (Nat.le_refl _) e1.size)⟩
  | some t =>
    obtain ⟨v2, rfl, hb2⟩ := hcut
    have htl : t.length ≤ l.length := HLEN.out t rfl
    have hst := run_str (P := Try.prog) 27 9 5 Try.underlying27 Try.underlying5 Try.underlying9 hb2
    obtain ⟨a2, n2, k2, rfl⟩ := hb2.isSlice
    obtain ⟨A1, nA, hA⟩ : ∃ A1 nA, Ent.stA t = (A1, nA) := ⟨_, _, rfl⟩
    obtain ⟨B1, nB, hB⟩ : ∃ B1 nB, Ent.stB t = (B1, nB) := ⟨_, _, rfl⟩
    have hA' : Pack.St.num ⟨t, 0⟩ 4611686018427387904 = (A1, nA) := by rw [← hA]; rfl
    have hB' : A1.num 4611686018427387904 = (B1, nB) := by rw [← hB]; unfold Ent.stB; rw [hA]; rfl
    have HA := Lib.hid hA
    have HB := Lib.hid hB
    have HB' := Lib.hid hB'
    have h1 := readNumRef_any t 4611686018427387904 ⟨t, 0⟩ ((w1.alloc (.cells #[.string ⟨t.toArray⟩, .int .i64 0] 76)).alloc (.cells #[.int .i64 0, .int .i64 0, .slice none 0 0, .int .i64 0, .int .i64 0, .int .i64 0] 26)) ⟨fun _ => rfl, fun h => absurd rfl h⟩ (by omega)
    rw [hA'] at h1
    unfold refVal at h1
    have H1 := Lib.hid h1
    have hE2 : Ext w1 ((w1.alloc (.cells #[.string ⟨t.toArray⟩, .int .i64 0] 76)).alloc (.cells #[.int .i64 0, .int .i64 0, .slice none 0 0, .int .i64 0, .int .i64 0, .int .i64 0] 26)) := ext_two _ _ _
    have HH := Lib.hid (heap_two w1 (.cells #[.string ⟨t.toArray⟩, .int .i64 0] 76) (.cells #[.int .i64 0, .int .i64 0, .slice none 0 0, .int .i64 0, .int .i64 0, .int .i64 0] 26))
    clear hA hB hA' hB' h1 hb2
    go_wp2_with fail
    refine H1.out.mono ?_
    rintro e w2 ⟨l2, rfl, hs2, hl2, hE3⟩
    obtain ⟨x, hx⟩ : ∃ x : Int, (nA : Int) = x := ⟨_, rfl⟩
    have HX := Lib.hid hx
    dsimp only
    rw [hx]
    have e2 := e1.trans (hE2.trans hE3)
    have D2 := Lib.hid (show RefR w2 w1.heap.size t.length ⟨t, 0⟩ from ⟨t, heap_ext HH.out.1 hE3, ⟨fun _ => rfl, fun h => absurd rfl h⟩, Nat.le_refl _⟩)
    have X2 := Lib.hid (show EntAt 26 w2 (w1.heap.size + 1) (.slice none 0 0) ⟨0, 0, [], 0, 0, 0⟩ from heap_ext HH.out.2 hE3)
    have R2 := Lib.hid (r1.out.ext (hE2.trans hE3))
    have h01 : w.heap.size < w1.heap.size := r1.out.lt
    obtain ⟨qr, hqr⟩ : ∃ qr, w1.heap.size = qr := ⟨_, rfl⟩
    rw [hqr] at D2 X2 h01 ⊢
    clear hqr HH H1 hst hx hE2 hE3 hE1 hE0 HR0
    obtain ⟨lk, hk, hsm, hln⟩ := D2.out
    have z0 := cell_of_heap hk 0
    have z1 := cell_of_heap hk 1
    have fz := fun i => frozen_of_heap hk i
    simp at z0 z1
    obtain ⟨c0, c1, c2, c3, c4, c5⟩ := X2.out.cells
    have fx := fun i => frozen_of_heap X2.out i
    have hDD := D2.out.set hs2 (show l2.length ≤ t.length by omega)
    have D3 := Lib.hid (hDD.1.but (butSet _ (qr + 1) 0 (.int .i64 x)) (by omega))
    have X3 := Lib.hid (EntAt.setNumber (n' := x) (X2.out.but hDD.2 (by omega)))
    have R3 := Lib.hid ((R2.out.but hDD.2 (by omega)).but (butSet _ (qr + 1) 0 (.int .i64 x)) (by omega))
    have e3 : Ext w (((w2.setCell ⟨qr, 0, none⟩ (.string ⟨l2.toArray⟩)).setCell ⟨qr, 1, none⟩ (.int .i64 A1.err)).setCell ⟨qr + 1, 0, none⟩ (.int .i64 x)) := Below.setCell (Below.trans (B := w.heap.size) e2 (hDD.2.below (by omega) e2.size)) (p := ⟨qr + 1, 0, none⟩) (by show w.heap.size ≤ qr + 1; omega) _
    clear hk hDD
    go_wp2_with fail
    generalize hw : (((w2.setCell ⟨qr, 0, none⟩ (.string ⟨l2.toArray⟩)).setCell ⟨qr, 1, none⟩ (.int .i64 A1.err)).setCell ⟨qr + 1, 0, none⟩ (.int .i64 x)) = w3 at *
    clear hw z0 z1 fz c0 c1 c2 c3 c4 c5 fx D2 X2 R2
    have hcall := readNumRef_any l2 4611686018427387904 A1 w3 hs2 (by omega)
    rw [HB'.out] at hcall
    unfold refVal at hcall
    refine hcall.mono ?_
    clear hcall
    rintro e w4 ⟨l4, rfl, hs4, hl4, hE4⟩
    obtain ⟨k, hk⟩ : ∃ k : Int, (nB : Int) = k := ⟨_, rfl⟩
    have Hk := Lib.hid hk
    dsimp only
    rw [hk]
    clear hk
    have e4 := e3.trans hE4
    have D4 := Lib.hid (D3.out.ext hE4)
    have X4 := Lib.hid (X3.out.ext hE4)
    have R4 := Lib.hid (R3.out.ext hE4)
    clear D3 X3 R3 hE4
    by_cases k1 : k = 1
    · subst k1
      have hn1 : nB = 1 := by have := Hk.out; omega
      obtain ⟨F1, FT, hF⟩ : ∃ F1 FT, Ent.stV t = (F1, FT) := ⟨_, _, rfl⟩
      have hF' : B1.text 65536 = (F1, FT) := by rw [← hF]; unfold Ent.stV; rw [HB.out]
      have HP := Lib.hid (show Ent.read Ent.vd t = ⟨x, 1, Ent.vd FT, 0, 0, 0⟩ by unfold Ent.read; rw [HB.out, if_pos hn1, hF, HA.out, ← HX.out])
      have hFl : FT.length ≤ 65536 := by have h9 := textMost B1 65536 (by omega); rw [hF'] at h9; have h8 : ((FT.length : Nat) : Int) ≤ 65536 := h9; omega
      have HF := Lib.hid hF'
      clear hF hF' hn1
      obtain ⟨lk, hk, hsm, hln⟩ := D4.out
      have z0 := cell_of_heap hk 0
      have z1 := cell_of_heap hk 1
      have fz := fun i => frozen_of_heap hk i
      simp at z0 z1
      obtain ⟨c0, c1, c2, c3, c4, c5⟩ := X4.out.cells
      have fx := fun i => frozen_of_heap X4.out i
      have hDD := D4.out.set hs4 (show l4.length ≤ t.length by omega)
      have D5 := Lib.hid (hDD.1.but (butSet _ (qr + 1) 1 (.int .i64 1)) (by omega))
      have X5 := Lib.hid (EntAt.setKind (k' := 1) (X4.out.but hDD.2 (by omega)))
      have R5 := Lib.hid ((R4.out.but hDD.2 (by omega)).but (butSet _ (qr + 1) 1 (.int .i64 1)) (by omega))
      have e5 : Ext w (((w4.setCell ⟨qr, 0, none⟩ (.string ⟨l4.toArray⟩)).setCell ⟨qr, 1, none⟩ (.int .i64 B1.err)).setCell ⟨qr + 1, 1, none⟩ (.int .i64 1)) := Below.setCell (Below.trans (B := w.heap.size) e4 (hDD.2.below (by omega) e4.size)) (p := ⟨qr + 1, 1, none⟩) (by show w.heap.size ≤ qr + 1; omega) _
      clear hk hDD
      go_wp2_with fail
      generalize hw : (((w4.setCell ⟨qr, 0, none⟩ (.string ⟨l4.toArray⟩)).setCell ⟨qr, 1, none⟩ (.int .i64 B1.err)).setCell ⟨qr + 1, 1, none⟩ (.int .i64 1)) = w5 at *
      clear hw z0 z1 fz c0 c1 c2 c3 c4 c5 fx D4 X4 R4
      have hcall := readTextRef_any l4 65536 B1 w5 hs4 (by omega)
      rw [HF.out] at hcall
      unfold refVal at hcall
      refine hcall.mono ?_
      clear hcall
      rintro e w6 ⟨l6, rfl, hs6, hl6, hE6⟩
      have e6 := e5.trans hE6
      have D6 := Lib.hid (D5.out.ext hE6)
      have X6 := Lib.hid (X5.out.ext hE6)
      have R6 := Lib.hid (R5.out.ext hE6)
      clear D5 X5 R5 hE6
      obtain ⟨lk, hk, hsm, hln⟩ := D6.out
      have z0 := cell_of_heap hk 0
      have z1 := cell_of_heap hk 1
      have fz := fun i => frozen_of_heap hk i
      simp at z0 z1
      obtain ⟨c0, c1, c2, c3, c4, c5⟩ := X6.out.cells
      have fx := fun i => frozen_of_heap X6.out i
      have hDD := D6.out.set hs6 (show l6.length ≤ t.length by omega)
      have D7 := Lib.hid hDD.1
      have X7 := Lib.hid (X6.out.but hDD.2 (by omega))
      have R7 := Lib.hid (R6.out.but hDD.2 (by omega))
      have e7 : Ext w ((w6.setCell ⟨qr, 0, none⟩ (.string ⟨l6.toArray⟩)).setCell ⟨qr, 1, none⟩ (.int .i64 F1.err)) := Below.trans (B := w.heap.size) e6 (hDD.2.below (by omega) e6.size)
      clear hk hDD
      have hcv := run_conv ((w6.setCell ⟨qr, 0, none⟩ (.string ⟨l6.toArray⟩)).setCell ⟨qr, 1, none⟩ (.int .i64 F1.err)) FT
      have hsz7 := Lib.hid (show ((w6.setCell ⟨qr, 0, none⟩ (.string ⟨l6.toArray⟩)).setCell ⟨qr, 1, none⟩ (.int .i64 F1.err)).heap.size = w6.heap.size by simp [World.setCell])
      go_wp2_with fail
      generalize hw : ((w6.setCell ⟨qr, 0, none⟩ (.string ⟨l6.toArray⟩)).setCell ⟨qr, 1, none⟩ (.int .i64 F1.err)) = w7 at *
      clear hw z0 z1 fz c0 c1 c2 c3 c4 c5 fx D6 X6 R6
      have hby := Lib.hid (bytes_of_str w7 FT 5 (by unfold maxLen; omega))
      rw [hsz7.out] at hby
      have hEb := ext_bytesWorld w7 5 ⟨FT.toArray⟩
      clear hcv
      refine (refDecode_own _ FT _ hby.out (by omega)).mono ?_
      unfold GivesDecO
      rintro e w8 ⟨v8, rfl, ho8, hE8⟩
      have hE78 := hEb.trans hE8
      have e8 := e7.trans hE78
      have D8 := Lib.hid (D7.out.ext hE78)
      have X8 := Lib.hid (X7.out.ext hE78)
      have R8 := Lib.hid (R7.out.ext hE78)
      obtain ⟨a8, n8, c8, rfl⟩ := ownSlice ho8
      have O8 := Lib.hid (show w8.ownsRow _ 3 1 (.slice a8 n8 c8) (Ent.vd FT).length (i64s (Ent.vd FT)) from ho8)
      have hfar : ∀ j, (Value.slice a8 n8 c8).ownBlock = some j → qr + 1 < j := fun j hj => by
        have h1 := (O8.out.lt j hj).1
        have h2 := hEb.size
        have h3 := X7.out.lt
        omega
      have O9 := Lib.hid (rowBut O8.out (p := qr + 1) (fun e => by have := hfar _ e.symm; omega) (butSet w8 (qr + 1) 2 (.slice a8 n8 c8)))
      have HKEEP := Lib.hid (show ∀ w11 w', Ext (w8.setCell ⟨qr + 1, 2, none⟩ (.slice a8 n8 c8)) w11 → But w.heap.size w11 w' → Ints w' (.slice a8 n8 c8) (Ent.vd FT) from fun w11 w' hE hB => Sl.ofOwn (rowBut (rowExt O9.out hE) (fun e => by have := hfar _ e.symm; omega) hB))
      have HI := Lib.hid (show Ints (w8.setCell ⟨qr + 1, 2, none⟩ (.slice a8 n8 c8)) (.slice a8 n8 c8) (Ent.vd FT) from Sl.ofOwn O9.out)
      obtain ⟨c0, c1, c2, c3, c4, c5⟩ := X8.out.cells
      have fx := fun i => frozen_of_heap X8.out i
      have X9 := Lib.hid (EntAt.setCut (u' := .slice a8 n8 c8) (c' := Ent.vd FT) X8.out)
      have R9 := Lib.hid (R8.out.but (butSet w8 (qr + 1) 2 (.slice a8 n8 c8)) (by omega))
      have e9 : Ext w (w8.setCell ⟨qr + 1, 2, none⟩ (.slice a8 n8 c8)) := Below.setCell e8 (p := ⟨qr + 1, 2, none⟩) (by show w.heap.size ≤ qr + 1; omega) _
      clear ho8 hfar
      go_wp2_with fail
      generalize hw9 : w8.setCell ⟨qr + 1, 2, none⟩ (.slice a8 n8 c8) = w9 at *
      clear hw9 c0 c1 c2 c3 c4 c5 fx
      refine (refEncode5_any _ ⟨x, 1, Ent.vd FT, 0, 0, 0⟩ _ ⟨_, rfl, HI.out⟩).mono ?_
      unfold GivesEnc5
      rintro e wf ⟨uf, rfl, hbf, hEf⟩
      have rf := Lib.hid (R9.out.ext hEf)
      have xf := Lib.hid (X9.out.ext hEf)
      have ef := e9.trans hEf
      obtain ⟨c0, c1, c2, c3, c4, c5⟩ := rf.out.cells
      have fr : ∀ i, wf.frozen? ⟨w.heap.size, i, none⟩ = false := fun i => frozen_of_heap rf.out i
      cases hrr : Ent.right ⟨x, 1, Ent.vd FT, 0, 0, 0⟩ with
      | false =>
        have hno := HBAD.out t rfl (by rw [HP.out]; exact hrr)
        subst hno
        clear hrr hbf
        go_wp2_with fail
        have hs := rf.out.set (.slice none 0 0) Ent.noE
        exact bodyPost_ret (v := .tuple #[entV (.slice none 0 0) Ent.noE, .int .i64 50]) (by simp [results, Try.results17, go_sem, c0, c1, c2, c3, c4, c5, fr, Ent.noE, entV]) rfl
          ⟨_, rfl, ⟨_, rfl, ints_none _⟩, Below.trans (B := w.heap.size) ef (hs.2.below (Nat.le_refl _) ef.size)⟩
      | true =>
        rw [hrr, bytesOr_true] at hbf
        have hst := run_str (P := Try.prog) 27 9 5 Try.underlying27 Try.underlying5 Try.underlying9 hbf
        have hst2 := run_str (P := Try.prog) 27 9 5 Try.underlying27 Try.underlying5 Try.underlying9 (HV.out.below ef)
        obtain ⟨af, nf, kf, rfl⟩ := hbf.isSlice
        obtain ⟨Z, hZ⟩ : ∃ Z, Ent.enc ⟨x, 1, Ent.vd FT, 0, 0, 0⟩ = Z := ⟨_, rfl⟩
        rw [hZ] at hst
        clear hbf
        by_cases hzl : Z = l
        · have hyes := HYES.out t rfl (by rw [HP.out]; exact hrr) (by rw [HP.out, hZ]; exact hzl)
          rw [HP.out] at hyes
          subst hyes
          subst hzl
          clear hrr hZ
          obtain ⟨d0, d1, d2, d3, d4, d5⟩ := xf.out.cells
          go_wp2_with fail
          have hs := rf.out.set (.slice a8 n8 c8) ⟨x, 1, Ent.vd FT, 0, 0, 0⟩
          exact bodyPost_ret (v := .tuple #[entV (.slice a8 n8 c8) ⟨x, 1, Ent.vd FT, 0, 0, 0⟩, .int .i64 0]) (by simp [results, Try.results17, go_sem, c0, c1, c2, c3, c4, c5, d0, d1, d2, d3, d4, d5, fr, entV]) rfl
            ⟨_, rfl, ⟨_, rfl, HKEEP.out _ _ hEf hs.2⟩, Below.trans (B := w.heap.size) ef (hs.2.below (Nat.le_refl _) ef.size)⟩
        · have hno := HELSE.out t rfl (by rw [HP.out, hZ]; exact hzl)
          subst hno
          have hzz : (Z == l) = false := beq_eq_false_iff_ne.2 hzl
          clear hrr hZ
          go_wp2_with fail
          have hs := rf.out.set (.slice none 0 0) Ent.noE
          exact bodyPost_ret (v := .tuple #[entV (.slice none 0 0) Ent.noE, .int .i64 50]) (by simp [results, Try.results17, go_sem, c0, c1, c2, c3, c4, c5, fr, Ent.noE, entV]) rfl
            ⟨_, rfl, ⟨_, rfl, ints_none _⟩, Below.trans (B := w.heap.size) ef (hs.2.below (Nat.le_refl _) ef.size)⟩
    · have hn1 : nB ≠ 1 := by have := Hk.out; omega
      obtain ⟨F1, nF, hF⟩ : ∃ F1 nF, Ent.stT t = (F1, nF) := ⟨_, _, rfl⟩
      obtain ⟨G1, nG, hG⟩ : ∃ G1 nG, Ent.stM t = (G1, nG) := ⟨_, _, rfl⟩
      obtain ⟨H1, nH, hH⟩ : ∃ H1 nH, Ent.stP t = (H1, nH) := ⟨_, _, rfl⟩
      have hF' : B1.num 4611686018427387904 = (F1, nF) := by rw [← hF]; unfold Ent.stT; rw [HB.out]; rfl
      have hG' : F1.num 4611686018427387904 = (G1, nG) := by rw [← hG]; unfold Ent.stM; rw [hF]; rfl
      have hH' : G1.num 4611686018427387904 = (H1, nH) := by rw [← hH]; unfold Ent.stP; rw [hG]; rfl
      have HP0 := Lib.hid (show Ent.read Ent.vd t = ⟨x, k, [], (nF : Int), (nG : Int), (nH : Int)⟩ by unfold Ent.read; rw [HB.out, if_neg hn1, hF, hG, hH, HA.out, ← HX.out, ← Hk.out])
      have HF := Lib.hid hF'
      have HG := Lib.hid hG'
      have HH := Lib.hid hH'
      clear hF hF' hG hG' hH hH' hn1
      obtain ⟨lk, hk, hsm, hln⟩ := D4.out
      have z0 := cell_of_heap hk 0
      have z1 := cell_of_heap hk 1
      have fz := fun i => frozen_of_heap hk i
      simp at z0 z1
      obtain ⟨c0, c1, c2, c3, c4, c5⟩ := X4.out.cells
      have fx := fun i => frozen_of_heap X4.out i
      have hDD := D4.out.set hs4 (show l4.length ≤ t.length by omega)
      have D5 := Lib.hid (hDD.1.but (butSet _ (qr + 1) 1 (.int .i64 k)) (by omega))
      have X5 := Lib.hid (EntAt.setKind (k' := k) (X4.out.but hDD.2 (by omega)))
      have R5 := Lib.hid ((R4.out.but hDD.2 (by omega)).but (butSet _ (qr + 1) 1 (.int .i64 k)) (by omega))
      have e5 : Ext w (((w4.setCell ⟨qr, 0, none⟩ (.string ⟨l4.toArray⟩)).setCell ⟨qr, 1, none⟩ (.int .i64 B1.err)).setCell ⟨qr + 1, 1, none⟩ (.int .i64 k)) := Below.setCell (Below.trans (B := w.heap.size) e4 (hDD.2.below (by omega) e4.size)) (p := ⟨qr + 1, 1, none⟩) (by show w.heap.size ≤ qr + 1; omega) _
      clear hk hDD
      go_wp2_with fail
      generalize hw : (((w4.setCell ⟨qr, 0, none⟩ (.string ⟨l4.toArray⟩)).setCell ⟨qr, 1, none⟩ (.int .i64 B1.err)).setCell ⟨qr + 1, 1, none⟩ (.int .i64 k)) = w5 at *
      clear hw z0 z1 fz c0 c1 c2 c3 c4 c5 fx D4 X4 R4
      have hcall := readNumRef_any l4 4611686018427387904 B1 w5 hs4 (by omega)
      rw [HF.out] at hcall
      unfold refVal at hcall
      refine hcall.mono ?_
      clear hcall
      rintro e w6 ⟨l6, rfl, hs6, hl6, hE6⟩
      obtain ⟨f, hf⟩ : ∃ f : Int, (nF : Int) = f := ⟨_, rfl⟩
      have Hf := Lib.hid hf
      dsimp only
      rw [hf]
      clear hf
      have e6 := e5.trans hE6
      have D6 := Lib.hid (D5.out.ext hE6)
      have X6 := Lib.hid (X5.out.ext hE6)
      have R6 := Lib.hid (R5.out.ext hE6)
      clear D5 X5 R5 hE6
      obtain ⟨lk, hk, hsm, hln⟩ := D6.out
      have z0 := cell_of_heap hk 0
      have z1 := cell_of_heap hk 1
      have fz := fun i => frozen_of_heap hk i
      simp at z0 z1
      obtain ⟨c0, c1, c2, c3, c4, c5⟩ := X6.out.cells
      have fx := fun i => frozen_of_heap X6.out i
      have hDD := D6.out.set hs6 (show l6.length ≤ t.length by omega)
      have D7 := Lib.hid (hDD.1.but (butSet _ (qr + 1) 3 (.int .i64 f)) (by omega))
      have X7 := Lib.hid (EntAt.setTag (t' := f) (X6.out.but hDD.2 (by omega)))
      have R7 := Lib.hid ((R6.out.but hDD.2 (by omega)).but (butSet _ (qr + 1) 3 (.int .i64 f)) (by omega))
      have e7 : Ext w (((w6.setCell ⟨qr, 0, none⟩ (.string ⟨l6.toArray⟩)).setCell ⟨qr, 1, none⟩ (.int .i64 F1.err)).setCell ⟨qr + 1, 3, none⟩ (.int .i64 f)) := Below.setCell (Below.trans (B := w.heap.size) e6 (hDD.2.below (by omega) e6.size)) (p := ⟨qr + 1, 3, none⟩) (by show w.heap.size ≤ qr + 1; omega) _
      clear hk hDD
      go_wp2_with fail
      generalize hw : (((w6.setCell ⟨qr, 0, none⟩ (.string ⟨l6.toArray⟩)).setCell ⟨qr, 1, none⟩ (.int .i64 F1.err)).setCell ⟨qr + 1, 3, none⟩ (.int .i64 f)) = w7 at *
      clear hw z0 z1 fz c0 c1 c2 c3 c4 c5 fx D6 X6 R6
      have hcall := readNumRef_any l6 4611686018427387904 F1 w7 hs6 (by omega)
      rw [HG.out] at hcall
      unfold refVal at hcall
      refine hcall.mono ?_
      clear hcall
      rintro e w8 ⟨l8, rfl, hs8, hl8, hE8⟩
      obtain ⟨g, hg⟩ : ∃ g : Int, (nG : Int) = g := ⟨_, rfl⟩
      have Hg := Lib.hid hg
      dsimp only
      rw [hg]
      clear hg
      have e8 := e7.trans hE8
      have D8 := Lib.hid (D7.out.ext hE8)
      have X8 := Lib.hid (X7.out.ext hE8)
      have R8 := Lib.hid (R7.out.ext hE8)
      clear D7 X7 R7 hE8
      obtain ⟨lk, hk, hsm, hln⟩ := D8.out
      have z0 := cell_of_heap hk 0
      have z1 := cell_of_heap hk 1
      have fz := fun i => frozen_of_heap hk i
      simp at z0 z1
      obtain ⟨c0, c1, c2, c3, c4, c5⟩ := X8.out.cells
      have fx := fun i => frozen_of_heap X8.out i
      have hDD := D8.out.set hs8 (show l8.length ≤ t.length by omega)
      have D9 := Lib.hid (hDD.1.but (butSet _ (qr + 1) 4 (.int .i64 g)) (by omega))
      have X9 := Lib.hid (EntAt.setTerm (m' := g) (X8.out.but hDD.2 (by omega)))
      have R9 := Lib.hid ((R8.out.but hDD.2 (by omega)).but (butSet _ (qr + 1) 4 (.int .i64 g)) (by omega))
      have e9 : Ext w (((w8.setCell ⟨qr, 0, none⟩ (.string ⟨l8.toArray⟩)).setCell ⟨qr, 1, none⟩ (.int .i64 G1.err)).setCell ⟨qr + 1, 4, none⟩ (.int .i64 g)) := Below.setCell (Below.trans (B := w.heap.size) e8 (hDD.2.below (by omega) e8.size)) (p := ⟨qr + 1, 4, none⟩) (by show w.heap.size ≤ qr + 1; omega) _
      clear hk hDD
      go_wp2_with fail
      generalize hw : (((w8.setCell ⟨qr, 0, none⟩ (.string ⟨l8.toArray⟩)).setCell ⟨qr, 1, none⟩ (.int .i64 G1.err)).setCell ⟨qr + 1, 4, none⟩ (.int .i64 g)) = w9 at *
      clear hw z0 z1 fz c0 c1 c2 c3 c4 c5 fx D8 X8 R8
      have hcall := readNumRef_any l8 4611686018427387904 G1 w9 hs8 (by omega)
      rw [HH.out] at hcall
      unfold refVal at hcall
      refine hcall.mono ?_
      clear hcall
      rintro e w10 ⟨l10, rfl, hs10, hl10, hE10⟩
      obtain ⟨h, hh⟩ : ∃ h : Int, (nH : Int) = h := ⟨_, rfl⟩
      have Hh := Lib.hid hh
      dsimp only
      rw [hh]
      clear hh
      have e10 := e9.trans hE10
      have D10 := Lib.hid (D9.out.ext hE10)
      have X10 := Lib.hid (X9.out.ext hE10)
      have R10 := Lib.hid (R9.out.ext hE10)
      clear D9 X9 R9 hE10
      obtain ⟨lk, hk, hsm, hln⟩ := D10.out
      have z0 := cell_of_heap hk 0
      have z1 := cell_of_heap hk 1
      have fz := fun i => frozen_of_heap hk i
      simp at z0 z1
      obtain ⟨c0, c1, c2, c3, c4, c5⟩ := X10.out.cells
      have fx := fun i => frozen_of_heap X10.out i
      have hDD := D10.out.set hs10 (show l10.length ≤ t.length by omega)
      have D11 := Lib.hid (hDD.1.but (butSet _ (qr + 1) 5 (.int .i64 h)) (by omega))
      have X11 := Lib.hid (EntAt.setPos (p' := h) (X10.out.but hDD.2 (by omega)))
      have R11 := Lib.hid ((R10.out.but hDD.2 (by omega)).but (butSet _ (qr + 1) 5 (.int .i64 h)) (by omega))
      have e11 : Ext w (((w10.setCell ⟨qr, 0, none⟩ (.string ⟨l10.toArray⟩)).setCell ⟨qr, 1, none⟩ (.int .i64 H1.err)).setCell ⟨qr + 1, 5, none⟩ (.int .i64 h)) := Below.setCell (Below.trans (B := w.heap.size) e10 (hDD.2.below (by omega) e10.size)) (p := ⟨qr + 1, 5, none⟩) (by show w.heap.size ≤ qr + 1; omega) _
      clear hk hDD
      go_wp2_with fail
      generalize hw : (((w10.setCell ⟨qr, 0, none⟩ (.string ⟨l10.toArray⟩)).setCell ⟨qr, 1, none⟩ (.int .i64 H1.err)).setCell ⟨qr + 1, 5, none⟩ (.int .i64 h)) = w11 at *
      clear hw z0 z1 fz c0 c1 c2 c3 c4 c5 fx D10 X10 R10
      have HP := Lib.hid (show Ent.read Ent.vd t = ⟨x, k, [], f, g, h⟩ by rw [HP0.out, Hf.out, Hg.out, Hh.out])
      have HI := Lib.hid (ints_none w11)
      refine (refEncode5_any _ ⟨x, k, [], f, g, h⟩ _ ⟨_, rfl, HI.out⟩).mono ?_
      unfold GivesEnc5
      rintro e wf ⟨uf, rfl, hbf, hEf⟩
      have rf := Lib.hid (R11.out.ext hEf)
      have xf := Lib.hid (X11.out.ext hEf)
      have ef := e11.trans hEf
      obtain ⟨c0, c1, c2, c3, c4, c5⟩ := rf.out.cells
      have fr : ∀ i, wf.frozen? ⟨w.heap.size, i, none⟩ = false := fun i => frozen_of_heap rf.out i
      cases hrr : Ent.right ⟨x, k, [], f, g, h⟩ with
      | false =>
        have hno := HBAD.out t rfl (by rw [HP.out]; exact hrr)
        subst hno
        clear hrr hbf
        go_wp2_with fail
        have hs := rf.out.set (.slice none 0 0) Ent.noE
        exact bodyPost_ret (v := .tuple #[entV (.slice none 0 0) Ent.noE, .int .i64 50]) (by simp [results, Try.results17, go_sem, c0, c1, c2, c3, c4, c5, fr, Ent.noE, entV]) rfl
          ⟨_, rfl, ⟨_, rfl, ints_none _⟩, Below.trans (B := w.heap.size) ef (hs.2.below (Nat.le_refl _) ef.size)⟩
      | true =>
        rw [hrr, bytesOr_true] at hbf
        have hst := run_str (P := Try.prog) 27 9 5 Try.underlying27 Try.underlying5 Try.underlying9 hbf
        have hst2 := run_str (P := Try.prog) 27 9 5 Try.underlying27 Try.underlying5 Try.underlying9 (HV.out.below ef)
        obtain ⟨af, nf, kf, rfl⟩ := hbf.isSlice
        obtain ⟨Z, hZ⟩ : ∃ Z, Ent.enc ⟨x, k, [], f, g, h⟩ = Z := ⟨_, rfl⟩
        rw [hZ] at hst
        clear hbf
        by_cases hzl : Z = l
        · have hyes := HYES.out t rfl (by rw [HP.out]; exact hrr) (by rw [HP.out, hZ]; exact hzl)
          rw [HP.out] at hyes
          subst hyes
          subst hzl
          clear hrr hZ
          obtain ⟨d0, d1, d2, d3, d4, d5⟩ := xf.out.cells
          go_wp2_with fail
          have hs := rf.out.set (.slice none 0 0) ⟨x, k, [], f, g, h⟩
          exact bodyPost_ret (v := .tuple #[entV (.slice none 0 0) ⟨x, k, [], f, g, h⟩, .int .i64 0]) (by simp [results, Try.results17, go_sem, c0, c1, c2, c3, c4, c5, d0, d1, d2, d3, d4, d5, fr, entV]) rfl
            ⟨_, rfl, ⟨_, rfl, ints_none _⟩, Below.trans (B := w.heap.size) ef (hs.2.below (Nat.le_refl _) ef.size)⟩
        · have hno := HELSE.out t rfl (by rw [HP.out, hZ]; exact hzl)
          subst hno
          have hzz : (Z == l) = false := beq_eq_false_iff_ne.2 hzl
          clear hrr hZ
          go_wp2_with fail
          have hs := rf.out.set (.slice none 0 0) Ent.noE
          exact bodyPost_ret (v := .tuple #[entV (.slice none 0 0) Ent.noE, .int .i64 50]) (by simp [results, Try.results17, go_sem, c0, c1, c2, c3, c4, c5, fr, Ent.noE, entV]) rfl
            ⟨_, rfl, ⟨_, rfl, ints_none _⟩, Below.trans (B := w.heap.size) ef (hs.2.below (Nat.le_refl _) ef.size)⟩
end Go.Proofs.Ytboopfbflfimlaa
