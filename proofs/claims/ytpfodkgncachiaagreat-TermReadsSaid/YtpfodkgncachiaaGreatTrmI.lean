/-
  Layer 6: bytes as configurations: the document's own answer.
-/
import Derived.Test.YtpfodkgncachiaaGreatTrmF
import Derived.Test.YtpfodkgncachiaaGreatTrmH
namespace Go.Proofs.YtpfodkgncachiaaGreat
set_option linter.unusedSimpArgs false
set_option linter.unusedVariables false
set_option maxRecDepth 100000
open Go.RowKit

theorem build_confR0 (w : World) : (Instr.build 25 #[]).run Tryz.prog w = .ok (.agg #[.int .i64 0, .slice none 0 0, .slice none 0 0]) w := by kernel_rfl
theorem setTwo6B {w : World} {q : Nat} (v0 v1 : Value) : But q w ((w.setCell ⟨q, 0, none⟩ v0).setCell ⟨q, 1, none⟩ v1) := ((But.refl _ _).setCell 0 none v0).setCell 1 none v1
theorem Ref6.heapOf {w : World} {q n : Nat} {s : Pack.St} (h : Ref6 w q n s) : ∃ a b, w.heap[q]? = some (.cells #[.string a, .int .i64 b] 73 (0, 0)) := by
  obtain ⟨lk, h, _⟩ := h
  exact ⟨_, _, h⟩
theorem Ref6.grown {w w' : World} {q n : Nat} {s : Pack.St} {o : Option Nat} (h : Ref6 w q n s) (hg : w.grownBy w' o) (hne : some q ≠ o) : Ref6 w' q n s := by
  obtain ⟨lk, h1, h2⟩ := h
  exact ⟨lk, (hg.block q (Array.getElem?_eq_some_iff.1 h1).1 hne).trans h1, h2⟩

set_option maxHeartbeats 16000000 in
theorem refDecode6_any (v : Value) (l : List UInt8) (w : World) (hv : Bytes w v l) (hl : l.length ≤ 100000) :
    Calls Tryz.prog 17 #[v] w (GivesDec6 w l) := by
  have hb0 := build_confR0
  have hbr := build_refR6
  have HV := Lib.hid hv
  obtain ⟨a, cap, rfl, hcap, hmax, hn, hc⟩ := hv.open
  unfold maxLen at hmax
  clear hv hc
  unfold GivesDec6
  have hno := fun h => Term.dec_cut (b := l) h
  have hyes := fun t h1 h2 => Term.dec_gok (m1 := 16) (m2 := 16) (nd := 16) (b := l) (l := t) h1 h2
  have hnot := fun t h1 h2 => Term.dec_gnot (m1 := 16) (m2 := 16) (nd := 16) (by decide) (by decide) (by decide) (b := l) (l := t) h1 h2
  have hlen := fun t h => cutOf_le6 (l := l) (t := t) h
  obtain ⟨D, hD⟩ : ∃ D, Term.dec l = D := ⟨_, rfl⟩
  obtain ⟨C, hC⟩ : ∃ C, Crc.cutOf l = C := ⟨_, rfl⟩
  rw [hC] at hno hyes hnot hlen
  rw [hD] at hno hyes hnot ⊢
  have HC := Lib.hid hC
  have HNO := Lib.hid hno
  have HYES := Lib.hid hyes
  have HNOT := Lib.hid hnot
  have HLEN := Lib.hid hlen
  clear hC hD hno hyes hnot hlen
  have hE0 : Ext w (w.alloc (.cells #[.int .i64 0, .slice none 0 0, .slice none 0 0] 25)) := Ext.alloc _ _
  have HR0 := Lib.hid (confZero 25 w)
  go_enter Tryz.func17, Tryz.ntmps17
  go_wp2_with fail
  have hcall := cut_ref _ l _ (HV.out.below hE0) (by omega)
  rw [HC.out] at hcall
  refine hcall.mono ?_
  clear hcall
  intro e w1 hq
  obtain ⟨hE1, hcut⟩ := hq
  have r1 := Lib.hid (HR0.out.ext hE1)
  have e1 := hE0.trans hE1
  -- whether it was cut, and what is left
  obtain ⟨is, t, v2, rfl, hb2, htl, hno2, hyes2, hnot2⟩ : ∃ (is : Bool) (t : List UInt8) (v2 : Value), e = .returned (.tuple #[v2, .bool is]) ∧ Bytes w1 v2 t ∧ t.length ≤ l.length ∧ Hid (is = false → D = none) ∧ Hid (is = true → Term.gok 16 16 16 t = true → D = some (Term.gread 16 16 16 t)) ∧ Hid (is = true → Term.gok 16 16 16 t = false → D = none) := by
    cases C with
    | none =>
      subst hcut
      exact ⟨false, [], _, rfl, bytes_none _, by simp, fun _ => HNO.out rfl, (fun h => by cases h), (fun h => by cases h)⟩
    | some t =>
      obtain ⟨v2, rfl, hb2⟩ := hcut
      exact ⟨true, t, v2, rfl, hb2, HLEN.out t rfl, (fun h => by cases h), fun _ => HYES.out t rfl, fun _ => HNOT.out t rfl⟩
  clear hcut HC HNO HYES HNOT HLEN
  have hst := run_str (P := Tryz.prog) 28 9 5 Tryz.underlying28 Tryz.underlying5 Tryz.underlying9 (hb2.below (Ext.alloc w1 (.cells #[.int .i64 0, .slice none 0 0, .slice none 0 0] 25)))
  obtain ⟨a2, n2, k2, rfl⟩ := hb2.isSlice
  obtain ⟨A1, nA, hA⟩ : ∃ A1 nA, Term.gA t = (A1, nA) := ⟨_, _, rfl⟩
  obtain ⟨B1, nB, hB⟩ : ∃ B1 nB, Term.gB 16 16 t = (B1, nB) := ⟨_, _, rfl⟩
  obtain ⟨C1, m, hC⟩ : ∃ C1 m, Term.gC 16 16 t = (C1, m) := ⟨_, _, rfl⟩
  have hA' : Pack.St.num ⟨t, 0⟩ 64 = (A1, nA) := hA
  have hB' : Term.gRow 16 16 A1 = (B1, nB) := by rw [← hB]; unfold Term.gB; rw [hA]
  have hC' : B1.num 8 = (C1, m) := by rw [← hC]; unfold Term.gC; rw [hB]
  have hm8 : m ≤ 8 := by
    have := numMost B1 8 (by omega)
    rw [hC'] at this
    simp only at this
    omega
  have HGR := Lib.hid (show (Term.gD 16 16 16 t).1 = (Term.gRows 16 16 C1 m).1 ∧ Term.gread 16 16 16 t = ⟨(nA : Int), nB, (Term.gRows 16 16 C1 m).2⟩ by unfold Term.gread Term.gD; rw [hA, hB, hC]; exact ⟨rfl, rfl⟩)
  have HB := Lib.hid hB'
  have HCC := Lib.hid hC'
  have h1 := readNumRef_any t 64 ⟨t, 0⟩ ((w1.alloc (.cells #[.int .i64 0, .slice none 0 0, .slice none 0 0] 25)).alloc (.cells #[.string ⟨t.toArray⟩, .int .i64 0] 73)) ⟨fun _ => rfl, fun h => absurd rfl h⟩ (by omega)
  rw [hA'] at h1
  unfold refVal at h1
  have H1 := Lib.hid h1
  have hE2 : Ext w1 ((w1.alloc (.cells #[.int .i64 0, .slice none 0 0, .slice none 0 0] 25)).alloc (.cells #[.string ⟨t.toArray⟩, .int .i64 0] 73)) := ext_two _ _ _
  have HH := Lib.hid (heap_two w1 (.cells #[.int .i64 0, .slice none 0 0, .slice none 0 0] 25) (.cells #[.string ⟨t.toArray⟩, .int .i64 0] 73))
  clear hA hB hC hA' hB' hC' h1 hb2
  go_wp2_with fail
  refine H1.out.mono ?_
  rintro e w2 ⟨l2, rfl, hs2, hl2, hE3⟩
  obtain ⟨x, hx⟩ : ∃ x : Int, (nA : Int) = x := ⟨_, rfl⟩
  have HX := Lib.hid hx
  dsimp only
  rw [hx]
  rw [hx] at HGR
  have e2 := e1.trans (hE2.trans hE3)
  have X2 := Lib.hid (show ConfAt 25 w2 w1.heap.size 0 (.slice none 0 0) (.slice none 0 0) from heap_ext HH.out.1 hE3)
  have D2 := Lib.hid (show Ref6 w2 (w1.heap.size + 1) t.length ⟨t, 0⟩ from ⟨t, heap_ext HH.out.2 hE3, ⟨fun _ => rfl, fun h => absurd rfl h⟩, Nat.le_refl _⟩)
  have R2 := Lib.hid (r1.out.ext (hE2.trans hE3))
  have h01 : w.heap.size < w1.heap.size := r1.out.lt
  obtain ⟨q, hq⟩ : ∃ q, w1.heap.size = q := ⟨_, rfl⟩
  rw [hq] at D2 X2 h01 ⊢
  clear hq HH H1 hst hx hE2 hE3 hE1 hE0 HR0 r1
  obtain ⟨lk, hk, hsm, hln⟩ := D2.out
  have z0 := cell_of_heap hk 0
  have z1 := cell_of_heap hk 1
  have fz := fun i => frozen_of_heap hk i
  simp at z0 z1
  obtain ⟨c0, c1, c2⟩ := X2.out.cells
  have fx := fun i => frozen_of_heap X2.out i
  have hDD := D2.out.set hs2 (show l2.length ≤ t.length by omega)
  have D3 := Lib.hid (hDD.1.but (butSet _ q 0 (.int .i64 x)) (by omega))
  have X3 := Lib.hid (ConfAt.setN (X2.out.but hDD.2 (by omega)) x)
  have R3 := Lib.hid ((R2.out.but hDD.2 (by omega)).but (butSet _ q 0 (.int .i64 x)) (by omega))
  have e3 : Ext w (((w2.setCell ⟨q + 1, 0, none⟩ (.string ⟨l2.toArray⟩)).setCell ⟨q + 1, 1, none⟩ (.int .i64 A1.err)).setCell ⟨q, 0, none⟩ (.int .i64 x)) := Below.setCell (Below.trans (B := w.heap.size) e2 (hDD.2.below (by omega) e2.size)) (p := ⟨q, 0, none⟩) (by show w.heap.size ≤ q; omega) _
  clear hk hDD
  go_wp2_with fail
  generalize hw : (((w2.setCell ⟨q + 1, 0, none⟩ (.string ⟨l2.toArray⟩)).setCell ⟨q + 1, 1, none⟩ (.int .i64 A1.err)).setCell ⟨q, 0, none⟩ (.int .i64 x)) = w3 at *
  clear hw z0 z1 fz c0 c1 c2 fx D2 X2 R2
  have hcall := refReadRow6_any l2 A1 t.length w3 hs2 (by omega) (by omega)
  rw [HB.out] at hcall
  unfold RowRef6 refVal at hcall
  refine hcall.mono ?_
  clear hcall
  rintro e w4 ⟨l4, v4, rfl, hs4, hl4, ho4, hE4⟩
  obtain ⟨sa, sn, sc, rfl⟩ := ho4.slice
  have e4 := e3.trans hE4
  have D4 := Lib.hid (D3.out.ext hE4)
  have X4 := Lib.hid (X3.out.ext hE4)
  have R4 := Lib.hid (R3.out.ext hE4)
  obtain ⟨lk, hk, hsm, hln⟩ := D4.out
  have z0 := cell_of_heap hk 0
  have z1 := cell_of_heap hk 1
  have fz := fun i => frozen_of_heap hk i
  simp at z0 z1
  obtain ⟨c0, c1, c2⟩ := X4.out.cells
  have fx := fun i => frozen_of_heap X4.out i
  have hDD := D4.out.set hs4 (show l4.length ≤ t.length by omega)
  have X5' := X4.out.but hDD.2 (by omega)
  have D5 := Lib.hid (hDD.1.but (butSet _ q 1 (.slice sa sn sc)) (by omega))
  have X5 := Lib.hid (ConfAt.setS X5' (.slice sa sn sc))
  have R5 := Lib.hid ((R4.out.but hDD.2 (by omega)).but (butSet _ q 1 (.slice sa sn sc)) (by omega))
  have O5 := Lib.hid ((((ho4.lower e3.size).but hk (by decide) hDD.2)).but X5' (by decide) (butSet _ q 1 (.slice sa sn sc)))
  have e5 : Ext w (((w4.setCell ⟨q + 1, 0, none⟩ (.string ⟨l4.toArray⟩)).setCell ⟨q + 1, 1, none⟩ (.int .i64 B1.err)).setCell ⟨q, 1, none⟩ (.slice sa sn sc)) := Below.setCell (Below.trans (B := w.heap.size) e4 (hDD.2.below (by omega) e4.size)) (p := ⟨q, 1, none⟩) (by show w.heap.size ≤ q; omega) _
  clear hk hDD X5' ho4
  go_wp2_with fail
  generalize hw : (((w4.setCell ⟨q + 1, 0, none⟩ (.string ⟨l4.toArray⟩)).setCell ⟨q + 1, 1, none⟩ (.int .i64 B1.err)).setCell ⟨q, 1, none⟩ (.slice sa sn sc)) = w5 at *
  clear hw z0 z1 fz c0 c1 c2 fx D4 X4 R4 D3 X3 R3 hE4
  have hcall := readNumRef_any l4 8 B1 w5 hs4 (by omega)
  rw [HCC.out] at hcall
  unfold refVal at hcall
  refine hcall.mono ?_
  clear hcall
  rintro e w6 ⟨l6, rfl, hs6, hl6, hE6⟩
  have e6 := e5.trans hE6
  have D6 := Lib.hid (D5.out.ext hE6)
  have X6 := Lib.hid (X5.out.ext hE6)
  have R6 := Lib.hid (R5.out.ext hE6)
  have O6 := Lib.hid (O5.out.ext hE6)
  obtain ⟨lk, hk, hsm, hln⟩ := D6.out
  have z0 := cell_of_heap hk 0
  have z1 := cell_of_heap hk 1
  have fz := fun i => frozen_of_heap hk i
  simp at z0 z1
  have hDD := D6.out.set hs6 (show l6.length ≤ t.length by omega)
  have D7 := Lib.hid hDD.1
  have X7 := Lib.hid (X6.out.but hDD.2 (by omega))
  have R7 := Lib.hid (R6.out.but hDD.2 (by omega))
  have O7 := Lib.hid (O6.out.but hk (by decide) hDD.2)
  have e7 : Ext w ((w6.setCell ⟨q + 1, 0, none⟩ (.string ⟨l6.toArray⟩)).setCell ⟨q + 1, 1, none⟩ (.int .i64 C1.err)) := Below.trans (B := w.heap.size) e6 (hDD.2.below (by omega) e6.size)
  clear hk hDD
  go_wp2_with fail
  generalize hw : ((w6.setCell ⟨q + 1, 0, none⟩ (.string ⟨l6.toArray⟩)).setCell ⟨q + 1, 1, none⟩ (.int .i64 C1.err)) = w7 at *
  clear hw z0 z1 fz D6 X6 R6 D5 X5 R5 O5 O6 hE6
  go_loopw [9, 10, 11] (fun i _ _ wr => ∃ k : Nat, k ≤ m ∧ i = .int .i64 k ∧ ∃ dv, Hid (ConfAt 25 wr q x (.slice sa sn sc) dv) ∧ Hid (OwnRR wr q dv (Term.gRows 16 16 C1 k).2) ∧ Hid (OwnI wr w.heap.size (.slice sa sn sc) nB) ∧ Hid (Ref6 wr (q + 1) t.length (Term.gRows 16 16 C1 k).1) ∧ Hid (ConfAt 25 wr w.heap.size 0 (.slice none 0 0) (.slice none 0 0)) ∧ Ext w wr) (fun i _ _ _ => m - (intOf i).toNat)
  case atStart => exact ⟨0, by omega, rfl, _, X7, OwnRR.nil _ _, O7, D7, R7, e7⟩
  case round =>
    obtain ⟨k, hk, rfl, dv, X, O, OS, D, R, hE⟩ := hrel
    by_cases hlt : k < m
    · obtain ⟨N, hN⟩ : ∃ N, Term.gRow 16 16 (Term.gRows 16 16 C1 k).1 = N := ⟨_, rfl⟩
      have HNX := Lib.hid (show Term.gRows 16 16 C1 (k + 1) = (N.1, (Term.gRows 16 16 C1 k).2 ++ [N.2]) by
        show ((Term.gRow 16 16 (Term.gRows 16 16 C1 k).1).1, (Term.gRows 16 16 C1 k).2 ++ [(Term.gRow 16 16 (Term.gRows 16 16 C1 k).1).2]) = _
        rw [hN])
      have HN := Lib.hid hN
      have HK := Lib.hid (show (Term.gRows 16 16 C1 k).2.length = k from Term.gRows_len _ _ _ _)
      obtain ⟨lk, hkk, hsm, hln⟩ := D.out
      have hcall := refReadRow6_any lk _ t.length wr hsm (by omega) (by omega)
      rw [HN.out] at hcall
      unfold RowRef6 refVal at hcall
      have HCALL := Lib.hid hcall
      have z0 := cell_of_heap hkk 0
      have z1 := cell_of_heap hkk 1
      simp at z0 z1
      have hqlt := D.out.lt
      clear hN hcall hkk
      go_wp2_with fail
      refine HCALL.out.mono ?_
      rintro e w8 ⟨l8, v8, rfl, hs8, hl8, ho8, hE8⟩
      obtain ⟨ua, un, uc, rfl⟩ := ho8.slice
      clear z0 z1
      have D8 := Lib.hid (D.out.ext hE8)
      have X8 := Lib.hid (X.out.ext hE8)
      obtain ⟨lj, hkj, hsj, hlj⟩ := D8.out
      have z0 := cell_of_heap hkj 0
      have z1 := cell_of_heap hkj 1
      have fz := fun i => frozen_of_heap hkj i
      simp at z0 z1
      have hq8 : q + 1 < w8.heap.size := D8.out.lt
      obtain ⟨c0, c1, c2⟩ := X8.out.cells
      have fx := fun i => frozen_of_heap X8.out i
      have hDD := D8.out.set hs8 (show l8.length ≤ t.length by omega)
      have E9 := Lib.hid (show Ext ((w8.setCell ⟨q + 1, 0, none⟩ (.string ⟨l8.toArray⟩)).setCell ⟨q + 1, 1, none⟩ (.int .i64 N.1.err)) ((((w8.setCell ⟨q + 1, 0, none⟩ (.string ⟨l8.toArray⟩)).setCell ⟨q + 1, 1, none⟩ (.int .i64 N.1.err)).alloc (.cells #[.string ⟨l8.toArray⟩, .int .i64 N.1.err] 73)).alloc (.cells #[.slice ua un uc] 22)) from (Ext.alloc _ _).trans (Ext.alloc _ _))
      have D9 := Lib.hid (hDD.1.ext E9.out)
      have X9 := Lib.hid ((X8.out.but hDD.2 (by omega)).ext E9.out)
      have R9 := Lib.hid (((R.out.ext hE8).but hDD.2 (by omega)).ext E9.out)
      have S9 := Lib.hid (((OS.out.ext hE8).but hkj (by decide) hDD.2).ext E9.out)
      have O9 := Lib.hid (((O.out.ext hE8).but hkj (by decide) (by decide) hDD.2).ext E9.out)
      have U9 := Lib.hid (((ho8.lower (show q ≤ wr.heap.size by omega)).but hkj (by decide) hDD.2).ext E9.out)
      have HE9 := Lib.hid (show Ext w ((((w8.setCell ⟨q + 1, 0, none⟩ (.string ⟨l8.toArray⟩)).setCell ⟨q + 1, 1, none⟩ (.int .i64 N.1.err)).alloc (.cells #[.string ⟨l8.toArray⟩, .int .i64 N.1.err] 73)).alloc (.cells #[.slice ua un uc] 22)) from Ext.trans (show Ext w ((w8.setCell ⟨q + 1, 0, none⟩ (.string ⟨l8.toArray⟩)).setCell ⟨q + 1, 1, none⟩ (.int .i64 N.1.err)) from Below.trans (B := w.heap.size) (hE.trans hE8) (hDD.2.below (by omega) (hE.trans hE8).size)) E9.out)
      have hz9 : q ≤ ((((w8.setCell ⟨q + 1, 0, none⟩ (.string ⟨l8.toArray⟩)).setCell ⟨q + 1, 1, none⟩ (.int .i64 N.1.err)).alloc (.cells #[.string ⟨l8.toArray⟩, .int .i64 N.1.err] 73)).alloc (.cells #[.slice ua un uc] 22)).heap.size := Nat.le_of_lt X9.out.lt
      have sl9 := slOne (((w8.setCell ⟨q + 1, 0, none⟩ (.string ⟨l8.toArray⟩)).setCell ⟨q + 1, 1, none⟩ (.int .i64 N.1.err)).alloc (.cells #[.string ⟨l8.toArray⟩, .int .i64 N.1.err] 73)) (.slice ua un uc) 22
      rw [show (((w8.setCell ⟨q + 1, 0, none⟩ (.string ⟨l8.toArray⟩)).setCell ⟨q + 1, 1, none⟩ (.int .i64 N.1.err)).alloc (.cells #[.string ⟨l8.toArray⟩, .int .i64 N.1.err] 73)).heap.size = w8.heap.size + 1 from by simp] at sl9
      have SL9 := Lib.hid sl9
      obtain ⟨xs, g1, g2, g3⟩ := O9.out
      rw [HK.out] at g1
      have G1 := Lib.hid g1
      have G2 := Lib.hid g2
      have G3 := Lib.hid g3
      have HZ9 := Lib.hid hz9
      have hk1 := Lib.hid (show k + [(Value.slice ua un uc)].length ≤ maxLen by simp [maxLen]; omega)
      have hk2 := Lib.hid (show (k + [(Value.slice ua un uc)].length) * 24 ≤ 140737488355328 by simp; omega)
      have c9 := X9.out.cells.2.2
      have c9w : (((w8.setCell ⟨q + 1, 0, none⟩ (.string ⟨l8.toArray⟩)).setCell ⟨q + 1, 1, none⟩ (.int .i64 N.1.err)).alloc (.cells #[.string ⟨l8.toArray⟩, .int .i64 N.1.err] 73)).cell? ⟨q, 2, none⟩ = some dv := ((X8.out.but hDD.2 (by omega)).ext (Ext.alloc _ _)).cells.2.2
      clear hDD hkj ho8 sl9 hz9 g1 g2 g3
      go_wp2_with (at_builtin; refine wpList_app rfl (.tmp 49) (.tmp 51) tRow rfl rfl rfl G1.out SL9.out (oneSlice ⟨_, _, _, rfl⟩) hk1.out hk2.out HZ9.out ?_; intro v10 w10 hown10 hg10; have hg10 : ((((w8.setCell ⟨q + 1, 0, none⟩ (.string ⟨l8.toArray⟩)).setCell ⟨q + 1, 1, none⟩ (.int .i64 N.1.err)).alloc (.cells #[.string ⟨l8.toArray⟩, .int .i64 N.1.err] 73)).alloc (.cells #[.slice ua un uc] 22)).grownBy w10 dv.ownBlock := hg10; obtain ⟨a10, n10, c10, rfl⟩ := ownSlice hown10; have x10 := Lib.hid (X9.out.grown hg10 (rowBeside G1.out X9.out (by decide))); have hc10 := x10.out.cells.2.2; have hf10 := frozen_of_heap x10.out 2; clear c9 c9w c0 c1 c2 z0 z1 fz fx)
      obtain ⟨rb0, rb1, hrb⟩ := D9.out.heapOf
      have d10 := D9.out.grown hg10 (rowBeside G1.out hrb (by decide))
      have hfar : ∀ j, dv.ownBlock = some j → q ≤ j := fun j hj => (G1.out.lt j hj).1
      have r10 := R9.out.grown hg10 (fun e => by have := hfar _ e.symm; omega)
      have s10 := S9.out.grown G1.out hg10
      have o10 : OwnRR w10 q (.slice a10 n10 c10) ((Term.gRows 16 16 C1 k).2 ++ [N.2]) := OwnRR.snoc (w := ((((w8.setCell ⟨q + 1, 0, none⟩ (.string ⟨l8.toArray⟩)).setCell ⟨q + 1, 1, none⟩ (.int .i64 N.1.err)).alloc (.cells #[.string ⟨l8.toArray⟩, .int .i64 N.1.err] 73)).alloc (.cells #[.slice ua un uc] 22))) (v := dv) (xs := xs) (by rw [HK.out]; exact G1.out) G2.out G3.out U9.out hg10 (by rw [HK.out]; exact hown10)
      have hE10 : Ext w w10 := Below.grown HE9.out hg10 HE9.out.size (fun j hj => by have := hfar j hj; omega)
      have hbs := butSet w10 q 2 (.slice a10 n10 c10)
      have X11 := Lib.hid (x10.out.setD (.slice a10 n10 c10))
      have D11 := Lib.hid (show Ref6 (w10.setCell ⟨q, 2, none⟩ (.slice a10 n10 c10)) (q + 1) t.length (Term.gRows 16 16 C1 (k + 1)).1 by rw [HNX.out]; exact d10.but hbs (by omega))
      have R11 := Lib.hid (r10.but hbs (by omega))
      have S11 := Lib.hid (s10.but x10.out (by decide) hbs)
      have O11 := Lib.hid (o10.but x10.out (by decide) (by decide) hbs)
      rw [← show (Term.gRows 16 16 C1 (k + 1)).2 = (Term.gRows 16 16 C1 k).2 ++ [N.2] by rw [HNX.out]] at O11
      have hE11 : Ext w (w10.setCell ⟨q, 2, none⟩ (.slice a10 n10 c10)) := Below.setCell hE10 (p := ⟨q, 2, none⟩) (by show w.heap.size ≤ q; omega) _
      clear hown10 hg10 d10 r10 s10 o10 hbs hrb
      go_wp2_with fail
      go_roundw
      case rel => exact ⟨k + 1, by omega, by go_num, _, X11, O11, S11, D11, R11, hE11⟩
      case measure => simp [intOf]; omega
    · obtain rfl : k = m := by omega
      obtain ⟨S2, hS2⟩ : ∃ S2, (Term.gRows 16 16 C1 k).1 = S2 := ⟨_, rfl⟩
      obtain ⟨L2, hL2⟩ : ∃ L2, (Term.gRows 16 16 C1 k).2 = L2 := ⟨_, rfl⟩
      rw [hS2, hL2] at HGR
      rw [hL2] at O
      rw [hS2] at D
      have HOK := Lib.hid (Term.gok_eq HGR.out.1 HGR.out.2)
      have HRD := Lib.hid HGR.out.2
      have HXB := Lib.hid (show ∀ w', Ext wr w' → IsConf w' (confV x (.slice sa sn sc) dv) ⟨x, nB, L2⟩ from fun w' h => ⟨_, _, rfl, (OS.out.ext h).ints, (O.out.ext h).rows⟩)
      obtain ⟨da, dn, dc, rfl⟩ := O.out.slice
      clear hS2 hL2 HGR
      obtain ⟨c0, c1, c2⟩ := R.out.cells
      have fr : ∀ i, wr.frozen? ⟨w.heap.size, i, none⟩ = false := fun i => frozen_of_heap R.out i
      cases is with
      | false =>
        have hno := hno2.out (by first | rfl | trivial)
        subst hno
        go_wp2_with fail
        have hs := R.out.setAll 0 (.slice none 0 0) (.slice none 0 0)
        exact bodyPost_ret (v := .tuple #[confV 0 (.slice none 0 0) (.slice none 0 0), .int .i64 60]) (by simp [results, Tryz.results17, go_sem, c0, c1, c2, fr, confV]) rfl
          ⟨_, rfl, ⟨_, _, rfl, ints0 _, irows0 _⟩, Below.trans (B := w.heap.size) hE (hs.2.below (Nat.le_refl _) hE.size)⟩
      | true =>
        obtain ⟨lk, hkk, hsm, hln⟩ := D.out
        have z0 := cell_of_heap hkk 0
        have z1 := cell_of_heap hkk 1
        simp at z0 z1
        have hcall := endRef_any lk S2 wr hsm (by omega)
        obtain ⟨d, hdd⟩ : ∃ d, S2.done = d := ⟨_, rfl⟩
        rw [hdd] at HOK hcall
        unfold refVal at hcall
        have HCALL := Lib.hid hcall
        clear hcall hdd c0 c1 c2 fr hkk
        go_wp2_with fail
        refine HCALL.out.mono ?_
        rintro e w9 ⟨rfl, hE9⟩
        have R9 := Lib.hid (R.out.ext hE9)
        have X9 := Lib.hid (X.out.ext hE9)
        have e9 := hE.trans hE9
        clear z0 z1
        by_cases hd : d = 0
        · subst hd
          have HOK2 := Lib.hid (show Term.gok 16 16 16 t = Term.right ⟨x, nB, L2⟩ by rw [HOK.out]; rfl)
          obtain ⟨d0, d1, d2⟩ := X9.out.cells
          clear HOK
          go_wp2_with fail
          refine (refRight6_any _ ⟨x, nB, L2⟩ _ (HXB.out _ hE9)).mono ?_
          rintro e w11 ⟨rfl, hE11⟩
          have r11 := Lib.hid (R9.out.ext hE11)
          have x11 := Lib.hid (X9.out.ext hE11)
          have e11 := e9.trans hE11
          clear d0 d1 d2
          obtain ⟨c0, c1, c2⟩ := r11.out.cells
          obtain ⟨d0, d1, d2⟩ := x11.out.cells
          have fr : ∀ i, w11.frozen? ⟨w.heap.size, i, none⟩ = false := fun i => frozen_of_heap r11.out i
          cases hrr : Term.right ⟨x, nB, L2⟩ with
          | false =>
            have hno := hnot2.out (by first | rfl | trivial) (HOK2.out.trans hrr)
            subst hno
            clear hrr HOK2
            go_wp2_with fail
            have hs := r11.out.setAll 0 (.slice none 0 0) (.slice none 0 0)
            exact bodyPost_ret (v := .tuple #[confV 0 (.slice none 0 0) (.slice none 0 0), .int .i64 60]) (by simp [results, Tryz.results17, go_sem, c0, c1, c2, fr, confV]) rfl
              ⟨_, rfl, ⟨_, _, rfl, ints0 _, irows0 _⟩, Below.trans (B := w.heap.size) e11 (hs.2.below (Nat.le_refl _) e11.size)⟩
          | true =>
            have hyes := hyes2.out (by first | rfl | trivial) (HOK2.out.trans hrr)
            rw [HRD.out] at hyes
            subst hyes
            clear hrr HOK2
            go_wp2_with fail
            have hs := r11.out.setAll x (.slice sa sn sc) (.slice da dn dc)
            refine bodyPost_ret (v := .tuple #[confV x (.slice sa sn sc) (.slice da dn dc), .int .i64 0]) (by simp [results, Tryz.results17, go_sem, c0, c1, c2, d0, d1, d2, fr, confV]) rfl
              ⟨_, rfl, ⟨_, _, rfl, ?_, ?_⟩, Below.trans (B := w.heap.size) e11 (hs.2.below (Nat.le_refl _) e11.size)⟩
            · exact ((OS.out.ext (hE9.trans hE11)).but r11.out (by decide) hs.2).ints
            · exact ((O.out.ext (hE9.trans hE11)).but r11.out (by decide) (by decide) hs.2).rows
        · have hno := hnot2.out (by first | rfl | trivial) (by rw [HOK.out, show (d == 0) = false from beq_eq_false_iff_ne.2 hd]; rfl)
          subst hno
          clear HOK
          obtain ⟨c0, c1, c2⟩ := R9.out.cells
          have fr : ∀ i, w9.frozen? ⟨w.heap.size, i, none⟩ = false := fun i => frozen_of_heap R9.out i
          have hdn : (d != 0) = true := by rw [bne_iff_ne]; exact hd
          clear hd
          go_wp2_with fail
          have hs := R9.out.setAll 0 (.slice none 0 0) (.slice none 0 0)
          exact bodyPost_ret (v := .tuple #[confV 0 (.slice none 0 0) (.slice none 0 0), .int .i64 60]) (by simp [results, Tryz.results17, go_sem, c0, c1, c2, fr, confV]) rfl
            ⟨_, rfl, ⟨_, _, rfl, ints0 _, irows0 _⟩, Below.trans (B := w.heap.size) e9 (hs.2.below (Nat.le_refl _) e9.size)⟩
end Go.Proofs.YtpfodkgncachiaaGreat
