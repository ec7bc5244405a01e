/-
  Layer 4: bytes as records: the document's own answer.
-/
import Derived.Test.YtjflbjlpibekhaaRecC
namespace Go.Proofs.Ytjflbjlpibekhaa
set_option linter.unusedSimpArgs false
set_option linter.unusedVariables false
set_option maxRecDepth 100000
open Go.RowKit

theorem build_ref4 (w : World) (s : ByteArray) : (Instr.build 65 #[(0, .string s)]).run Try.prog w = .ok (.agg #[.string s, .int .i64 0]) w := by kernel_rfl
theorem set_two4 {w : World} {q : Nat} {x0 x1 : Value} {T : TypeId} (h : w.heap[q]? = some (.cells #[x0, x1] T (0, 0))) (v0 v1 : Value) :
    ((w.setCell ⟨q, 0, none⟩ v0).setCell ⟨q, 1, none⟩ v1).heap[q]? = some (.cells #[v0, v1] T (0, 0)) ∧ But q w ((w.setCell ⟨q, 0, none⟩ v0).setCell ⟨q, 1, none⟩ v1) := by
  refine ⟨?_, ((But.refl _ _).setCell 0 none v0).setCell 1 none v1⟩
  have := heap_setCell (heap_setCell h 0 v0) 1 v1
  simpa using this
/-- Block q is the document's reader in this state. -/
def RefAt (w : World) (q n : Nat) (s : Pack.St) : Prop := ∃ lk : List UInt8, w.heap[q]? = some (.cells #[.string ⟨lk.toArray⟩, .int .i64 s.err] 65 (0, 0)) ∧ Sim lk s ∧ lk.length ≤ n
theorem RefAt.lt {w : World} {q n : Nat} {s : Pack.St} (h : RefAt w q n s) : q < w.heap.size := by
  obtain ⟨lk, h, _⟩ := h
  exact (Array.getElem?_eq_some_iff.1 h).1
theorem RefAt.ext {w w' : World} {q n : Nat} {s : Pack.St} (h : RefAt w q n s) (hE : Ext w w') : RefAt w' q n s := by
  have hlt := h.lt
  obtain ⟨lk, h1, h2⟩ := h
  exact ⟨lk, (hE.block q hlt).trans h1, h2⟩
theorem RefAt.but {w w' : World} {q p n : Nat} {s : Pack.St} (h : RefAt w q n s) (hB : But p w w') (hne : q ≠ p) : RefAt w' q n s := by
  have hlt := h.lt
  obtain ⟨lk, h1, h2⟩ := h
  exact ⟨lk, (hB.block q hlt hne).trans h1, h2⟩
theorem RefAt.grown {w w' : World} {q n : Nat} {s : Pack.St} {o : Option Nat} (h : RefAt w q n s) (hg : w.grownBy w' o) (hne : some q ≠ o) : RefAt w' q n s := by
  have hlt := h.lt
  obtain ⟨lk, h1, h2⟩ := h
  exact ⟨lk, (hg.block q hlt hne).trans h1, h2⟩
theorem RefAt.set {w : World} {q n : Nat} {s : Pack.St} (h : RefAt w q n s) {l : List UInt8} {s' : Pack.St} (hs : Sim l s') (hl : l.length ≤ n) :
    RefAt ((w.setCell ⟨q, 0, none⟩ (.string ⟨l.toArray⟩)).setCell ⟨q, 1, none⟩ (.int .i64 s'.err)) q n s' ∧ But q w ((w.setCell ⟨q, 0, none⟩ (.string ⟨l.toArray⟩)).setCell ⟨q, 1, none⟩ (.int .i64 s'.err)) := by
  obtain ⟨lk, h1, h2⟩ := h
  have := set_two4 h1 (.string ⟨l.toArray⟩) (.int .i64 s'.err)
  exact ⟨⟨l, this.1, hs, hl⟩, this.2⟩
theorem RefAt.beside {w : World} {q m n base : Nat} {s : Pack.St} {v : Value} {xs : List Value} (h : RefAt w q m s) (ho : w.ownsRow base 3 1 v n xs) : some q ≠ v.ownBlock := by
  obtain ⟨lk, h, _⟩ := h
  exact row_beside4 ho h (by decide)
theorem RecAt.client {w : World} {p : Nat} {t : Value} {c c' n : Int} {ts : List Int} {d : List UInt8} (h : RecAt w p t ⟨c, n, ts, d⟩) : RecAt (w.setCell ⟨p, 0, none⟩ (.int .i64 c')) p t ⟨c', n, ts, d⟩ := by
  have := heap_setCell h 0 (.int .i64 c')
  unfold RecAt
  simpa using this
theorem RecAt.number {w : World} {p : Nat} {t : Value} {c n n' : Int} {ts : List Int} {d : List UInt8} (h : RecAt w p t ⟨c, n, ts, d⟩) : RecAt (w.setCell ⟨p, 1, none⟩ (.int .i64 n')) p t ⟨c, n', ts, d⟩ := by
  have := heap_setCell h 1 (.int .i64 n')
  unfold RecAt
  simpa using this

set_option maxHeartbeats 8000000 in
theorem refDecode4_any (v : Value) (l : List UInt8) (w : World) (hv : Bytes w v l) (hl : l.length ≤ 100000) :
    Calls Try.prog 17 #[v] w (GivesDec4 w (Crc.cutOf l)) := by
  have hb0 := build_rec0
  have hbr := build_ref4
  have HV := Lib.hid hv
  obtain ⟨a, cap, rfl, hcap, hmax, hn, hc⟩ := hv.open
  unfold maxLen at hmax
  clear hv hc
  obtain ⟨C, hC⟩ : ∃ C, Crc.cutOf l = C := ⟨_, rfl⟩
  rw [hC]
  have HC := Lib.hid hC
  clear hC
  unfold GivesDec4
  have hE0 : Ext w (w.alloc (.cells #[.int .i64 0, .int .i64 0, .slice none 0 0, .string ⟨#[]⟩] 26)) := Ext.alloc _ _
  have HR0 := Lib.hid (RecAt.zero w)
  go_enter Try.func17, Try.ntmps17
  go_wp2_with fail
  have hcall := cut_ref _ l _ (HV.out.below hE0) (by omega)
  rw [HC.out] at hcall
  refine hcall.mono ?_
  clear hcall
  intro e w1 hq
  obtain ⟨hE1, hcut⟩ := hq
  have r1 := Lib.hid (HR0.out.ext hE1)
  have e1 := hE0.trans hE1
  cases C with
  | none =>
    subst hcut
    obtain ⟨c0, c1, c2, c3⟩ := r1.out.cells
    have fr : ∀ i, w1.frozen? ⟨w.heap.size, i, none⟩ = false := fun i => frozen_of_heap r1.out i
    go_wp2_with fail
    have hs := r1.out.set (.slice none 0 0) noRec
    exact bodyPost_ret (v := .tuple #[recV (.slice none 0 0) noRec, .int .i64 41]) (by simp [results, Try.results17, go_sem, c0, c1, c2, c3, noRec, recV]) rfl ⟨_, rfl, ⟨_, rfl, ints_none _⟩, Below.trans (B := w.heap.size) e1 (hs.2.below (Nat.le_refl _) e1.size)⟩
  | some t =>
    obtain ⟨v2, rfl, hb2⟩ := hcut
    have htl : t.length ≤ l.length := by
      have := HC.out
      unfold Crc.cutOf at this
      split at this
      · cases this
      · split at this
        · injection this with this
          rw [← this, List.length_take]
          omega
        · cases this
    have hst := run_str (P := Try.prog) 27 9 5 Try.underlying27 Try.underlying5 Try.underlying9 hb2
    obtain ⟨a2, n2, k2, rfl⟩ := hb2.isSlice
    obtain ⟨A, hA⟩ : ∃ A, Pack.St.num ⟨t, 0⟩ 1099511627776 = A := ⟨_, rfl⟩
    obtain ⟨B, hB⟩ : ∃ B, A.1.num 1099511627776 = B := ⟨_, rfl⟩
    obtain ⟨C, hC⟩ : ∃ C, B.1.num 8 = C := ⟨_, rfl⟩
    have sA : Rec.stA t = A := hA
    have sB : Rec.stB t = B := by unfold Rec.stB; rw [sA]; exact hB
    have sC : Rec.stC t = C := by unfold Rec.stC; rw [sB]; exact hC
    have hC8 : C.2 ≤ 8 := by
      have := num_most4 B.1 8 (by omega)
      rw [hC] at this
      omega
    have h1 := readNumRef_any t 1099511627776 ⟨t, 0⟩ ((w1.alloc (.cells #[.string ⟨t.toArray⟩, .int .i64 0] 65)).alloc (.cells #[.int .i64 0, .int .i64 0, .slice none 0 0, .string ⟨#[]⟩] 26)) ⟨fun _ => rfl, fun h => absurd rfl h⟩ (by omega)
    rw [hA] at h1
    unfold refVal at h1
    have H1 := Lib.hid h1
    have HB := Lib.hid hB
    have HCC := Lib.hid hC
    have HS := Lib.hid (And.intro sA (And.intro sB sC))
    have hE2 : Ext w1 ((w1.alloc (.cells #[.string ⟨t.toArray⟩, .int .i64 0] 65)).alloc (.cells #[.int .i64 0, .int .i64 0, .slice none 0 0, .string ⟨#[]⟩] 26)) := ext_two _ _ _
    have hh := heap_two w1 (.cells #[.string ⟨t.toArray⟩, .int .i64 0] 65) (.cells #[.int .i64 0, .int .i64 0, .slice none 0 0, .string ⟨#[]⟩] 26)
    have HH := Lib.hid hh
    clear hA hB hC sA sB sC h1 hb2 hh
    go_wp2_with fail
    refine H1.out.mono ?_
    rintro e w2 ⟨l2, rfl, hs2, hl2, hE3⟩
    have e2 := e1.trans (hE2.trans hE3)
    have d2 : RefAt w2 w1.heap.size t.length ⟨t, 0⟩ := ⟨t, heap_ext HH.out.1 hE3, ⟨fun _ => rfl, fun h => absurd rfl h⟩, Nat.le_refl _⟩
    have x2 : RecAt w2 (w1.heap.size + 1) (.slice none 0 0) ⟨0, 0, [], []⟩ := by
      have := heap_ext HH.out.2 hE3
      exact this
    have r2 : RecAt w2 w.heap.size (.slice none 0 0) noRec := r1.out.ext (hE2.trans hE3)
    have h01 : w.heap.size < w1.heap.size := r1.out.lt
    obtain ⟨qr, hqr⟩ : ∃ qr, w1.heap.size = qr := ⟨_, rfl⟩
    rw [hqr] at d2 x2 h01 ⊢
    clear hqr HH H1 hst
    -- the first number is kept
    have hlt2 := d2.lt
    obtain ⟨lk, hk, _, _⟩ := d2
    have d2 : RefAt w2 qr t.length ⟨t, 0⟩ := ⟨lk, hk, by assumption, by assumption⟩
    have z0 := cell_of_heap hk 0
    have z1 := cell_of_heap hk 1
    have fz := fun i => frozen_of_heap hk i
    simp at z0 z1
    obtain ⟨c0, c1, c2, c3⟩ := x2.cells
    have fx := fun i => frozen_of_heap x2 i
    have D2 := Lib.hid (d2.set hs2 hl2)
    have X2 := Lib.hid x2
    have R2 := Lib.hid r2
    clear hk x2 r2 d2
    go_wp2_with fail
    have E3 : Ext w (((w2.setCell ⟨qr, 0, none⟩ (.string ⟨l2.toArray⟩)).setCell ⟨qr, 1, none⟩ (.int .i64 A.1.err)).setCell ⟨qr + 1, 0, none⟩ (.int .i64 (A.2 : Int))) :=
      Below.setCell (Below.trans (B := w.heap.size) e2 (D2.out.2.below (by omega) e2.size)) (p := ⟨qr + 1, 0, none⟩) (by show w.heap.size ≤ qr + 1; omega) _
    have X3 := Lib.hid (RecAt.client (c' := (A.2 : Int)) (X2.out.but D2.out.2 (by omega)))
    have D3 := Lib.hid (D2.out.1.but (grownBy_but4 _ (qr + 1) 0 (.int .i64 (A.2 : Int))) (by omega))
    have R3 := Lib.hid ((R2.out.but D2.out.2 (by omega)).but (grownBy_but4 _ (qr + 1) 0 (.int .i64 (A.2 : Int))) (by omega))
    generalize hw3 : (((w2.setCell ⟨qr, 0, none⟩ (.string ⟨l2.toArray⟩)).setCell ⟨qr, 1, none⟩ (.int .i64 A.1.err)).setCell ⟨qr + 1, 0, none⟩ (.int .i64 (A.2 : Int))) = w3 at *
    clear hw3 D2 X2 R2 z0 z1 fz c0 c1 c2 c3 fx
    have h3 := readNumRef_any l2 1099511627776 A.1 w3 hs2 (by omega)
    rw [HB.out] at h3
    unfold refVal at h3
    refine h3.mono ?_
    clear h3
    rintro e w4 ⟨l4, rfl, hs4, hl4, hE4⟩
    have e4 := E3.trans hE4
    -- the second number is kept
    have d4 : RefAt w4 qr t.length A.1 := D3.out.ext hE4
    have x4 := X3.out.ext hE4
    have hl4' : l4.length ≤ t.length := by omega
    obtain ⟨lk4, hk4, _, _⟩ := d4
    have d4 : RefAt w4 qr t.length A.1 := ⟨lk4, hk4, by assumption, by assumption⟩
    have z0 := cell_of_heap hk4 0
    have z1 := cell_of_heap hk4 1
    have fz := fun i => frozen_of_heap hk4 i
    simp at z0 z1
    obtain ⟨c0, c1, c2, c3⟩ := x4.cells
    have fx := fun i => frozen_of_heap x4 i
    have D4 := Lib.hid (d4.set hs4 hl4')
    have X4 := Lib.hid x4
    have R4 := Lib.hid (R3.out.ext hE4)
    clear hk4 x4 d4 X3 D3 R3
    go_wp2_with fail
    have E5 : Ext w (((w4.setCell ⟨qr, 0, none⟩ (.string ⟨l4.toArray⟩)).setCell ⟨qr, 1, none⟩ (.int .i64 B.1.err)).setCell ⟨qr + 1, 1, none⟩ (.int .i64 (B.2 : Int))) :=
      Below.setCell (Below.trans (B := w.heap.size) e4 (D4.out.2.below (by omega) e4.size)) (p := ⟨qr + 1, 1, none⟩) (by show w.heap.size ≤ qr + 1; omega) _
    have X5 := Lib.hid (RecAt.number (n' := (B.2 : Int)) (X4.out.but D4.out.2 (by omega)))
    have D5 := Lib.hid (D4.out.1.but (grownBy_but4 _ (qr + 1) 1 (.int .i64 (B.2 : Int))) (by omega))
    have R5 := Lib.hid ((R4.out.but D4.out.2 (by omega)).but (grownBy_but4 _ (qr + 1) 1 (.int .i64 (B.2 : Int))) (by omega))
    generalize hw5 : (((w4.setCell ⟨qr, 0, none⟩ (.string ⟨l4.toArray⟩)).setCell ⟨qr, 1, none⟩ (.int .i64 B.1.err)).setCell ⟨qr + 1, 1, none⟩ (.int .i64 (B.2 : Int))) = w5 at *
    clear hw5 D4 X4 R4 z0 z1 fz c0 c1 c2 c3 fx
    have h5 := readNumRef_any l4 8 B.1 w5 hs4 (by omega)
    rw [HCC.out] at h5
    unfold refVal at h5
    refine h5.mono ?_
    clear h5
    rintro e w6 ⟨l6, rfl, hs6, hl6, hE6⟩
    have e6 := E5.trans hE6
    -- how many tags
    have d6 : RefAt w6 qr t.length B.1 := D5.out.ext hE6
    have x6 := X5.out.ext hE6
    have hl6' : l6.length ≤ t.length := by omega
    obtain ⟨lk6, hk6, _, _⟩ := d6
    have d6 : RefAt w6 qr t.length B.1 := ⟨lk6, hk6, by assumption, by assumption⟩
    have z0 := cell_of_heap hk6 0
    have z1 := cell_of_heap hk6 1
    have fz := fun i => frozen_of_heap hk6 i
    simp at z0 z1
    have D6 := Lib.hid (d6.set hs6 hl6')
    have X6 := Lib.hid x6
    have R6 := Lib.hid (R5.out.ext hE6)
    obtain ⟨m, hm⟩ : ∃ m, C.2 = m := ⟨_, rfl⟩
    rw [hm] at hC8 ⊢
    have HM := Lib.hid hm
    clear hk6 x6 d6 X5 D5 R5 hm
    go_wp2_with fail
    have ti := tI
    have E7 : Ext w ((w6.setCell ⟨qr, 0, none⟩ (.string ⟨l6.toArray⟩)).setCell ⟨qr, 1, none⟩ (.int .i64 C.1.err)) := Below.trans (B := w.heap.size) e6 (D6.out.2.below (by omega) e6.size)
    have X7 := Lib.hid (RecAt.but X6.out D6.out.2 (by omega))
    have R7 := Lib.hid (RecAt.but R6.out D6.out.2 (by omega))
    have D7 := Lib.hid D6.out.1
    generalize hw7 : ((w6.setCell ⟨qr, 0, none⟩ (.string ⟨l6.toArray⟩)).setCell ⟨qr, 1, none⟩ (.int .i64 C.1.err)) = w7 at *
    clear hw7 D6 X6 R6 z0 z1 fz
    go_loopw [9, 10, 11] (fun i _ _ wr => ∃ k : Nat, k ≤ m ∧ i = .int .i64 k ∧ ∃ tv, Hid (RecAt wr (qr + 1) tv ⟨(A.2 : Int), (B.2 : Int), (Rec.readsM 1073741824 C.1 k).2, []⟩) ∧ wr.ownsRow w.heap.size 3 1 tv k (i64s (Rec.readsM 1073741824 C.1 k).2) ∧ Hid (RefAt wr qr t.length (Rec.readsM 1073741824 C.1 k).1) ∧ Hid (RecAt wr w.heap.size (.slice none 0 0) noRec) ∧ Ext w wr) (fun i _ _ _ => m - (intOf i).toNat)
    case atStart => exact ⟨0, by omega, rfl, _, X7, World.ownsRow_nil _ _ _ _, D7, R7, E7⟩
    case round =>
      obtain ⟨k, hk, rfl, tv, x, ho, d, r, hE⟩ := hrel
      by_cases hlt : k < m
      · obtain ⟨lk8, hk8, hsim, hlk⟩ := d.out
        have dd : RefAt wr qr t.length (Rec.readsM 1073741824 C.1 k).1 := d.out
        have z0 := cell_of_heap hk8 0
        have z1 := cell_of_heap hk8 1
        simp at z0 z1
        obtain ⟨N, hN⟩ : ∃ N, (Rec.readsM 1073741824 C.1 k).1.num 1073741824 = N := ⟨_, rfl⟩
        have hnx : Rec.readsM 1073741824 C.1 (k + 1) = (N.1, (Rec.readsM 1073741824 C.1 k).2 ++ [(N.2 : Int)]) := by
          show ((((Rec.readsM 1073741824 C.1 k).1.num 1073741824).1, (Rec.readsM 1073741824 C.1 k).2 ++ [(((Rec.readsM 1073741824 C.1 k).1.num 1073741824).2 : Int)])) = _
          rw [hN]
        have h8 := readNumRef_any lk8 1073741824 (Rec.readsM 1073741824 C.1 k).1 wr hsim (by omega)
        rw [hN] at h8
        unfold refVal at h8
        obtain ⟨y, hy⟩ : ∃ y : Int, (N.2 : Int) = y := ⟨_, rfl⟩
        rw [hy] at hnx h8
        have H8 := Lib.hid h8
        have HNX := Lib.hid hnx
        have HO := Lib.hid ho
        have hone := i64s_one [y]
        have hlen : (i64s (Rec.readsM 1073741824 C.1 k).2).length = k := by rw [i64s_length, Rec.readsM_len]
        clear hk8 hN hnx hy h8 ho
        go_wp2_with fail
        refine H8.out.mono ?_
        rintro e w8 ⟨l8, rfl, hs8, hl8, hE8⟩
        have d8 : RefAt w8 qr t.length (Rec.readsM 1073741824 C.1 k).1 := dd.ext hE8
        obtain ⟨lk9, hk9, hsim9, hlk9⟩ := d8
        have d8 : RefAt w8 qr t.length (Rec.readsM 1073741824 C.1 k).1 := ⟨lk9, hk9, hsim9, hlk9⟩
        have hl8' : l8.length ≤ t.length := by omega
        have y0 := cell_of_heap hk9 0
        have y1 := cell_of_heap hk9 1
        have fz := fun i => frozen_of_heap hk9 i
        simp at y0 y1
        have D8 := Lib.hid (d8.set hs8 hl8')
        have x8 := x.out.ext hE8
        have X9 := Lib.hid (RecAt.but x8 D8.out.2 (by omega))
        have R9 := Lib.hid (RecAt.but (r.out.ext hE8) D8.out.2 (by omega))
        have O8 := Lib.hid (row_ext4 HO.out hE8)
        have hbr := row_beside4 O8.out hk9 (by decide)
        have O9 := Lib.hid (row_but4 O8.out hbr D8.out.2)
        have E8 : Ext w w8 := hE.trans hE8
        have hcq := (RecAt.ext X9.out (Ext.alloc _ (.cells #[.string ⟨l8.toArray⟩, .int .i64 N.1.err] 65))).cells.2.2.1
        have hfq := frozen_of_heap (RecAt.ext X9.out (Ext.alloc _ (.cells #[.string ⟨l8.toArray⟩, .int .i64 N.1.err] 65))) 2
        have HOA := Lib.hid ((O9.out.alloc (.cells #[.string ⟨l8.toArray⟩, .int .i64 N.1.err] 65)).alloc (.cells #[.int .i64 y] 3))
        have hsl : Sl ((((w8.setCell ⟨qr, 0, none⟩ (.string ⟨l8.toArray⟩)).setCell ⟨qr, 1, none⟩ (.int .i64 N.1.err)).alloc (.cells #[.string ⟨l8.toArray⟩, .int .i64 N.1.err] 65)).alloc (.cells #[.int .i64 y] 3)) (.slice (some ⟨w8.heap.size + 1, 0, none⟩) 1 1) (i64s [y]) := by
          have := Ints.one (((w8.setCell ⟨qr, 0, none⟩ (.string ⟨l8.toArray⟩)).setCell ⟨qr, 1, none⟩ (.int .i64 N.1.err)).alloc (.cells #[.string ⟨l8.toArray⟩, .int .i64 N.1.err] 65)) y
          unfold Ints at this
          simpa [World.setCell] using this
        have HSL := Lib.hid hsl
        clear hsl
        have hlt8 := d8.lt
        have hlt9 := x8.lt
        clear hk9 d8 dd x8 hbr
        go_wp2_with (at_builtin; refine wpList_app rfl (.tmp 54) (.tmp 56) ti rfl (base := w.heap.size) (n := k) (xs := i64s (Rec.readsM 1073741824 C.1 k).2) (ys := i64s [y]) rfl rfl HOA.out HSL.out hone ?c3 ?c4 ?c5 ?_; rotate_right; intro v9 w9 hown9 hg9; obtain ⟨a9, n9, c9, rfl⟩ := own_slice4 hown9; have hne9 : some (qr + 1) ≠ tv.ownBlock := row_beside4 O9.out X9.out (by decide); have x9 := Lib.hid (RecAt.grown4 (RecAt.ext (RecAt.ext X9.out (Ext.alloc _ (.cells #[.string ⟨l8.toArray⟩, .int .i64 N.1.err] 65))) (Ext.alloc _ (.cells #[.int .i64 y] 3))) hg9 hne9); have hc9 := (RecAt.cells x9.out).2.2.1; have hf9 := frozen_of_heap x9.out 2)
        case c3 => (try simp only [i64s_length, List.length_cons, List.length_nil]); (try unfold maxLen); omega
        case c4 => (try simp only [i64s_length, List.length_cons, List.length_nil]); omega
        case c5 => have := E8.size; simp only [World.size_alloc, World.size_setCell]; omega
        have hg9' := Lib.hid (show ((((w8.setCell ⟨qr, 0, none⟩ (.string ⟨l8.toArray⟩)).setCell ⟨qr, 1, none⟩ (.int .i64 N.1.err)).alloc (.cells #[.string ⟨l8.toArray⟩, .int .i64 N.1.err] 65)).alloc (.cells #[.int .i64 y] 3)).grownBy w9 tv.ownBlock from hg9)
        go_roundw
        case rel =>
          have hg9 := hg9'.out
          have hx10 := x9.out.tags (t' := .slice a9 n9 c9) (ts' := (Rec.readsM 1073741824 C.1 (k + 1)).2)
          have hb9 := row_beside4 hown9 x9.out (by decide)
          have ho10 := (hown9.kept (grownBy_set4 w9 (qr + 1) 2 (.slice a9 n9 c9)) (.inr (Ne.symm hb9)))
          have hneR := D8.out.1.beside O9.out
          have hd10 := ((((D8.out.1).ext (Ext.alloc _ _)).ext (Ext.alloc _ _)).grown hg9 hneR).but (grownBy_but4 w9 (qr + 1) 2 (.slice a9 n9 c9)) (by omega)
          have hne0 : some w.heap.size ≠ tv.ownBlock := row_beside4 O9.out R9.out (by decide)
          have hr10 := (RecAt.grown4 (RecAt.ext (RecAt.ext R9.out (Ext.alloc _ _)) (Ext.alloc _ _)) hg9 hne0).but (grownBy_but4 w9 (qr + 1) 2 (.slice a9 n9 c9)) (by omega)
          have E9 : Ext w ((((w8.setCell ⟨qr, 0, none⟩ (.string ⟨l8.toArray⟩)).setCell ⟨qr, 1, none⟩ (.int .i64 N.1.err)).alloc (.cells #[.string ⟨l8.toArray⟩, .int .i64 N.1.err] 65)).alloc (.cells #[.int .i64 y] 3)) := Ext.trans (Ext.trans (show Ext w _ from Below.trans (B := w.heap.size) E8 (D8.out.2.below (by omega) E8.size)) (Ext.alloc _ _)) (Ext.alloc _ _)
          have E10 : Ext w (w9.setCell ⟨qr + 1, 2, none⟩ (.slice a9 n9 c9)) := Below.setCell (Below.grown E9 hg9 E9.size (fun j hj => (O9.out.lt j hj).1)) (p := ⟨qr + 1, 2, none⟩) (by show w.heap.size ≤ qr + 1; omega) _
          refine ⟨k + 1, by omega, by go_num, _, hx10, ?_, ?_, hr10, E10⟩
          · rw [HNX.out, i64s_append]; exact ho10
          · rw [HNX.out]; exact hd10
        case measure => simp [intOf]; omega
      · obtain rfl : k = m := by omega
        have hD : Rec.stD t = Rec.readsM 1073741824 C.1 k := by unfold Rec.stD; rw [HS.out.2.2, HM.out]
        obtain ⟨D, hDD⟩ : ∃ D, Rec.readsM 1073741824 C.1 k = D := ⟨_, rfl⟩
        obtain ⟨F, hF⟩ : ∃ F, D.1.text 1024 = F := ⟨_, rfl⟩
        rw [hDD] at hD x ho d
        have hEq : Rec.stE t = F := by unfold Rec.stE; rw [hD, hF]
        have hread : Rec.read t = ⟨(A.2 : Int), (B.2 : Int), D.2, F.2⟩ := by unfold Rec.read; rw [HS.out.1, HS.out.2.1, hD, hEq]
        have hok : Rec.readOk t = ((F.1.done == 0) && Rec.right ⟨(A.2 : Int), (B.2 : Int), D.2, F.2⟩) := by unfold Rec.readOk; rw [hEq, hread]
        obtain ⟨lk8, hk8, hsim, hlk⟩ := d.out
        have dd : RefAt wr qr t.length D.1 := d.out
        have z0 := cell_of_heap hk8 0
        have z1 := cell_of_heap hk8 1
        simp at z0 z1
        have h8 := readTextRef_any lk8 1024 D.1 wr hsim (by omega)
        rw [hF] at h8
        unfold refVal at h8
        obtain ⟨a9, n9, c9, rfl⟩ := own_slice4 ho
        have HRD := Lib.hid hread
        have HOK := Lib.hid hok
        have H8 := Lib.hid h8
        have HO := Lib.hid ho
        clear hD hDD hF hEq hread hok h8 hk8 ho
        go_wp2_with fail
        refine H8.out.mono ?_
        rintro e w8 ⟨l8, rfl, hs8, hl8, hE8⟩
        have d8 : RefAt w8 qr t.length D.1 := dd.ext hE8
        obtain ⟨lk9, hk9, hsim9, hlk9⟩ := d8
        have d8 : RefAt w8 qr t.length D.1 := ⟨lk9, hk9, hsim9, hlk9⟩
        have hl8' : l8.length ≤ t.length := by omega
        have y0 := cell_of_heap hk9 0
        have y1 := cell_of_heap hk9 1
        have fz := fun i => frozen_of_heap hk9 i
        simp at y0 y1
        have D8 := Lib.hid (d8.set hs8 hl8')
        have X8 := Lib.hid (x.out.ext hE8)
        obtain ⟨c0, c1, c2, c3⟩ := X8.out.cells
        have fx := fun i => frozen_of_heap X8.out i
        have R8 := Lib.hid (r.out.ext hE8)
        have O8 := Lib.hid (row_ext4 HO.out hE8)
        have E8 : Ext w w8 := hE.trans hE8
        have X9 := Lib.hid (RecAt.data (X8.out.but D8.out.2 (by omega)) F.2)
        have D9 := Lib.hid (D8.out.1.but (grownBy_but4 _ (qr + 1) 3 (.string ⟨F.2.toArray⟩)) (by omega))
        have R9 := Lib.hid ((R8.out.but D8.out.2 (by omega)).but (grownBy_but4 _ (qr + 1) 3 (.string ⟨F.2.toArray⟩)) (by omega))
        have O9 := Lib.hid (row_but4 (row_but4 O8.out (row_beside4 O8.out hk9 (by decide)) D8.out.2) (row_beside4 O8.out X8.out (by decide)) (grownBy_but4 _ (qr + 1) 3 (.string ⟨F.2.toArray⟩)))
        have E9 : Ext w (((w8.setCell ⟨qr, 0, none⟩ (.string ⟨l8.toArray⟩)).setCell ⟨qr, 1, none⟩ (.int .i64 F.1.err)).setCell ⟨qr + 1, 3, none⟩ (.string ⟨F.2.toArray⟩)) :=
          Below.setCell (Below.trans (B := w.heap.size) E8 (D8.out.2.below (by omega) E8.size)) (p := ⟨qr + 1, 3, none⟩) (by show w.heap.size ≤ qr + 1; omega) _
        have HE9 := Lib.hid E9
        clear hk9 d8 dd E9 z0 z1
        go_wp2_with fail
        have hsim9' := hs8
        generalize hw9 : (((w8.setCell ⟨qr, 0, none⟩ (.string ⟨l8.toArray⟩)).setCell ⟨qr, 1, none⟩ (.int .i64 F.1.err)).setCell ⟨qr + 1, 3, none⟩ (.string ⟨F.2.toArray⟩)) = w9 at *
        have HI9 := Lib.hid (show Ints w9 (.slice a9 n9 c9) D.2 from Sl.ofOwn O9.out)
        have hE9 := HE9.out
        clear hw9 c0 c1 c2 c3 fx fz y0 y1 D8 X8 R8 O8
        have h9 := endRef_any l8 F.1 w9 hs8 (by omega)
        unfold refVal at h9
        refine h9.mono ?_
        clear h9
        obtain ⟨d, hdd⟩ : ∃ d, F.1.done = d := ⟨_, rfl⟩
        rw [hdd] at HOK ⊢
        clear hdd
        rintro e w10 ⟨rfl, hE10⟩
        have x9 := Lib.hid (X9.out.ext hE10)
        have r9 := Lib.hid (R9.out.ext hE10)
        have o9 := Lib.hid (row_ext4 O9.out hE10)
        have HI10 := Lib.hid (HI9.out.below hE10)
        have e10 := hE9.trans hE10
        by_cases hd : d = 0
        · subst hd
          have hd' : ((0 : Int) == 0) = true := rfl
          have hok2 : Rec.readOk t = Rec.right ⟨(A.2 : Int), (B.2 : Int), D.2, F.2⟩ := by rw [HOK.out, hd']; rfl
          have HOK2 := Lib.hid hok2
          obtain ⟨d0, d1, d2, d3⟩ := x9.out.cells
          clear hok2 hd'
          go_wp2_with fail
          refine (refRight4_any _ ⟨(A.2 : Int), (B.2 : Int), D.2, F.2⟩ _ ⟨_, rfl, HI10.out⟩).mono ?_
          rintro e w11 ⟨rfl, hE11⟩
          have r11 := Lib.hid (r9.out.ext hE11)
          have x11 := Lib.hid (x9.out.ext hE11)
          have e11 := e10.trans hE11
          clear d0 d1 d2 d3
          obtain ⟨c0, c1, c2, c3⟩ := r11.out.cells
          obtain ⟨d0, d1, d2, d3⟩ := x11.out.cells
          have fr : ∀ i, w11.frozen? ⟨w.heap.size, i, none⟩ = false := fun i => frozen_of_heap r11.out i
          cases hrr : Rec.right ⟨(A.2 : Int), (B.2 : Int), D.2, F.2⟩ with
          | false =>
            rw [hrr] at HOK2
            clear hrr
            go_wp2_with fail
            have hs := r11.out.set (.slice none 0 0) noRec
            exact bodyPost_ret (v := .tuple #[recV (.slice none 0 0) noRec, .int .i64 40]) (by simp [results, Try.results17, go_sem, c0, c1, c2, c3, fr, noRec, recV]) rfl
              ⟨_, by rw [decErr4_some, HOK2.out]; rfl, by rw [decRec4_some, HOK2.out]; exact ⟨_, rfl, ints_none _⟩, Below.trans (B := w.heap.size) e11 (hs.2.below (Nat.le_refl _) e11.size)⟩
          | true =>
            rw [hrr] at HOK2
            clear hrr
            go_wp2_with fail
            have hs := r11.out.set (.slice a9 n9 c9) ⟨(A.2 : Int), (B.2 : Int), D.2, F.2⟩
            have hbr : some w.heap.size ≠ (Value.slice a9 n9 c9).ownBlock := row_beside4 o9.out r9.out (by decide)
            have hi11 : Ints _ (.slice a9 n9 c9) D.2 := Sl.ofOwn (row_but4 (row_ext4 o9.out hE11) hbr hs.2)
            exact bodyPost_ret (v := .tuple #[recV (.slice a9 n9 c9) ⟨(A.2 : Int), (B.2 : Int), D.2, F.2⟩, .int .i64 0]) (by simp [results, Try.results17, go_sem, c0, c1, c2, c3, d0, d1, d2, d3, fr, recV]) rfl
              ⟨_, by rw [decErr4_some, HOK2.out]; rfl, by rw [decRec4_some, HOK2.out, HRD.out]; exact ⟨_, rfl, hi11⟩, Below.trans (B := w.heap.size) e11 (hs.2.below (Nat.le_refl _) e11.size)⟩
        · have hd' : (d == 0) = false := by rw [beq_eq_false_iff_ne]; exact hd
          have hok2 : Rec.readOk t = false := by rw [HOK.out, hd']; rfl
          have HOK2 := Lib.hid hok2
          obtain ⟨c0, c1, c2, c3⟩ := r9.out.cells
          have fr : ∀ i, w10.frozen? ⟨w.heap.size, i, none⟩ = false := fun i => frozen_of_heap r9.out i
          clear hok2 hd'
          go_wp2_with fail
          have hs := r9.out.set (.slice none 0 0) noRec
          exact bodyPost_ret (v := .tuple #[recV (.slice none 0 0) noRec, .int .i64 40]) (by simp [results, Try.results17, go_sem, c0, c1, c2, c3, fr, noRec, recV]) rfl
            ⟨_, by rw [decErr4_some, HOK2.out]; rfl, by rw [decRec4_some, HOK2.out]; exact ⟨_, rfl, ints_none _⟩, Below.trans (B := w.heap.size) e10 (hs.2.below (Nat.le_refl _) e10.size)⟩
end Go.Proofs.Ytjflbjlpibekhaa
