/-
  Layer 5, the program: bytes as entries.
-/
import Derived.Test.YtboopfbflfimlaaEntE
import Derived.Test.YtboopfbflfimlaaEntP
import Derived.Deep.RegionLaw
namespace Go.Proofs.Ytboopfbflfimlaa
set_option linter.unusedSimpArgs false
set_option linter.unusedVariables false
set_option maxRecDepth 100000
open Go.RowKit

/-- What Decode leaves. -/
def GivesDec5 (w : World) (l : List UInt8) (x : Ending) (w' : World) : Prop := ∃ u, x = .returned (.tuple #[u, .int .i64 (Ent.errOf (Crc.cutOf l) (Ent.dec Ent.vd l))]) ∧ IsEnt w' u (Ent.entOf (Ent.dec Ent.vd l)) ∧ Ext w w'

theorem build_ent0 (w : World) : (Instr.build 31 #[]).run Try.prog w = .ok (.agg #[.int .i64 0, .int .i64 0, .slice none 0 0, .int .i64 0, .int .i64 0, .int .i64 0]) w := by kernel_rfl
theorem build_ent2 (w : World) (n k : Int) : (Instr.build 31 #[(0, .int .i64 n), (1, .int .i64 k)]).run Try.prog w = .ok (.agg #[.int .i64 n, .int .i64 k, .slice none 0 0, .int .i64 0, .int .i64 0, .int .i64 0]) w := by kernel_rfl
theorem build_seq2 (w : World) (c n : Int) : (Instr.build 24 #[(0, .int .i64 c), (1, .int .i64 n)]).run Try.prog w = .ok (.agg #[.int .i64 c, .int .i64 n]) w := by kernel_rfl
theorem EntAt.zero (T : TypeId) (w : World) : EntAt T (w.alloc (.cells #[.int .i64 0, .int .i64 0, .slice none 0 0, .int .i64 0, .int .i64 0, .int .i64 0] T)) w.heap.size (.slice none 0 0) Ent.noE := by
  unfold EntAt Ent.noE
  exact heap_alloc_new w _
theorem set_six {w : World} {q : Nat} {x0 x1 x2 x3 x4 x5 : Value} {T : TypeId} (h : w.heap[q]? = some (.cells #[x0, x1, x2, x3, x4, x5] T (0, 0))) (v0 v1 v2 v3 v4 v5 : Value) :
    ((((((w.setCell ⟨q, 0, none⟩ v0).setCell ⟨q, 1, none⟩ v1).setCell ⟨q, 2, none⟩ v2).setCell ⟨q, 3, none⟩ v3).setCell ⟨q, 4, none⟩ v4).setCell ⟨q, 5, none⟩ v5).heap[q]? = some (.cells #[v0, v1, v2, v3, v4, v5] T (0, 0)) ∧ But q w ((((((w.setCell ⟨q, 0, none⟩ v0).setCell ⟨q, 1, none⟩ v1).setCell ⟨q, 2, none⟩ v2).setCell ⟨q, 3, none⟩ v3).setCell ⟨q, 4, none⟩ v4).setCell ⟨q, 5, none⟩ v5) := by
  refine ⟨?_, ((((((But.refl _ _).setCell 0 none v0).setCell 1 none v1).setCell 2 none v2).setCell 3 none v3).setCell 4 none v4).setCell 5 none v5⟩
  have := heap_setCell (heap_setCell (heap_setCell (heap_setCell (heap_setCell (heap_setCell h 0 v0) 1 v1) 2 v2) 3 v3) 4 v4) 5 v5
  simpa using this
theorem EntAt.set {T : TypeId} {w : World} {p : Nat} {t : Value} {e : Ent.E} (h : EntAt T w p t e) (t' : Value) (e' : Ent.E) :
    EntAt T ((((((w.setCell ⟨p, 0, none⟩ (.int .i64 e'.number)).setCell ⟨p, 1, none⟩ (.int .i64 e'.kind)).setCell ⟨p, 2, none⟩ t').setCell ⟨p, 3, none⟩ (.int .i64 e'.tag)).setCell ⟨p, 4, none⟩ (.int .i64 e'.term)).setCell ⟨p, 5, none⟩ (.int .i64 e'.pos)) p t' e' ∧
    But p w ((((((w.setCell ⟨p, 0, none⟩ (.int .i64 e'.number)).setCell ⟨p, 1, none⟩ (.int .i64 e'.kind)).setCell ⟨p, 2, none⟩ t').setCell ⟨p, 3, none⟩ (.int .i64 e'.tag)).setCell ⟨p, 4, none⟩ (.int .i64 e'.term)).setCell ⟨p, 5, none⟩ (.int .i64 e'.pos)) := set_six h _ _ _ _ _ _
theorem EntAt.setNumber {T : TypeId} {w : World} {q : Nat} {u : Value} {n k t m p n' : Int} {c : List Int} (h : EntAt T w q u ⟨n, k, c, t, m, p⟩) : EntAt T (w.setCell ⟨q, 0, none⟩ (.int .i64 n')) q u ⟨n', k, c, t, m, p⟩ := by
  have := heap_setCell h 0 (.int .i64 n')
  unfold EntAt
  simpa using this
theorem EntAt.setKind {T : TypeId} {w : World} {q : Nat} {u : Value} {n k t m p k' : Int} {c : List Int} (h : EntAt T w q u ⟨n, k, c, t, m, p⟩) : EntAt T (w.setCell ⟨q, 1, none⟩ (.int .i64 k')) q u ⟨n, k', c, t, m, p⟩ := by
  have := heap_setCell h 1 (.int .i64 k')
  unfold EntAt
  simpa using this
theorem EntAt.setCut {T : TypeId} {w : World} {q : Nat} {u u' : Value} {n k t m p : Int} {c c' : List Int} (h : EntAt T w q u ⟨n, k, c, t, m, p⟩) : EntAt T (w.setCell ⟨q, 2, none⟩ u') q u' ⟨n, k, c', t, m, p⟩ := by
  have := heap_setCell h 2 u'
  unfold EntAt
  simpa using this
theorem EntAt.setTag {T : TypeId} {w : World} {q : Nat} {u : Value} {n k t m p t' : Int} {c : List Int} (h : EntAt T w q u ⟨n, k, c, t, m, p⟩) : EntAt T (w.setCell ⟨q, 3, none⟩ (.int .i64 t')) q u ⟨n, k, c, t', m, p⟩ := by
  have := heap_setCell h 3 (.int .i64 t')
  unfold EntAt
  simpa using this
theorem EntAt.setTerm {T : TypeId} {w : World} {q : Nat} {u : Value} {n k t m p m' : Int} {c : List Int} (h : EntAt T w q u ⟨n, k, c, t, m, p⟩) : EntAt T (w.setCell ⟨q, 4, none⟩ (.int .i64 m')) q u ⟨n, k, c, t, m', p⟩ := by
  have := heap_setCell h 4 (.int .i64 m')
  unfold EntAt
  simpa using this
theorem EntAt.setPos {T : TypeId} {w : World} {q : Nat} {u : Value} {n k t m p p' : Int} {c : List Int} (h : EntAt T w q u ⟨n, k, c, t, m, p⟩) : EntAt T (w.setCell ⟨q, 5, none⟩ (.int .i64 p')) q u ⟨n, k, c, t, m, p'⟩ := by
  have := heap_setCell h 5 (.int .i64 p')
  unfold EntAt
  simpa using this
theorem Ent.pok_eq {l : List UInt8} {S : Pack.St} {E : Ent.E} (h : Ent.pread l = (S, E)) : Ent.pok l = ((S.done == 0) && Ent.right E) := by unfold Ent.pok; rw [h]
theorem cutOf_le {l t : List UInt8} (h : Crc.cutOf l = some t) : t.length ≤ l.length := by
  unfold Crc.cutOf at h
  split at h
  · cases h
  · split at h
    · injection h with h
      rw [← h, List.length_take]
      omega
    · cases h

theorem textMost (s : Pack.St) (most : Int) (h : 0 ≤ most) : ((s.text most).2.length : Int) ≤ most := by
  have h1 := numMost s most h
  unfold Pack.St.text
  simp only
  split
  · simpa using h
  · rw [List.length_take]
    omega

set_option maxHeartbeats 8000000 in
theorem decode5_any (v : Value) (l : List UInt8) (w : World) (hv : Bytes w v l) (hl : l.length ≤ 200000) :
    Calls Try.prog 16 #[v] w (GivesDec5 w l) := by
  have hb0 := build_ent0
  have hb1 := build_ent2
  have hb2 := build_seq2
  have HV := Lib.hid hv
  obtain ⟨a, cap, rfl, hcap, hmax, hn, hc⟩ := hv.open
  unfold maxLen at hmax
  clear hv hc
  unfold GivesDec5
  have hno := fun h => Ent.dec_cut (b := l) h
  have hyes := fun t h1 h2 => Ent.dec_pok (b := l) (l := t) h1 h2
  have hnot := fun t h1 h2 => Ent.dec_not (b := l) (l := t) h1 h2
  have hlen := fun t h => cutOf_le (l := l) (t := t) h
  obtain ⟨D, hD⟩ : ∃ D, Ent.dec Ent.vd l = D := ⟨_, rfl⟩
  obtain ⟨C, hC⟩ : ∃ C, Crc.cutOf l = C := ⟨_, rfl⟩
  rw [hC, hD] at hno hyes hnot ⊢
  rw [hC] at hlen
  have HC := Lib.hid hC
  have HNO := Lib.hid hno
  have HYES := Lib.hid hyes
  have HNOT := Lib.hid hnot
  have HLEN := Lib.hid hlen
  clear hC hD hno hyes hnot hlen
  have hE0 : Ext w (w.alloc (.cells #[.int .i64 0, .int .i64 0, .slice none 0 0, .int .i64 0, .int .i64 0, .int .i64 0] 31)) := Ext.alloc _ _
  have HR0 := Lib.hid (EntAt.zero 31 w)
  go_enter Try.func16, Try.ntmps16
  go_wp2_with fail
  refine (new_any _).mono ?_
  rintro e w1 ⟨rfl, ht1, hE1⟩
  rw [World.size_alloc] at ht1 ⊢
  have r1 := Lib.hid (HR0.out.ext hE1)
  have e1 := hE0.trans hE1
  go_wp2_with fail
  have hcall := cut_any _ 0 0 _ l _ ht1 (.inl rfl) (HV.out.below e1) hl
  rw [HC.out] at hcall
  refine hcall.mono ?_
  clear hcall
  intro e w2 hq
  obtain ⟨-, hB2, hcut⟩ := hq
  have e2 : Ext w w2 := Below.trans (B := w.heap.size) e1 (hB2.below (Nat.le_succ _) e1.size)
  have r2 := Lib.hid (r1.out.but hB2 (by simp))
  obtain ⟨c0, c1, c2, c3, c4, c5⟩ := r2.out.cells
  have fr : ∀ i, w2.frozen? ⟨w.heap.size, i, none⟩ = false := fun i => frozen_of_heap r2.out i
  cases C with
  | none =>
    subst hcut
    have hno := HNO.out rfl
    subst hno
    go_wp2_with fail
    have hs := r2.out.set (.slice none 0 0) Ent.noE
    exact bodyPost_ret (v := .tuple #[entV (.slice none 0 0) Ent.noE, .int .i64 51]) (by simp [results, Try.results16, go_sem, c0, c1, c2, c3, c4, c5, fr, Ent.noE, entV]) rfl ⟨_, rfl, ⟨_, rfl, ints_none _⟩, Below.trans (B := w.heap.size) e2 (hs.2.below (Nat.le_refl _) e2.size)⟩
  | some t =>
    obtain ⟨v2, rfl, hb2⟩ := hcut
    have htl : t.length ≤ l.length := HLEN.out t rfl
    have hA : Ent.pA t = Pack.St.num ⟨t, 0⟩ 1099511627776 := rfl
    obtain ⟨A, hA'⟩ : ∃ A, Ent.pA t = A := ⟨_, rfl⟩
    have hB : Ent.pB t = A.1.num 2 := by unfold Ent.pB; rw [hA']
    obtain ⟨B, hB'⟩ : ∃ B, Ent.pB t = B := ⟨_, rfl⟩
    rw [hA'] at hA
    rw [hB'] at hB
    have HA := Lib.hid hA.symm
    have HB := Lib.hid hB.symm
    have HAA := Lib.hid hA'
    have HBB := Lib.hid hB'
    have hB2' : B.2 ≤ 2 := by
      have := numMost A.1 2 (by omega)
      rw [← hB] at this
      omega
    obtain ⟨A1, nA⟩ := A
    obtain ⟨B1, nB⟩ := B
    simp only at HB hB2'
    clear hA hB hA' hB' c0 c1 c2 c3 c4 c5 fr
    obtain ⟨a2, n2, k2, rfl⟩ := hb2.isSlice
    go_wp2_with fail
    refine (newReader_any _ t _ hb2 (by omega)).mono ?_
    rintro e w3 ⟨p, rfl, hp, hr3, hE3⟩
    have e3 := e2.trans hE3
    have r3 := Lib.hid (r2.out.ext hE3)
    have hq0 : w.heap.size ≠ p := by have := r2.out.lt; omega
    have hwp : w.heap.size ≤ p := Nat.le_trans e2.size hp
    go_wp2_with fail
    refine (num_any p _ 1099511627776 _ hr3).mono ?_
    rw [HA.out]
    rintro e w4 ⟨rfl, hB4, hr4⟩
    have r4 := Lib.hid (r3.out.but hB4 hq0)
    have e4 : Ext w w4 := Below.trans (B := w.heap.size) e3 (hB4.below hwp e3.size)
    go_wp2_with fail
    refine (num_any p _ 2 _ hr4).mono ?_
    rw [HB.out]
    rintro e w5 ⟨rfl, hB5, hr5⟩
    have r5 := Lib.hid (r4.out.but hB5 hq0)
    have e5 : Ext w w5 := Below.trans (B := w.heap.size) e4 (hB5.below hwp e4.size)
    have hpq : p < w5.heap.size := hr5.lt
    have hwq : w.heap.size < w5.heap.size := by have := r5.out.lt; omega
    obtain ⟨k, hk⟩ : ∃ k : Int, (nB : Int) = k := ⟨_, rfl⟩
    obtain ⟨x, hx⟩ : ∃ x : Int, (nA : Int) = x := ⟨_, rfl⟩
    have HX := Lib.hid hx
    have HKK := Lib.hid hk
    dsimp only
    rw [hk, hx]
    clear hx
    have hE6 : Ext w5 (w5.alloc (.cells #[.int .i64 x, .int .i64 k, .slice none 0 0, .int .i64 0, .int .i64 0, .int .i64 0] 31)) := Ext.alloc _ _
    have x6 := Lib.hid (EntAt.new 31 w5 (.slice none 0 0) ⟨x, k, [], 0, 0, 0⟩)
    have r6 := Lib.hid (r5.out.ext hE6)
    have e6 := e5.trans hE6
    have R6 := Lib.hid (hr5.ext hE6)
    obtain ⟨y0, y1, y2, y3, y4, y5⟩ := x6.out.cells
    have fx := fun i => frozen_of_heap x6.out i
    by_cases k1 : k = 1
    · subst k1
      have hn1 : nB = 1 := by omega
      clear hk
      obtain ⟨F, hF⟩ : ∃ F, Ent.pV t = F := ⟨_, rfl⟩
      have hF' : B1.text 65536 = F := by rw [← hF]; unfold Ent.pV; rw [HBB.out]
      have HP := Lib.hid (show Ent.pread t = (F.1, ⟨x, 1, Ent.vd F.2, 0, 0, 0⟩) by rw [Ent.pread_one (by rw [HBB.out]; exact hn1), hF, HAA.out, ← HX.out])
      have hFl : F.2.length ≤ 65536 := by have := textMost B1 65536 (by omega); rw [hF'] at this; omega
      have HF := Lib.hid hF'
      clear hF hF' hn1
      go_wp2_with fail
      clear y0 y1 y2 y3 y4 y5 fx
      generalize hw6 : w5.alloc (.cells #[.int .i64 x, .int .i64 1, .slice none 0 0, .int .i64 0, .int .i64 0, .int .i64 0] 31) = w6 at *
      generalize hq : w5.heap.size = q at *
      clear hw6 hq
      refine (text_any p _ 65536 _ R6.out).mono ?_
      rw [HF.out]
      rintro e w7 ⟨rfl, hB7, hr7⟩
      have x7 := Lib.hid (x6.out.but hB7 (by omega))
      have r7 := Lib.hid (r6.out.but hB7 hq0)
      have e7 : Ext w w7 := Below.trans (B := w.heap.size) e6 (hB7.below hwp e6.size)
      have hcv := run_conv w7 F.2
      have hby := Lib.hid (bytes_of_str w7 F.2 5 (by unfold maxLen; omega))
      have hEb := ext_bytesWorld w7 5 ⟨F.2.toArray⟩
      have hR7 := Lib.hid hr7
      clear hr7
      go_wp2_with fail
      refine (decode_own _ F.2 _ hby.out (by omega)).mono ?_
      unfold GivesDecO
      rintro e w8 ⟨v8, rfl, ho8, hE8⟩
      have hE78 := hEb.trans hE8
      have x8 := Lib.hid (x7.out.ext hE78)
      have r8 := Lib.hid (r7.out.ext hE78)
      have R8 := Lib.hid (hR7.out.ext hE78)
      have e8 := e7.trans hE78
      obtain ⟨a8, n8, c8, rfl⟩ := ownSlice ho8
      have O8 := Lib.hid (show w8.ownsRow _ 3 1 (.slice a8 n8 c8) (Ent.vd F.2).length (i64s (Ent.vd F.2)) from ho8)
      have hfar : ∀ j, (Value.slice a8 n8 c8).ownBlock = some j → q < j := fun j hj => by
        have h1 := (O8.out.lt j hj).1
        have h2 := hEb.size
        have h3 := x7.out.lt
        omega
      have O9 := Lib.hid (rowBut O8.out (p := q) (fun e => by have := hfar _ e.symm; omega) (butSet w8 q 2 (.slice a8 n8 c8)))
      have HKEEP := Lib.hid (show ∀ w11 w', Ext (w8.setCell ⟨q, 2, none⟩ (.slice a8 n8 c8)) w11 → But w.heap.size w11 w' → Ints w' (.slice a8 n8 c8) (Ent.vd F.2) from fun w11 w' hE hB => Sl.ofOwn (rowBut (rowExt O9.out hE) (fun e => by have := hfar _ e.symm; omega) hB))
      have HI9 := Lib.hid (show Ints (w8.setCell ⟨q, 2, none⟩ (.slice a8 n8 c8)) (.slice a8 n8 c8) (Ent.vd F.2) from Sl.ofOwn O9.out)
      obtain ⟨y0, y1, y2, y3, y4, y5⟩ := x8.out.cells
      have fx := fun i => frozen_of_heap x8.out i
      have x9 := Lib.hid (EntAt.setCut (u' := .slice a8 n8 c8) (c' := Ent.vd F.2) x8.out)
      have r9 := Lib.hid (r8.out.but (butSet w8 q 2 (.slice a8 n8 c8)) (by omega))
      have R9 := Lib.hid (R8.out.setBehind (q := q) (o := 2) (v := .slice a8 n8 c8) (by omega))
      have e9 : Ext w (w8.setCell ⟨q, 2, none⟩ (.slice a8 n8 c8)) := Below.setCell e8 (p := ⟨q, 2, none⟩) (by show w.heap.size ≤ q; omega) _
      clear ho8 hfar
      go_wp2_with fail
      generalize hw9 : w8.setCell ⟨q, 2, none⟩ (.slice a8 n8 c8) = w9 at *
      clear hw9 y0 y1 y2 y3 y4 y5 fx
      refine (end_any p _ _ R9.out).mono ?_
      obtain ⟨d, hdd⟩ : ∃ d, F.1.done = d := ⟨_, rfl⟩
      have HOK := Lib.hid (Ent.pok_eq HP.out)
      rw [hdd] at HOK ⊢
      clear hdd
      rintro e w10 ⟨rfl, rfl⟩
      by_cases hd : d = 0
      · subst hd
        have HOK2 := Lib.hid (show Ent.pok t = Ent.right ⟨x, 1, Ent.vd F.2, 0, 0, 0⟩ by rw [HOK.out]; rfl)
        obtain ⟨d0, d1, d2, d3, d4, d5⟩ := x9.out.cells
        clear HOK
        go_wp2_with fail
        refine (right5_any _ ⟨x, 1, Ent.vd F.2, 0, 0, 0⟩ _ ⟨_, rfl, HI9.out⟩).mono ?_
        rintro e w11 ⟨rfl, hE11⟩
        have r11 := Lib.hid (r9.out.ext hE11)
        have x11 := Lib.hid (x9.out.ext hE11)
        have e11 := e9.trans hE11
        have HI11 := Lib.hid (HI9.out.below hE11)
        clear d0 d1 d2 d3 d4 d5
        obtain ⟨c0, c1, c2, c3, c4, c5⟩ := r11.out.cells
        obtain ⟨d0, d1, d2, d3, d4, d5⟩ := x11.out.cells
        have fr : ∀ i, w11.frozen? ⟨w.heap.size, i, none⟩ = false := fun i => frozen_of_heap r11.out i
        cases hrr : Ent.right ⟨x, 1, Ent.vd F.2, 0, 0, 0⟩ with
        | false =>
          have hno := HNOT.out t rfl (HOK2.out.trans hrr)
          subst hno
          clear hrr HOK2
          go_wp2_with fail
          have hs := r11.out.set (.slice none 0 0) Ent.noE
          exact bodyPost_ret (v := .tuple #[entV (.slice none 0 0) Ent.noE, .int .i64 50]) (by simp [results, Try.results16, go_sem, c0, c1, c2, c3, c4, c5, fr, Ent.noE, entV]) rfl
            ⟨_, rfl, ⟨_, rfl, ints_none _⟩, Below.trans (B := w.heap.size) e11 (hs.2.below (Nat.le_refl _) e11.size)⟩
        | true =>
          have hyes := HYES.out t rfl (HOK2.out.trans hrr)
          rw [HP.out] at hyes
          subst hyes
          clear hrr HOK2
          go_wp2_with fail
          have hs := r11.out.set (.slice a8 n8 c8) ⟨x, 1, Ent.vd F.2, 0, 0, 0⟩
          exact bodyPost_ret (v := .tuple #[entV (.slice a8 n8 c8) ⟨x, 1, Ent.vd F.2, 0, 0, 0⟩, .int .i64 0]) (by simp [results, Try.results16, go_sem, c0, c1, c2, c3, c4, c5, d0, d1, d2, d3, d4, d5, fr, entV]) rfl
            ⟨_, rfl, ⟨_, rfl, HKEEP.out _ _ hE11 hs.2⟩, Below.trans (B := w.heap.size) e11 (hs.2.below (Nat.le_refl _) e11.size)⟩
      · have hno := HNOT.out t rfl (by rw [HOK.out, show (d == 0) = false from beq_eq_false_iff_ne.2 hd]; rfl)
        subst hno
        clear HOK
        obtain ⟨c0, c1, c2, c3, c4, c5⟩ := r9.out.cells
        have fr : ∀ i, w9.frozen? ⟨w.heap.size, i, none⟩ = false := fun i => frozen_of_heap r9.out i
        go_wp2_with fail
        have hs := r9.out.set (.slice none 0 0) Ent.noE
        exact bodyPost_ret (v := .tuple #[entV (.slice none 0 0) Ent.noE, .int .i64 50]) (by simp [results, Try.results16, go_sem, c0, c1, c2, c3, c4, c5, fr, Ent.noE, entV]) rfl
          ⟨_, rfl, ⟨_, rfl, ints_none _⟩, Below.trans (B := w.heap.size) e9 (hs.2.below (Nat.le_refl _) e9.size)⟩
    · by_cases k2 : k = 2
      · subst k2
        have hn2 : nB = 2 := by omega
        clear hk
        obtain ⟨F1, nF, hF⟩ : ∃ F1 nF, Ent.pT t = (F1, nF) := ⟨_, _, rfl⟩
        obtain ⟨G1, nG, hG⟩ : ∃ G1 nG, Ent.pM t = (G1, nG) := ⟨_, _, rfl⟩
        obtain ⟨H1, nH, hH⟩ : ∃ H1 nH, Ent.pP t = (H1, nH) := ⟨_, _, rfl⟩
        have hF' : B1.num 1073741824 = (F1, nF) := by rw [← hF]; unfold Ent.pT; rw [HBB.out]
        have hG' : F1.num 64 = (G1, nG) := by rw [← hG]; unfold Ent.pM; rw [hF]
        have hH' : G1.num 1099511627776 = (H1, nH) := by rw [← hH]; unfold Ent.pP; rw [hG]
        have HP := Lib.hid (show Ent.pread t = (H1, ⟨x, 2, [], (nF : Int), (nG : Int), (nH : Int)⟩) by rw [Ent.pread_two (by rw [HBB.out]; exact hn2), hF, hG, hH, HAA.out, ← HX.out])
        have HF := Lib.hid hF'
        have HG := Lib.hid hG'
        have HH := Lib.hid hH'
        clear hF hF' hG hG' hH hH' hn2
        go_wp2_with fail
        clear y0 y1 y2 y3 y4 y5 fx
        generalize hw6 : w5.alloc (.cells #[.int .i64 x, .int .i64 2, .slice none 0 0, .int .i64 0, .int .i64 0, .int .i64 0] 31) = w6 at *
        generalize hq : w5.heap.size = q at *
        clear hw6 hq
        refine (num_any p _ 1073741824 _ R6.out).mono ?_
        rw [HF.out]
        rintro e w7 ⟨rfl, hB7, hr7⟩
        obtain ⟨f, hf⟩ : ∃ f : Int, (nF : Int) = f := ⟨_, rfl⟩
        dsimp only
        rw [hf]
        rw [hf] at HP
        clear hf
        have x7 := Lib.hid (x6.out.but hB7 (by omega))
        have r7 := Lib.hid (r6.out.but hB7 hq0)
        have e7 : Ext w w7 := Below.trans (B := w.heap.size) e6 (hB7.below hwp e6.size)
        obtain ⟨y0, y1, y2, y3, y4, y5⟩ := x7.out.cells
        have fx := fun i => frozen_of_heap x7.out i
        have x8 := Lib.hid (EntAt.setTag (t' := f) x7.out)
        have r8 := Lib.hid (r7.out.but (butSet w7 q 3 (.int .i64 f)) (by omega))
        have R8 := Lib.hid (hr7.setBehind (q := q) (o := 3) (v := .int .i64 f) (by omega))
        have e8 : Ext w (w7.setCell ⟨q, 3, none⟩ (.int .i64 f)) := Below.setCell e7 (p := ⟨q, 3, none⟩) (by show w.heap.size ≤ q; omega) _
        clear hr7
        go_wp2_with fail
        generalize hw8 : w7.setCell ⟨q, 3, none⟩ (.int .i64 f) = w8 at *
        clear hw8 y0 y1 y2 y3 y4 y5 fx
        refine (num_any p _ 64 _ R8.out).mono ?_
        rw [HG.out]
        rintro e wa ⟨rfl, hBa, hra⟩
        obtain ⟨g, hg⟩ : ∃ g : Int, (nG : Int) = g := ⟨_, rfl⟩
        dsimp only
        rw [hg]
        rw [hg] at HP
        clear hg
        have xa := Lib.hid (x8.out.but hBa (by omega))
        have ra := Lib.hid (r8.out.but hBa hq0)
        have ea : Ext w wa := Below.trans (B := w.heap.size) e8 (hBa.below hwp e8.size)
        go_wp2_with fail
        refine (num_any p _ 1099511627776 _ hra).mono ?_
        rw [HH.out]
        rintro e wb ⟨rfl, hBb, hrb⟩
        obtain ⟨h, hh⟩ : ∃ h : Int, (nH : Int) = h := ⟨_, rfl⟩
        dsimp only
        rw [hh]
        rw [hh] at HP
        clear hh
        have xb := Lib.hid (xa.out.but hBb (by omega))
        have rb := Lib.hid (ra.out.but hBb hq0)
        have eb : Ext w wb := Below.trans (B := w.heap.size) ea (hBb.below hwp ea.size)
        obtain ⟨y0, y1, y2, y3, y4, y5⟩ := xb.out.cells
        have fx := fun i => frozen_of_heap xb.out i
        have x9 := Lib.hid (EntAt.setPos (p' := h) (EntAt.setTerm (m' := g) xb.out))
        have hBc : But q wb ((wb.setCell ⟨q, 4, none⟩ (.int .i64 g)).setCell ⟨q, 5, none⟩ (.int .i64 h)) := (butSet wb q 4 (.int .i64 g)).setCell 5 none _
        have r9 := Lib.hid (rb.out.but hBc (by omega))
        have R9 := Lib.hid ((hrb.setBehind (q := q) (o := 4) (v := .int .i64 g) (by omega)).setBehind (q := q) (o := 5) (v := .int .i64 h) (by omega))
        have e9 : Ext w ((wb.setCell ⟨q, 4, none⟩ (.int .i64 g)).setCell ⟨q, 5, none⟩ (.int .i64 h)) := Below.trans (B := w.heap.size) eb (hBc.below (by omega) eb.size)
        have HI9 := Lib.hid (ints_none ((wb.setCell ⟨q, 4, none⟩ (.int .i64 g)).setCell ⟨q, 5, none⟩ (.int .i64 h)))
        clear hrb hBc
        go_wp2_with fail
        generalize hw9 : (wb.setCell ⟨q, 4, none⟩ (.int .i64 g)).setCell ⟨q, 5, none⟩ (.int .i64 h) = w9 at *
        clear hw9 y0 y1 y2 y3 y4 y5 fx
        refine (end_any p _ _ R9.out).mono ?_
        obtain ⟨d, hdd⟩ : ∃ d, H1.done = d := ⟨_, rfl⟩
        have HOK := Lib.hid (Ent.pok_eq HP.out)
        rw [hdd] at HOK ⊢
        clear hdd
        rintro e w10 ⟨rfl, rfl⟩
        by_cases hd : d = 0
        · subst hd
          have HOK2 := Lib.hid (show Ent.pok t = Ent.right ⟨x, 2, [], f, g, h⟩ by rw [HOK.out]; rfl)
          obtain ⟨d0, d1, d2, d3, d4, d5⟩ := x9.out.cells
          clear HOK
          go_wp2_with fail
          refine (right5_any _ ⟨x, 2, [], f, g, h⟩ _ ⟨_, rfl, HI9.out⟩).mono ?_
          rintro e w11 ⟨rfl, hE11⟩
          have r11 := Lib.hid (r9.out.ext hE11)
          have x11 := Lib.hid (x9.out.ext hE11)
          have e11 := e9.trans hE11
          have HI11 := Lib.hid (HI9.out.below hE11)
          clear d0 d1 d2 d3 d4 d5
          obtain ⟨c0, c1, c2, c3, c4, c5⟩ := r11.out.cells
          obtain ⟨d0, d1, d2, d3, d4, d5⟩ := x11.out.cells
          have fr : ∀ i, w11.frozen? ⟨w.heap.size, i, none⟩ = false := fun i => frozen_of_heap r11.out i
          cases hrr : Ent.right ⟨x, 2, [], f, g, h⟩ with
          | false =>
            have hno := HNOT.out t rfl (HOK2.out.trans hrr)
            subst hno
            clear hrr HOK2
            go_wp2_with fail
            have hs := r11.out.set (.slice none 0 0) Ent.noE
            exact bodyPost_ret (v := .tuple #[entV (.slice none 0 0) Ent.noE, .int .i64 50]) (by simp [results, Try.results16, go_sem, c0, c1, c2, c3, c4, c5, fr, Ent.noE, entV]) rfl
              ⟨_, rfl, ⟨_, rfl, ints_none _⟩, Below.trans (B := w.heap.size) e11 (hs.2.below (Nat.le_refl _) e11.size)⟩
          | true =>
            have hyes := HYES.out t rfl (HOK2.out.trans hrr)
            rw [HP.out] at hyes
            subst hyes
            clear hrr HOK2
            go_wp2_with fail
            have hs := r11.out.set (.slice none 0 0) ⟨x, 2, [], f, g, h⟩
            exact bodyPost_ret (v := .tuple #[entV (.slice none 0 0) ⟨x, 2, [], f, g, h⟩, .int .i64 0]) (by simp [results, Try.results16, go_sem, c0, c1, c2, c3, c4, c5, d0, d1, d2, d3, d4, d5, fr, entV]) rfl
              ⟨_, rfl, ⟨_, rfl, ints_none _⟩, Below.trans (B := w.heap.size) e11 (hs.2.below (Nat.le_refl _) e11.size)⟩
        · have hno := HNOT.out t rfl (by rw [HOK.out, show (d == 0) = false from beq_eq_false_iff_ne.2 hd]; rfl)
          subst hno
          clear HOK
          obtain ⟨c0, c1, c2, c3, c4, c5⟩ := r9.out.cells
          have fr : ∀ i, w9.frozen? ⟨w.heap.size, i, none⟩ = false := fun i => frozen_of_heap r9.out i
          go_wp2_with fail
          have hs := r9.out.set (.slice none 0 0) Ent.noE
          exact bodyPost_ret (v := .tuple #[entV (.slice none 0 0) Ent.noE, .int .i64 50]) (by simp [results, Try.results16, go_sem, c0, c1, c2, c3, c4, c5, fr, Ent.noE, entV]) rfl
            ⟨_, rfl, ⟨_, rfl, ints_none _⟩, Below.trans (B := w.heap.size) e9 (hs.2.below (Nat.le_refl _) e9.size)⟩
      · have hn1 : nB ≠ 1 := by omega
        have hn2 : nB ≠ 2 := by omega
        have hk0 : k = 0 := by omega
        subst hk0
        have HP := Lib.hid (show Ent.pread t = (B1, ⟨x, 0, [], 0, 0, 0⟩) by rw [Ent.pread_else (by rw [HBB.out]; exact hn1) (by rw [HBB.out]; exact hn2), HBB.out, HAA.out, ← HX.out, ← HKK.out])
        clear hk hn1 hn2
        go_wp2_with fail
        clear y0 y1 y2 y3 y4 y5 fx
        generalize hw6 : w5.alloc (.cells #[.int .i64 x, .int .i64 0, .slice none 0 0, .int .i64 0, .int .i64 0, .int .i64 0] 31) = w9 at *
        generalize hq : w5.heap.size = q at *
        clear hw6 hq
        have x9 := x6
        have r9 := r6
        have R9 := R6
        have e9 := e6
        have HI9 := Lib.hid (ints_none w9)
        refine (end_any p _ _ R9.out).mono ?_
        obtain ⟨d, hdd⟩ : ∃ d, B1.done = d := ⟨_, rfl⟩
        have HOK := Lib.hid (Ent.pok_eq HP.out)
        rw [hdd] at HOK ⊢
        clear hdd
        rintro e w10 ⟨rfl, rfl⟩
        by_cases hd : d = 0
        · subst hd
          have HOK2 := Lib.hid (show Ent.pok t = Ent.right ⟨x, 0, [], 0, 0, 0⟩ by rw [HOK.out]; rfl)
          obtain ⟨d0, d1, d2, d3, d4, d5⟩ := x9.out.cells
          clear HOK
          go_wp2_with fail
          refine (right5_any _ ⟨x, 0, [], 0, 0, 0⟩ _ ⟨_, rfl, HI9.out⟩).mono ?_
          rintro e w11 ⟨rfl, hE11⟩
          have r11 := Lib.hid (r9.out.ext hE11)
          have x11 := Lib.hid (x9.out.ext hE11)
          have e11 := e9.trans hE11
          have HI11 := Lib.hid (HI9.out.below hE11)
          clear d0 d1 d2 d3 d4 d5
          obtain ⟨c0, c1, c2, c3, c4, c5⟩ := r11.out.cells
          obtain ⟨d0, d1, d2, d3, d4, d5⟩ := x11.out.cells
          have fr : ∀ i, w11.frozen? ⟨w.heap.size, i, none⟩ = false := fun i => frozen_of_heap r11.out i
          cases hrr : Ent.right ⟨x, 0, [], 0, 0, 0⟩ with
          | false =>
            have hno := HNOT.out t rfl (HOK2.out.trans hrr)
            subst hno
            clear hrr HOK2
            go_wp2_with fail
            have hs := r11.out.set (.slice none 0 0) Ent.noE
            exact bodyPost_ret (v := .tuple #[entV (.slice none 0 0) Ent.noE, .int .i64 50]) (by simp [results, Try.results16, go_sem, c0, c1, c2, c3, c4, c5, fr, Ent.noE, entV]) rfl
              ⟨_, rfl, ⟨_, rfl, ints_none _⟩, Below.trans (B := w.heap.size) e11 (hs.2.below (Nat.le_refl _) e11.size)⟩
          | true =>
            have hyes := HYES.out t rfl (HOK2.out.trans hrr)
            rw [HP.out] at hyes
            subst hyes
            clear hrr HOK2
            go_wp2_with fail
            have hs := r11.out.set (.slice none 0 0) ⟨x, 0, [], 0, 0, 0⟩
            exact bodyPost_ret (v := .tuple #[entV (.slice none 0 0) ⟨x, 0, [], 0, 0, 0⟩, .int .i64 0]) (by simp [results, Try.results16, go_sem, c0, c1, c2, c3, c4, c5, d0, d1, d2, d3, d4, d5, fr, entV]) rfl
              ⟨_, rfl, ⟨_, rfl, ints_none _⟩, Below.trans (B := w.heap.size) e11 (hs.2.below (Nat.le_refl _) e11.size)⟩
        · have hno := HNOT.out t rfl (by rw [HOK.out, show (d == 0) = false from beq_eq_false_iff_ne.2 hd]; rfl)
          subst hno
          clear HOK
          obtain ⟨c0, c1, c2, c3, c4, c5⟩ := r9.out.cells
          have fr : ∀ i, w9.frozen? ⟨w.heap.size, i, none⟩ = false := fun i => frozen_of_heap r9.out i
          go_wp2_with fail
          have hs := r9.out.set (.slice none 0 0) Ent.noE
          exact bodyPost_ret (v := .tuple #[entV (.slice none 0 0) Ent.noE, .int .i64 50]) (by simp [results, Try.results16, go_sem, c0, c1, c2, c3, c4, c5, fr, Ent.noE, entV]) rfl
            ⟨_, rfl, ⟨_, rfl, ints_none _⟩, Below.trans (B := w.heap.size) e9 (hs.2.below (Nat.le_refl _) e9.size)⟩
end Go.Proofs.Ytboopfbflfimlaa
