/-
  Layer 6, the program: bytes as configurations.
-/
import Derived.Test.YtpfodkgncachiaaTrmF
namespace Go.Proofs.Ytpfodkgncachiaa
set_option linter.unusedSimpArgs false
set_option linter.unusedVariables false
set_option maxRecDepth 100000
open Go.RowKit

def GivesDec6 (w : World) (l : List UInt8) (x : Ending) (w' : World) : Prop := ∃ v, x = .returned (.tuple #[v, .int .i64 (Term.errOf (Term.dec l))]) ∧ IsConf w' v (Term.confOf (Term.dec l)) ∧ Ext w w'

theorem build_conf0 (w : World) : (Instr.build 26 #[]).run Try.prog w = .ok (.agg #[.int .i64 0, .slice none 0 0, .slice none 0 0]) w := by kernel_rfl
theorem build_conf2 (w : World) (n : Int) (a : Option Addr) (m c : Nat) : (Instr.build 26 #[(0, .int .i64 n), (1, .slice a m c)]).run Try.prog w = .ok (.agg #[.int .i64 n, .slice a m c, .slice none 0 0]) w := by kernel_rfl
theorem ConfAt.setAll {T : TypeId} {w : World} {p : Nat} {n : Int} {s d : Value} (h : ConfAt T w p n s d) (n' : Int) (s' d' : Value) :
    ConfAt T (((w.setCell ⟨p, 0, none⟩ (.int .i64 n')).setCell ⟨p, 1, none⟩ s').setCell ⟨p, 2, none⟩ d') p n' s' d' ∧ But p w (((w.setCell ⟨p, 0, none⟩ (.int .i64 n')).setCell ⟨p, 1, none⟩ s').setCell ⟨p, 2, none⟩ d') := by
  refine ⟨?_, (((But.refl _ _).setCell 0 none _).setCell 1 none _).setCell 2 none _⟩
  have := heap_setCell (heap_setCell (heap_setCell h 0 (.int .i64 n')) 1 s') 2 d'
  unfold ConfAt
  simpa using this
theorem ConfAt.setD {T : TypeId} {w : World} {p : Nat} {n : Int} {s d : Value} (h : ConfAt T w p n s d) (d' : Value) : ConfAt T (w.setCell ⟨p, 2, none⟩ d') p n s d' := by
  have := heap_setCell h 2 d'
  unfold ConfAt
  simpa using this
theorem ConfAt.setS {T : TypeId} {w : World} {p : Nat} {n : Int} {s d : Value} (h : ConfAt T w p n s d) (s' : Value) : ConfAt T (w.setCell ⟨p, 1, none⟩ s') p n s' d := by
  have := heap_setCell h 1 s'
  unfold ConfAt
  simpa using this
theorem ConfAt.setN {T : TypeId} {w : World} {p : Nat} {n : Int} {s d : Value} (h : ConfAt T w p n s d) (n' : Int) : ConfAt T (w.setCell ⟨p, 0, none⟩ (.int .i64 n')) p n' s d := by
  have := heap_setCell h 0 (.int .i64 n')
  unfold ConfAt
  simpa using this
theorem ConfAt.later {T : TypeId} {w : World} {p : Nat} {n : Int} {s d : Value} {o : Obj} (h : ConfAt T w p n s d) : p ≤ (w.alloc o).heap.size := by have := h.lt; rw [World.size_alloc]; omega
theorem ConfAt.grown {T : TypeId} {w w' : World} {p : Nat} {n : Int} {s d : Value} {o : Option Nat} (h : ConfAt T w p n s d) (hg : w.grownBy w' o) (hne : some p ≠ o) : ConfAt T w' p n s d := (hg.block p h.lt hne).trans h
theorem confZero (T : TypeId) (w : World) : ConfAt T (w.alloc (.cells #[.int .i64 0, .slice none 0 0, .slice none 0 0] T)) w.heap.size 0 (.slice none 0 0) (.slice none 0 0) := ConfAt.new T w 0 _ _
theorem ints0 (w : World) : Ints w (.slice none 0 0) [] := Sl.ofOwn (World.ownsRow_nil w 0 3 1)
theorem irows0 (w : World) : IRows w (.slice none 0 0) [] := (OwnRR.nil w 0).rows
theorem cutOf_le6 {l t : List UInt8} (h : Crc.cutOf l = some t) : t.length ≤ l.length := by
  unfold Crc.cutOf at h
  split at h
  · cases h
  · split at h
    · injection h with h
      rw [← h, List.length_take]
      omega
    · cases h
theorem Term.gok_eq {m1 m2 nd : Int} {l : List UInt8} {S : Pack.St} {c : Term.C} (h1 : (Term.gD m1 m2 nd l).1 = S) (h2 : Term.gread m1 m2 nd l = c) : Term.gok m1 m2 nd l = ((S.done == 0) && Term.right c) := by unfold Term.gok; rw [h1, h2]

set_option maxHeartbeats 16000000 in
theorem decode6_any (v : Value) (l : List UInt8) (w : World) (hv : Bytes w v l) (hl : l.length ≤ 200000) :
    Calls Try.prog 17 #[v] w (GivesDec6 w l) := by
  have hb0 := build_conf0
  have hb1 := build_conf2
  have HV := Lib.hid hv
  obtain ⟨a, cap, rfl, hcap, hmax, hn, hc⟩ := hv.open
  unfold maxLen at hmax
  clear hv hc
  unfold GivesDec6
  have hno := fun h => Term.dec_cut (b := l) h
  have hyes := fun t h1 h2 => Term.dec_gok (m1 := 7) (m2 := 3) (nd := 15) (b := l) (l := t) h1 h2
  have hnot := fun t h1 h2 => Term.dec_gnot (m1 := 7) (m2 := 3) (nd := 15) (by decide) (by decide) (by decide) (b := l) (l := t) h1 h2
  have hlen := fun t h => cutOf_le6 (l := l) (t := t) h
  obtain ⟨D, hD⟩ : ∃ D, Term.dec l = D := ⟨_, rfl⟩
  obtain ⟨C, hC⟩ : ∃ C, Crc.cutOf l = C := ⟨_, rfl⟩
  rw [hC] at hno hyes hnot hlen
  rw [hD] at hno hyes hnot ⊢
  have HC := Lib.hid hC
  have HNO := Lib.hid hno
  have HYES := Lib.hid hyes
  have HNOT := Lib.hid hnot
  have HLEN := Lib.hid hlen
  clear hC hD hno hyes hnot hlen
  have hE0 : Ext w (w.alloc (.cells #[.int .i64 0, .slice none 0 0, .slice none 0 0] 26)) := Ext.alloc _ _
  have HR0 := Lib.hid (confZero 26 w)
  go_enter Try.func17, Try.ntmps17
  go_wp2_with fail
  refine (new_any _).mono ?_
  rintro e w1 ⟨rfl, ht1, hE1⟩
  rw [World.size_alloc] at ht1 ⊢
  have r1 := Lib.hid (HR0.out.ext hE1)
  have e1 := hE0.trans hE1
  go_wp2_with fail
  have hcall := cut_any _ 0 0 _ l _ ht1 (.inl rfl) (HV.out.below e1) hl
  rw [HC.out] at hcall
  refine hcall.mono ?_
  clear hcall
  intro e w2 hq
  obtain ⟨-, hB2, hcut⟩ := hq
  have e2 : Ext w w2 := Below.trans (B := w.heap.size) e1 (hB2.below (Nat.le_succ _) e1.size)
  have r2 := Lib.hid (r1.out.but hB2 (by simp))
  obtain ⟨c0, c1, c2⟩ := r2.out.cells
  have fr : ∀ i, w2.frozen? ⟨w.heap.size, i, none⟩ = false := fun i => frozen_of_heap r2.out i
  cases C with
  | none =>
    subst hcut
    have hno := HNO.out rfl
    subst hno
    go_wp2_with fail
    have hs := r2.out.setAll 0 (.slice none 0 0) (.slice none 0 0)
    exact bodyPost_ret (v := .tuple #[confV 0 (.slice none 0 0) (.slice none 0 0), .int .i64 60]) (by simp [results, Try.results17, go_sem, c0, c1, c2, fr, confV]) rfl
      ⟨_, rfl, ⟨_, _, rfl, ints0 _, irows0 _⟩, Below.trans (B := w.heap.size) e2 (hs.2.below (Nat.le_refl _) e2.size)⟩
  | some t =>
    obtain ⟨v2, rfl, hb2⟩ := hcut
    have htl : t.length ≤ l.length := HLEN.out t rfl
    obtain ⟨A1, nA, hA⟩ : ∃ A1 nA, Term.gA t = (A1, nA) := ⟨_, _, rfl⟩
    obtain ⟨B1, nB, hB⟩ : ∃ B1 nB, Term.gB 7 15 t = (B1, nB) := ⟨_, _, rfl⟩
    obtain ⟨C1, m, hC⟩ : ∃ C1 m, Term.gC 7 15 t = (C1, m) := ⟨_, _, rfl⟩
    have hA' : Pack.St.num ⟨t, 0⟩ 64 = (A1, nA) := hA
    have hB' : Term.gRow 7 15 A1 = (B1, nB) := by rw [← hB]; unfold Term.gB; rw [hA]
    have hC' : B1.num 8 = (C1, m) := by rw [← hC]; unfold Term.gC; rw [hB]
    have hm8 : m ≤ 8 := by
      have := numMost B1 8 (by omega)
      rw [hC'] at this
      simp only at this
      omega
    have HGR := Lib.hid (show (Term.gD 7 3 15 t).1 = (Term.gRows 3 15 C1 m).1 ∧ Term.gread 7 3 15 t = ⟨(nA : Int), nB, (Term.gRows 3 15 C1 m).2⟩ by unfold Term.gread Term.gD; rw [hA, hB, hC]; exact ⟨rfl, rfl⟩)
    have HA := Lib.hid hA'
    have HB := Lib.hid hB'
    have HCC := Lib.hid hC'
    clear hA hB hC hA' hB' hC' c0 c1 c2 fr
    obtain ⟨a2, n2, k2, rfl⟩ := hb2.isSlice
    go_wp2_with fail
    refine (newReader_any _ t _ hb2 (by omega)).mono ?_
    rintro e w3 ⟨p, rfl, hp, hr3, hE3⟩
    have e3 := e2.trans hE3
    have r3 := Lib.hid (r2.out.ext hE3)
    have hq0 : w.heap.size ≠ p := by have := r2.out.lt; omega
    have hwp : w.heap.size ≤ p := Nat.le_trans e2.size hp
    go_wp2_with fail
    refine (num_any p _ 64 _ hr3).mono ?_
    rw [HA.out]
    rintro e w4 ⟨rfl, hB4, hr4⟩
    obtain ⟨x, hx⟩ : ∃ x : Int, (nA : Int) = x := ⟨_, rfl⟩
    have HX := Lib.hid hx
    dsimp only
    rw [hx]
    rw [hx] at HGR
    clear hx
    have r4 := Lib.hid (r3.out.but hB4 hq0)
    have e4 : Ext w w4 := Below.trans (B := w.heap.size) e3 (hB4.below hwp e3.size)
    go_wp2_with fail
    refine (readRow6_any p 7 _ _ hr4 (by omega)).mono ?_
    rw [show (((7 : Nat) : Int)) = 7 from rfl, HB.out]
    rintro e w5 ⟨v5, rfl, ho5, hB5, hr5⟩
    obtain ⟨sa, sn, sc, rfl⟩ := ho5.slice
    have r5 := Lib.hid (r4.out.but hB5 hq0)
    have e5 : Ext w w5 := Below.trans (B := w.heap.size) e4 (hB5.below hwp e4.size)
    have O5 := Lib.hid (ho5.lower e4.size)
    have hpq : p < w5.heap.size := hr5.lt
    have hE6 : Ext w5 (w5.alloc (.cells #[.int .i64 x, .slice sa sn sc, .slice none 0 0] 26)) := Ext.alloc _ _
    have x6 := Lib.hid (ConfAt.new 26 w5 x (.slice sa sn sc) (.slice none 0 0))
    have r6 := Lib.hid (r5.out.ext hE6)
    have e6 := e5.trans hE6
    have O6 := Lib.hid (O5.out.ext hE6)
    have R6 := Lib.hid (hr5.ext hE6)
    have hwq : w.heap.size < w5.heap.size := by have := r5.out.lt; omega
    clear ho5 hr5 hr4 hr3
    go_wp2_with fail
    refine (num_any p _ 8 _ R6.out).mono ?_
    rw [HCC.out]
    rintro e w7 ⟨rfl, hB7, hr7⟩
    have hpr6 : ∃ q, w5.heap.size = q := ⟨_, rfl⟩
    obtain ⟨q, hq⟩ := hpr6
    rw [hq] at x6 hpq hwq ⊢
    obtain ⟨ra, rn, rc, hpp⟩ := R6.out.heapOf
    have x7 := Lib.hid (x6.out.but hB7 (by omega))
    have r7 := Lib.hid (r6.out.but hB7 hq0)
    have O7 := Lib.hid (O6.out.but hpp (by decide) hB7)
    have e7 : Ext w w7 := Below.trans (B := w.heap.size) e6 (hB7.below hwp e6.size)
    have R7 := Lib.hid hr7
    clear hq hpp hr7
    go_wp2_with fail
    go_loopw [26] (fun i wr => ∃ k : Nat, k ≤ m ∧ i = .int .i64 k ∧ ∃ dv, Hid (ConfAt 26 wr q x (.slice sa sn sc) dv) ∧ Hid (OwnRR wr q dv (Term.gRows 3 15 C1 k).2) ∧ Hid (OwnI wr w.heap.size (.slice sa sn sc) nB) ∧ Hid (RD wr p (Term.gRows 3 15 C1 k).1) ∧ Hid (ConfAt 26 wr w.heap.size 0 (.slice none 0 0) (.slice none 0 0)) ∧ Ext w wr) (fun i _ => m - (intOf i).toNat)
    case atStart => exact ⟨0, by omega, rfl, _, x7, OwnRR.nil _ _, O7, R7, r7, e7⟩
    case round =>
      obtain ⟨k, hk, rfl, dv, X, O, OS, HR, R, hE⟩ := hrel
      by_cases hlt : k < m
      · obtain ⟨N, hN⟩ : ∃ N, Term.gRow 3 15 (Term.gRows 3 15 C1 k).1 = N := ⟨_, rfl⟩
        have HNX := Lib.hid (show Term.gRows 3 15 C1 (k + 1) = (N.1, (Term.gRows 3 15 C1 k).2 ++ [N.2]) by
          show ((Term.gRow 3 15 (Term.gRows 3 15 C1 k).1).1, (Term.gRows 3 15 C1 k).2 ++ [(Term.gRow 3 15 (Term.gRows 3 15 C1 k).1).2]) = _
          rw [hN])
        have HN := Lib.hid hN
        have HK := Lib.hid (show (Term.gRows 3 15 C1 k).2.length = k from Term.gRows_len _ _ _ _)
        have hqr : q < wr.heap.size := X.out.lt
        obtain ⟨pa, pn, pc, hpp⟩ := HR.out.heapOf
        have HPP := Lib.hid hpp
        obtain ⟨xs, h1, h2, h3⟩ := O.out
        rw [HK.out] at h1
        have H1 := Lib.hid h1
        have H2 := Lib.hid h2
        have H3 := Lib.hid h3
        have hk1 : ∀ u : Value, k + [u].length ≤ maxLen := fun u => by simp [maxLen]; omega
        have hk2 : ∀ u : Value, (k + [u].length) * 24 ≤ 140737488355328 := fun u => by simp; omega
        have HK1 := Lib.hid hk1
        have HK2 := Lib.hid hk2
        have HCL := Lib.hid (fun (w' : World) (h : ConfAt 26 w' q x (.slice sa sn sc) dv) => h.cells.2.2)
        have HOWN1 := Lib.hid (show ∀ (w6 : World) (u : Value), But p wr.drew w6 → (w6.alloc (.cells #[u] 22)).ownsRow q 22 1 dv k xs from fun w6 u hB => (rowBut H1.out.drew (rowBeside H1.out.drew (show wr.drew.heap[p]? = _ from HPP.out) (by decide)) hB).alloc _)
        have HBS := Lib.hid (rowBeside H1.out X.out (by decide))
        have hc1 := X.out.cells.2.2
        clear hN hpp h1 h2 h3 hk1 hk2
        go_wp2_with fail
        go_region_law
          (first
            | (go_simp; go_at_call 35; refine (readRow6_any p 3 _ _ (HR.out.ext (Ext.drew wr)) (by omega)).mono ?_; rw [show (((3 : Nat) : Int)) = 3 from rfl, HN.out]; rintro e w8 ⟨u8, rfl, hu8, hB8, hr8⟩; obtain ⟨ua, un, uc, rfl⟩ := hu8.slice; have U8 := Lib.hid hu8; have R8 := Lib.hid hr8; clear hu8 hr8; have x8 := Lib.hid (ConfAt.but (X.out.ext (Ext.drew wr)) hB8 (by omega)); have hc8 := HCL.out w8 x8.out; have hc8a := HCL.out (w8.alloc (.cells #[.slice ua un uc] 22)) (x8.out.ext (Ext.alloc _ _)); have hq8 := ConfAt.later (o := .cells #[.slice ua un uc] 22) x8.out)
            | (rw [if_pos (by rfl)]; refine wp_app (.tmp 29) (.tmp 32) tRow rfl rfl rfl (HOWN1.out _ _ hB8) (slOne w8 (.slice ua un uc) 22) (oneSlice ⟨_, _, _, rfl⟩) (HK1.out _) (HK2.out _) hq8 ?_; intro v9 w9 hown9 hg9; have hg9 : (w8.alloc (.cells #[.slice ua un uc] 22)).grownBy w9 dv.ownBlock := hg9; obtain ⟨a9, n9, c9, rfl⟩ := ownSlice hown9; have x9 := Lib.hid (ConfAt.grown (x8.out.ext (Ext.alloc _ _)) hg9 HBS.out); have hc9 := HCL.out w9 x9.out; have hf9 := frozen_of_heap x9.out 2))
        all_goals
          have hrow1 := HOWN1.out w8 (.slice ua un uc) hB8
          have x10 := Lib.hid (x9.out.setD (.slice a9 n9 c9))
          have hbs := butSet w9 q 2 (.slice a9 n9 c9)
          have hpd : wr.drew.heap[p]? = some (.cells #[.slice pa pn pc, .int .i64 (Term.gRows 3 15 C1 k).1.err] 95 (0, 0)) := HPP.out
          have rr9 : OwnRR w9 q (.slice a9 n9 c9) ((Term.gRows 3 15 C1 k).2 ++ [N.2]) := by
            refine OwnRR.snoc (w := w8.alloc (.cells #[.slice ua un uc] 22)) (v := dv) (xs := xs) (by rw [HK.out]; exact hrow1) H2.out (fun i hi hi' => (OwnI.but (((H3.out i hi hi').ext (Ext.drew wr))) hpd (by decide) hB8).ext (Ext.alloc _ _)) ((U8.out.ext (Ext.alloc _ _)).lower (Nat.le_of_lt hqr)) hg9 (by rw [HK.out]; exact hown9)
          have rr10 := Lib.hid (rr9.but x9.out (by decide) (by decide) hbs)
          have s9 : OwnI w9 w.heap.size (.slice sa sn sc) nB := ((OwnI.but (OS.out.ext (Ext.drew wr)) hpd (by decide) hB8).ext (Ext.alloc _ _)).grown hrow1 hg9
          have s10 := Lib.hid (s9.but x9.out (by decide) hbs)
          have hr10 := ((R8.out.ext (Ext.alloc w8 (.cells #[.slice ua un uc] 22))).grownRow hrow1 hg9 hpq).setBehind (o := 2) (v := .slice a9 n9 c9) hpq
          have hq0q : some w.heap.size ≠ dv.ownBlock := fun e => by have := (hrow1.lt _ e.symm).1; omega
          have hr0 := (ConfAt.grown ((ConfAt.but (R.out.ext (Ext.drew wr)) hB8 hq0).ext (Ext.alloc w8 (.cells #[.slice ua un uc] 22))) hg9 hq0q)
          have HR0 := Lib.hid (hr0.but hbs (by omega))
          have hE8 : Ext w w8 := Below.trans (B := w.heap.size) (hE.trans (Ext.drew wr)) (hB8.below hwp (hE.trans (Ext.drew wr)).size)
          have hE9 : Ext w w9 := Below.grown (hE8.trans (Ext.alloc w8 (.cells #[.slice ua un uc] 22))) hg9 (hE8.trans (Ext.alloc w8 (.cells #[.slice ua un uc] 22))).size (fun j hj => by have := (hrow1.lt j hj).1; omega)
          have hE10 : Ext w (w9.setCell ⟨q, 2, none⟩ (.slice a9 n9 c9)) := Below.setCell hE9 (p := ⟨q, 2, none⟩) (Nat.le_of_lt hwq) _
          have RD10 := Lib.hid (show RD (w9.setCell ⟨q, 2, none⟩ (.slice a9 n9 c9)) p (Term.gRows 3 15 C1 (k + 1)).1 by rw [HNX.out]; exact hr10)
          rw [← show (Term.gRows 3 15 C1 (k + 1)).2 = (Term.gRows 3 15 C1 k).2 ++ [N.2] by rw [HNX.out]] at rr10
          clear hrow1 hbs hpd rr9 s9 hr10 hr0 hown9 hg9 hc9 hf9 hc8 hc8a hc1
          go_wp2
          go_roundw
          case rel => exact ⟨k + 1, by omega, by go_num, _, x10, rr10, s10, RD10, HR0, hE10⟩
          case measure => simp [intOf]; omega
      · obtain rfl : k = m := by omega
        obtain ⟨S2, hS2⟩ : ∃ S2, (Term.gRows 3 15 C1 k).1 = S2 := ⟨_, rfl⟩
        obtain ⟨L2, hL2⟩ : ∃ L2, (Term.gRows 3 15 C1 k).2 = L2 := ⟨_, rfl⟩
        rw [hS2, hL2] at HGR
        rw [hL2] at O
        rw [hS2] at HR
        have HOK := Lib.hid (Term.gok_eq HGR.out.1 HGR.out.2)
        have HRD := Lib.hid HGR.out.2
        have HXB := Lib.hid (show ∀ w', Ext wr w' → IsConf w' (confV x (.slice sa sn sc) dv) ⟨x, nB, L2⟩ from fun w' h => ⟨_, _, rfl, (OS.out.ext h).ints, (O.out.ext h).rows⟩)
        obtain ⟨da, dn, dc, rfl⟩ := O.out.slice
        clear hS2 hL2 HGR
        go_wp2_with fail
        refine (end_any p _ _ HR.out).mono ?_
        obtain ⟨d, hdd⟩ : ∃ d, S2.done = d := ⟨_, rfl⟩
        rw [hdd] at HOK ⊢
        clear hdd
        rintro e w10 ⟨rfl, rfl⟩
        by_cases hd : d = 0
        · subst hd
          have HOK2 := Lib.hid (show Term.gok 7 3 15 t = Term.right ⟨x, nB, L2⟩ by rw [HOK.out]; rfl)
          obtain ⟨d0, d1, d2⟩ := X.out.cells
          clear HOK
          go_wp2_with fail
          refine (right6_any _ ⟨x, nB, L2⟩ _ (HXB.out _ (Ext.refl _))).mono ?_
          rintro e w11 ⟨rfl, hE11⟩
          have r11 := Lib.hid (R.out.ext hE11)
          have x11 := Lib.hid (X.out.ext hE11)
          have e11 := hE.trans hE11
          clear d0 d1 d2
          obtain ⟨c0, c1, c2⟩ := r11.out.cells
          obtain ⟨d0, d1, d2⟩ := x11.out.cells
          have fr : ∀ i, w11.frozen? ⟨w.heap.size, i, none⟩ = false := fun i => frozen_of_heap r11.out i
          cases hrr : Term.right ⟨x, nB, L2⟩ with
          | false =>
            have hno := HNOT.out t rfl (HOK2.out.trans hrr)
            subst hno
            clear hrr HOK2
            go_wp2_with fail
            have hs := r11.out.setAll 0 (.slice none 0 0) (.slice none 0 0)
            exact bodyPost_ret (v := .tuple #[confV 0 (.slice none 0 0) (.slice none 0 0), .int .i64 60]) (by simp [results, Try.results17, go_sem, c0, c1, c2, fr, confV]) rfl
              ⟨_, rfl, ⟨_, _, rfl, ints0 _, irows0 _⟩, Below.trans (B := w.heap.size) e11 (hs.2.below (Nat.le_refl _) e11.size)⟩
          | true =>
            have hyes := HYES.out t rfl (HOK2.out.trans hrr)
            rw [HRD.out] at hyes
            subst hyes
            clear hrr HOK2
            go_wp2_with fail
            have hs := r11.out.setAll x (.slice sa sn sc) (.slice da dn dc)
            refine bodyPost_ret (v := .tuple #[confV x (.slice sa sn sc) (.slice da dn dc), .int .i64 0]) (by simp [results, Try.results17, go_sem, c0, c1, c2, d0, d1, d2, fr, confV]) rfl
              ⟨_, rfl, ⟨_, _, rfl, ?_, ?_⟩, Below.trans (B := w.heap.size) e11 (hs.2.below (Nat.le_refl _) e11.size)⟩
            · exact ((OS.out.ext hE11).but r11.out (by decide) hs.2).ints
            · exact ((O.out.ext hE11).but r11.out (by decide) (by decide) hs.2).rows
        · have hno := HNOT.out t rfl (by rw [HOK.out, show (d == 0) = false from beq_eq_false_iff_ne.2 hd]; rfl)
          subst hno
          clear HOK
          obtain ⟨c0, c1, c2⟩ := R.out.cells
          have fr : ∀ i, wr.frozen? ⟨w.heap.size, i, none⟩ = false := fun i => frozen_of_heap R.out i
          have hdn : (d != 0) = true := by rw [bne_iff_ne]; exact hd
          clear hd
          go_wp2_with fail
          have hs := R.out.setAll 0 (.slice none 0 0) (.slice none 0 0)
          exact bodyPost_ret (v := .tuple #[confV 0 (.slice none 0 0) (.slice none 0 0), .int .i64 60]) (by simp [results, Try.results17, go_sem, c0, c1, c2, fr, confV]) rfl
            ⟨_, rfl, ⟨_, _, rfl, ints0 _, irows0 _⟩, Below.trans (B := w.heap.size) hE (hs.2.below (Nat.le_refl _) hE.size)⟩
end Go.Proofs.Ytpfodkgncachiaa
