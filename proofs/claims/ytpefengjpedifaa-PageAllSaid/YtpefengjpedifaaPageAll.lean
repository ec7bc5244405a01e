/-
  PageAll: every call of any script is answered as the document says; what is there, and what is safe, is what it says: for every input the statement's function returns true, and leaves what came in as it was.
-/
import Derived.Test.YtpefengjpedifaaPgS8
namespace Go.Proofs.Ytpefengjpedifaa
set_option linter.unusedSimpArgs false
set_option linter.unusedVariables false
open Go.ChangeShapes Go.WideShapes Go.ChangeAt Go.RowKit

theorem Txts.k8 {a b : World} {v : Value} {l : List (List UInt8)} (h : Txts a v l) (k : K8 a b) : Txts b v l := h.keep (fun i cs fr hi => k.2 i cs _ fr hi (by decide) (by decide) (by decide))

theorem IsSto.butT {w w' : World} {B p q : Nat} {va vp : Value} {S : Page.St} {cs : Array Value} {t : TypeId} {fr : Nat × Nat} (h : IsSto w B p va vp S) (hq : w.heap[q]? = some (.cells cs t fr)) (h1 : t ≠ 79) (h2 : t ≠ 5) (h3 : t ≠ 3) (hb : But q w w') : IsSto w' B p va vp S :=
  ⟨(hb.block p h.lt (fun e => by subst e; rw [h.heap] at hq; injection hq with hq; injection hq with _ e _; exact h1 e.symm)).trans h.heap, rowBut h.all (rowBeside h.all hq h2) hb, rowBut h.places (rowBeside h.places hq h3) hb, h.ok⟩

set_option maxRecDepth 100000 in
set_option maxHeartbeats 20000000 in
theorem pageAll_walk (b a : Option Addr) (nb cb n c : Nat) (m : List UInt8) (l : List Page.Op) (W : World) (h1 : Bytes W (.slice b nb cb) m) (h0 : Ops W (.slice a n c) l) (hf : ∀ o ∈ l, o.Fits) :
    Calls Try.prog 3 #[.slice b nb cb, .slice a n c] W fun e W' => e = .returned (.bool true) ∧ Below W.heap.size W W' := by
  obtain ⟨hn, hnc, hc⟩ := h0.len
  obtain ⟨hnb, hnbc, hcb⟩ := h1.len
  have HV := Lib.hid h0
  have HF := Lib.hid hf
  have HM := Lib.hid h1
  obtain ⟨N, hN⟩ : ∃ N, l.length = N := ⟨_, rfl⟩
  rw [hN] at hn
  obtain rfl := hn
  have HN := Lib.hid hN
  have HNB := Lib.hid hnb
  have hfew := few8_any _ l W h0 hf
  have HFEW := Lib.hid hfew
  clear h0 h1 hN hnb hf hfew
  by_cases hbig : 3000 < nb
  · go_enter Try.func3, Try.ntmps3
    go_wp2_with fail
    refine (alive8_any _).mono ?_
    rintro e w3 ⟨rfl, hE3⟩
    go_wp2_with fail
    go_ret
    exact ⟨rfl, hE3⟩
  go_enter Try.func3, Try.ntmps3
  go_wp2_with fail
  refine HFEW.out.mono ?_
  rintro e w0 ⟨rfl, hE0⟩
  have HE0 := Lib.hid hE0
  clear hE0
  cases hfw : Page.few l with
  | false =>
    go_wp2_with fail
    refine (alive8_any _).mono ?_
    rintro e w3 ⟨rfl, hE3⟩
    go_wp2_with fail
    go_ret
    exact ⟨rfl, HE0.out.trans hE3⟩
  | true =>
    have hmass : Page.mass l ≤ 20000 := by
      unfold Page.few at hfw
      rw [Bool.and_eq_true] at hfw
      exact of_decide_eq_true hfw.2
    have HMASS := Lib.hid hmass
    clear hfw hmass
    go_wp2_with fail
    refine (new8_any _ m w0 (HM.out.below HE0.out)).mono ?_
    rintro e w1 ⟨va1, vp1, rfl, hs1, hE1⟩
    have HS1 := Lib.hid (And.intro hs1 (HE0.out.trans hE1))
    have HB1 := Lib.hid HE0.out.size
    obtain ⟨P, hP⟩ : ∃ P, w0.heap.size = P := ⟨_, rfl⟩
    rw [hP] at HS1 HB1 ⊢
    clear hs1 hE1 hP
    go_wp2_with fail
    refine (newRef8_any _ m w1 (HM.out.below HS1.out.2) (by have := HNB.out; omega)).mono ?_
    rintro e w2 ⟨u, rfl, hr2, hE2⟩
    obtain ⟨U, hU⟩ : ∃ U, Page.fromBytes m = U := ⟨_, rfl⟩
    rw [hU] at hr2 HS1
    have HS2 := Lib.hid (And.intro ((HS1.out.1.ext hE2).lower HB1.out) (HS1.out.2.trans hE2))
    obtain ⟨ra, rc, rfl, hT2⟩ := hr2
    have HT2 := Lib.hid hT2
    obtain ⟨q, hq⟩ : ∃ q, w2.heap.size = q := ⟨_, rfl⟩
    have hqW : W.heap.size ≤ q := by have := HS2.out.2.size; omega
    have HQ := Lib.hid hq
    simp only [refStoV]
    clear hU hE2 hT2 hq
    go_wp2_with fail
    rw [HQ.out]
    have hE3 := Ext.alloc w2 (.cells #[.slice ra U.l.length rc, .int .i64 (U.k : Nat), .bool U.off] 30)
    have hq3 := heap_alloc_new w2 (.cells #[.slice ra U.l.length rc, .int .i64 (U.k : Nat), .bool U.off] 30)
    rw [HQ.out] at hq3
    refine (stands8_any (HS2.out.1.ext hE3) _ ⟨ra, rc, rfl, HT2.out.ext hE3⟩).mono ?_
    rintro e w4 ⟨rfl, hE4⟩
    have HI0 := Lib.hid (And.intro ((HS2.out.1.ext hE3).ext hE4) (And.intro (heap_ext hq3 hE4) (And.intro ((HT2.out.ext hE3).ext hE4) ((HS2.out.2.trans hE3).trans hE4))))
    clear hE3 hq3 hE4
    go_wp2_with fail
    go_loopw [5, 32] (fun s i wr => ∃ (k p : Nat) (va vp : Value) (S : Page.St) (ra : Option Addr) (rc : Nat), k ≤ n ∧ s = .pointer (some ⟨p, 0, none⟩) ∧ i = .int .i64 k ∧ W.heap.size ≤ p ∧ Hid (IsSto wr W.heap.size p va vp S ∧ wr.heap[q]? = some (.cells #[.slice ra S.l.length rc, .int .i64 (S.k : Nat), .bool S.off] 30 (0, 0)) ∧ Txts wr (.slice ra S.l.length rc) S.l ∧ Ext W wr)) (fun _ i _ => n - (intOf i).toNat)
    case atStart => exact ⟨0, P, _, _, U, ra, rc, by omega, rfl, rfl, HB1.out, HI0⟩
    case round =>
      clear HI0 HS1 HS2 HT2
      obtain ⟨k, p, va, vp, S, ra, rc, hk, rfl, rfl, hp, hI⟩ := hrel
      by_cases hlt : k < n
      · skip
        have hkl : k < l.length := by rw [HN.out]; exact hlt
        obtain ⟨a', cap', e', _, _, _, hc⟩ := HV.out
        obtain ⟨b', off, rfl, t, p0, p1, p2, p3, ht⟩ := hc k hkl
        have p0 := cell_below p0 hI.out.2.2.2
        have p1 := cell_below p1 hI.out.2.2.2
        have p2 := cell_below p2 hI.out.2.2.2
        have p3 := cell_below p3 hI.out.2.2.2
        injection e' with e1 e2 e3
        subst e1
        obtain ⟨at', nt, ct, rfl⟩ := ht.isSlice
        have hfk := HF.out l[k] (List.getElem_mem _)
        have hml := Page.mass_mem (List.getElem_mem hkl)
        obtain ⟨o, ho⟩ : ∃ o, l[k] = o := ⟨_, rfl⟩
        rw [ho] at p0 p1 p3 ht hfk hml
        clear hc e2 e3 ho
        obtain ⟨o0, o1, ob, o3⟩ := o
        simp only at p0 p1 p3 ht hml
        have hml2 : ob.length ≤ 65000 := by have := HMASS.out; omega
        have HFK := Lib.hid (And.intro hfk hml2)
        obtain ⟨w2, hw2⟩ : ∃ w2, wr.alloc (.cells #[.int .i64 o0, .int .i64 o1, .slice at' nt ct, .bool o3] 34) = w2 := ⟨_, rfl⟩
        have hE2 : Ext wr w2 := by rw [← hw2]; exact Ext.alloc _ _
        have ho2 : w2.heap[wr.heap.size]? = some (.cells #[.int .i64 o0, .int .i64 o1, .slice at' nt ct, .bool o3] 34 (0, 0)) := by rw [← hw2]; exact heap_alloc_new _ _
        have hq2 := heap_ext hI.out.2.1 hE2
        have hqlt : q < wr.heap.size := (Array.getElem?_eq_some_iff.1 hI.out.2.1).1
        have HW2 := Lib.hid hw2
        have HT := Lib.hid ht
        have HS2 := Lib.hid (And.intro (hI.out.1.ext hE2) (And.intro (hI.out.2.2.1.ext hE2) (hI.out.2.2.2.trans hE2)))
        obtain ⟨OB, hOB⟩ : ∃ OB, wr.heap.size = OB := ⟨_, rfl⟩
        have HOB := Lib.hid hOB
        rw [hOB] at ho2 hqlt
        have HO2 := Lib.hid ho2
        have HQ2 := Lib.hid hq2
        clear ht hfk hml hml2 hw2 hE2 hOB
        go_upto_region 9 with fail
        rw [HW2.out, HOB.out]
        have f0 : w2.cell? ⟨OB, 0, none⟩ = some (.int .i64 o0) := cell_of_heap ho2 0
        have f1 : w2.cell? ⟨OB, 1, none⟩ = some (.int .i64 o1) := cell_of_heap ho2 1
        have f2 : w2.cell? ⟨OB, 2, none⟩ = some (.slice at' nt ct) := cell_of_heap ho2 2
        have f3 : w2.cell? ⟨OB, 3, none⟩ = some (.bool o3) := cell_of_heap ho2 3
        have g0 : w2.cell? ⟨q, 0, none⟩ = some (.slice ra S.l.length rc) := cell_of_heap hq2 0
        have g1 : w2.cell? ⟨q, 1, none⟩ = some (.int .i64 (S.k : Nat)) := cell_of_heap hq2 1
        have g2 : w2.cell? ⟨q, 2, none⟩ = some (.bool S.off) := cell_of_heap hq2 2
        clear ho2 hq2 p0 p1 p2 p3
        go_wp2_with fail
        refine (doRef8_any (S := S) _ w2 ⟨ra, rc, rfl, HS2.out.2.1⟩ HS2.out.1.ok ⟨o0, o1, ob, o3⟩ (.slice at' nt ct) (HT.out.below HS2.out.2.2) HFK.out.1 HFK.out.2).mono ?_
        rintro e w3 ⟨u, rfl, hr3, hE3⟩
        clear f0 f1 f2 f3 g0 g1 g2
        obtain ⟨S', hS'⟩ : ∃ S', (Page.step S ⟨o0, o1, ob, o3⟩).1 = S' := ⟨_, rfl⟩
        obtain ⟨r, hr⟩ : ∃ r, (Page.step S ⟨o0, o1, ob, o3⟩).2 = r := ⟨_, rfl⟩
        rw [hS'] at hr3
        rw [hr]
        obtain ⟨ra', rc', rfl, hT3⟩ := hr3
        obtain ⟨rn, re, rb, ri⟩ := r
        simp only [refStoV, ansV, ansCells]
        have HSR := Lib.hid (And.intro hS' hr)
        obtain ⟨X, hX⟩ : ∃ X, S'.l.length = X := ⟨_, rfl⟩
        obtain ⟨Y, hY⟩ : ∃ Y : Int, ((S'.k : Nat) : Int) = Y := ⟨_, rfl⟩
        obtain ⟨Z, hZ⟩ : ∃ Z, S'.off = Z := ⟨_, rfl⟩
        rw [hX] at hT3
        rw [hX, hY, hZ]
        have HXYZ := Lib.hid (And.intro hX (And.intro hY hZ))
        clear hS' hr hX hY hZ
        obtain ⟨RB, hRB⟩ : ∃ RB, w3.heap.size = RB := ⟨_, rfl⟩
        obtain ⟨w4, hw4⟩ : ∃ w4, (w3.alloc (.cells #[.slice ra' X rc', .int .i64 Y, .bool Z] 30)).alloc (.cells #[.int .i64 rn, .int .i64 re, .string ⟨rb.toArray⟩, .bool ri] 37) = w4 := ⟨_, rfl⟩
        have hE4 : Ext w3 w4 := by rw [← hw4]; exact (Ext.alloc _ _).trans (Ext.alloc _ _)
        have hRB4 : w4.heap[RB]? = some (.cells #[.slice ra' X rc', .int .i64 Y, .bool Z] 30 (0, 0)) := by
          rw [← hw4, ← hRB]
          exact (Below.heap_alloc _ _ _ (by simp)).trans (heap_alloc_new _ _)
        have hAB4 : w4.heap[RB + 1]? = some (.cells #[.int .i64 rn, .int .i64 re, .string ⟨rb.toArray⟩, .bool ri] 37 (0, 0)) := by
          rw [← hw4, ← hRB]
          have := heap_alloc_new (w3.alloc (.cells #[.slice ra' X rc', .int .i64 Y, .bool Z] 30)) (.cells #[.int .i64 rn, .int .i64 re, .string ⟨rb.toArray⟩, .bool ri] 37)
          simpa using this
        have HW4 := Lib.hid hw4
        have hlt3 : OB < RB := by
          have h1 := (Array.getElem?_eq_some_iff.1 HO2.out).1
          have := hE3.size
          omega
        have HE34 := Lib.hid (And.intro (hE3.trans hE4) hT3)
        have HRB := Lib.hid hRB
        clear hw4 hE3 hE4 hT3 hRB
        have HRB4 := Lib.hid hRB4
        have HAB4 := Lib.hid hAB4
        clear hRB4 hAB4
        go_upto_region 10 with fail
        rw [HW4.out, HRB.out]
        have hq4 := heap_ext HQ2.out HE34.out.1
        have r0 : w4.cell? ⟨RB, 0, none⟩ = some (.slice ra' X rc') := cell_of_heap HRB4.out 0
        have r1 : w4.cell? ⟨RB, 1, none⟩ = some (.int .i64 Y) := cell_of_heap HRB4.out 1
        have r2 : w4.cell? ⟨RB, 2, none⟩ = some (.bool Z) := cell_of_heap HRB4.out 2
        have g0 : w4.cell? ⟨q, 0, none⟩ = some (.slice ra S.l.length rc) := cell_of_heap hq4 0
        have g1 : w4.cell? ⟨q, 1, none⟩ = some (.int .i64 (S.k : Nat)) := cell_of_heap hq4 1
        have g2 : w4.cell? ⟨q, 2, none⟩ = some (.bool S.off) := cell_of_heap hq4 2
        have z0 : w4.frozen? ⟨q, 0, none⟩ = false := frozen_of_heap hq4 0
        have z1 : w4.frozen? ⟨q, 1, none⟩ = false := frozen_of_heap hq4 1
        have z2 : w4.frozen? ⟨q, 2, none⟩ = false := frozen_of_heap hq4 2
        have HQ4 := Lib.hid hq4
        clear hq4
        go_upto_region 11 with fail
        have hf := fill_ref HQ4.out (y0 := .slice ra' X rc') (y1 := .int .i64 Y) (y2 := .bool Z)
        obtain ⟨w5, hw5⟩ : ∃ w5, ((w4.setCell ⟨q, 0, none⟩ (.slice ra' X rc')).setCell ⟨q, 1, none⟩ (.int .i64 Y)).setCell ⟨q, 2, none⟩ (.bool Z) = w5 := ⟨_, rfl⟩
        rw [hw5] at hf ⊢
        have HF5 := Lib.hid hf
        have hlt4 : RB + 1 < w4.heap.size := (Array.getElem?_eq_some_iff.1 HAB4.out).1
        have ho5 : w5.heap[OB]? = _ := (hf.2.block OB (by omega) (by omega)).trans (heap_ext HO2.out HE34.out.1)
        have hab5 : w5.heap[RB + 1]? = _ := (hf.2.block (RB + 1) (by omega) (by omega)).trans HAB4.out
        have HAB5 := Lib.hid hab5
        have hE5 : Below W.heap.size W w5 := belowBut (HS2.out.2.2.trans HE34.out.1) hqW (Nat.le_refl _) hf.2
        have HE5 := Lib.hid hE5
        have hs5 := (HS2.out.1.ext HE34.out.1).butT HQ4.out (by decide) (by decide) (by decide) hf.2
        have HS5 := Lib.hid hs5
        have ht5 := refKeep (HE34.out.2.ext (show Ext w3 w4 from by rw [← HW4.out]; exact (Ext.alloc _ _).trans (Ext.alloc _ _))) hf.2 HQ4.out (by decide)
        have HT5 := Lib.hid ht5
        have f0 : w5.cell? ⟨OB, 0, none⟩ = some (.int .i64 o0) := cell_of_heap ho5 0
        have f1 : w5.cell? ⟨OB, 1, none⟩ = some (.int .i64 o1) := cell_of_heap ho5 1
        have f2 : w5.cell? ⟨OB, 2, none⟩ = some (.slice at' nt ct) := cell_of_heap ho5 2
        have f3 : w5.cell? ⟨OB, 3, none⟩ = some (.bool o3) := cell_of_heap ho5 3
        clear r0 r1 r2 g0 g1 g2 z0 z1 z2 hw5 hf ho5 hab5 hE5 hs5 ht5 hlt4
        go_wp2_with fail
        refine (does8_more HS5.out HE5.out.size hp ⟨o0, o1, ob, o3⟩ (.slice at' nt ct) (HT.out.below HE5.out) HFK.out.1).mono ?_
        rintro e w6 ⟨p', va', vp', rfl, hs6, hp6, hb6, hk6⟩
        rw [HSR.out.1] at hs6
        rw [HSR.out.2]
        simp only [ansV, ansCells]
        have HS6 := Lib.hid (And.intro hs6 (And.intro (Below.trans (B := W.heap.size) HE5.out hb6) hk6))
        clear f0 f1 f2 f3 hs6 hb6 hk6
        go_upto_region 13 with fail
        obtain ⟨w7, hw7⟩ : ∃ w7, w6.alloc (.cells #[.int .i64 rn, .int .i64 re, .string ⟨rb.toArray⟩, .bool ri] 37) = w7 := ⟨_, rfl⟩
        have hE7 : Ext w6 w7 := by rw [← hw7]; exact Ext.alloc _ _
        have hn7 : w7.heap[w6.heap.size]? = some (.cells #[.int .i64 rn, .int .i64 re, .string ⟨rb.toArray⟩, .bool ri] 37 (0, 0)) := by rw [← hw7]; exact heap_alloc_new _ _
        obtain ⟨NB, hNB⟩ : ∃ NB, w6.heap.size = NB := ⟨_, rfl⟩
        rw [hNB] at hn7
        rw [hw7, hNB]
        have hab7 := heap_ext ((HS6.out.2.2.2 _ _ _ _ HAB5.out (by decide) (by decide) (by decide)).trans HAB5.out) hE7
        have hq7 := heap_ext ((HS6.out.2.2.2 _ _ _ _ HF5.out.1 (by decide) (by decide) (by decide)).trans HF5.out.1) hE7
        have HQ7 := Lib.hid hq7
        have HT7 := Lib.hid ((Txts.k8 HT5.out HS6.out.2.2).ext hE7)
        have HS7 := Lib.hid (And.intro (HS6.out.1.ext hE7) (Below.trans (B := W.heap.size) HS6.out.2.1 (hE7.mono HS6.out.2.1.size)))
        have a0 : w7.cell? ⟨RB + 1, 0, none⟩ = some (.int .i64 rn) := cell_of_heap hab7 0
        have a1 : w7.cell? ⟨RB + 1, 1, none⟩ = some (.int .i64 re) := cell_of_heap hab7 1
        have a2 : w7.cell? ⟨RB + 1, 2, none⟩ = some (.string ⟨rb.toArray⟩) := cell_of_heap hab7 2
        have a3 : w7.cell? ⟨RB + 1, 3, none⟩ = some (.bool ri) := cell_of_heap hab7 3
        have b0 : w7.cell? ⟨NB, 0, none⟩ = some (.int .i64 rn) := cell_of_heap hn7 0
        have b1 : w7.cell? ⟨NB, 1, none⟩ = some (.int .i64 re) := cell_of_heap hn7 1
        have b2 : w7.cell? ⟨NB, 2, none⟩ = some (.string ⟨rb.toArray⟩) := cell_of_heap hn7 2
        have b3 : w7.cell? ⟨NB, 3, none⟩ = some (.bool ri) := cell_of_heap hn7 3
        have g0 : w7.cell? ⟨q, 0, none⟩ = some (.slice ra' X rc') := cell_of_heap hq7 0
        have g1 : w7.cell? ⟨q, 1, none⟩ = some (.int .i64 Y) := cell_of_heap hq7 1
        have g2 : w7.cell? ⟨q, 2, none⟩ = some (.bool Z) := cell_of_heap hq7 2
        clear hab7 hq7 hn7 hw7 hE7 hNB
        go_wp2_with fail
        refine (stands8_any HS7.out.1 _ ⟨ra', rc', by simp only [refStoV]; rw [HXYZ.out.1, HXYZ.out.2.1, HXYZ.out.2.2], by rw [HXYZ.out.1]; exact HT7.out⟩).mono ?_
        rintro e w8 ⟨rfl, hE8⟩
        have HE8 := Lib.hid hE8
        clear hE8 a0 a1 a2 a3 b0 b1 b2 b3 g0 g1 g2
        go_wp2_with fail
        go_roundw
        case rel => exact ⟨k + 1, p', va', vp', S', ra', rc', by omega, rfl, by go_num, hp6, Lib.hid ⟨HS7.out.1.ext HE8.out, by rw [HXYZ.out.1, HXYZ.out.2.1, HXYZ.out.2.2]; exact heap_ext HQ7.out HE8.out, by rw [HXYZ.out.1]; exact HT7.out.ext HE8.out, Below.trans (B := W.heap.size) HS7.out.2 (HE8.out.mono HS7.out.2.size)⟩⟩
        case measure => simp [intOf]; omega
      · obtain rfl : k = n := by omega
        go_wp2_with fail
        refine (alive8_any wr).mono ?_
        rintro e w5 ⟨rfl, hE5⟩
        go_wp2_with fail
        go_ret
        exact ⟨rfl, hI.out.2.2.2.trans hE5⟩

namespace pageAll
theorem own : ownKnob Try.prog.godebug = none := by kernel_rfl
theorem laidOut : laidOutB Try.prog = true := by kernel_rfl
set_option linter.unusedVariables false in
set_option maxRecDepth 100000 in
theorem lifted (os : Os) (started : os.Started) (H : Type) (enc : TypeId × Value → H) :
    ReturnsInHanded {} Try.checked os 3 .any (Rows.pageAllSpec.pre6 enc Try.prog Try.f3 Rows.pageAllRow.domain false) (Rows.pageAllSpec.post enc Try.prog Try.f3 false true false false) := by
  refine returnsInHanded_of_change_sized (C := Try.checked) own started (by kernel_rfl) Try.func3
    (ChangeSpec.witness6 (enc := enc) (C := Try.checked) false ⟨#[], #[.slice none 0 0, .slice none 0 0], []⟩ 8 (by kernel_rfl) (by kernel_rfl) (by kernel_rfl) (by kernel_rfl)) ?_
  intro W base args ds gs before hval0 hW hcnd hsz _
  have hval : ∀ (j : Nat) t v, Try.f3.params[j]? = some t → args[j]? = some v → Value.okWide Try.prog W .any base t v := hval0
  have hW' := hW
  obtain ⟨p, q, hA0, hV, rfl, hfz, hnd⟩ := hW'
  have hA : DataW.TrodAll enc Try.prog W 0 (fun _ => true) true Try.f3.params.toList args.toList ds p := hA0
  rw [Try.params3] at hA hval
  obtain ⟨v0, vs0, d0, ds0, p0, q0, hargs, rfl, rfl, h0, r0⟩ := trodAll_cons hA
  obtain ⟨v1, vs1, d1, ds1, p1, q1, rfl, rfl, rfl, h1, r1⟩ := trodAll_cons r0
  obtain ⟨rfl, rfl, rfl⟩ := trodAll_nil r1
  obtain rfl : args = #[v0, v1] := by cases args; simp_all
  obtain ⟨rfl, rfl⟩ := trodVars_none hV
  have k0 := h0
  have lt0 : ∀ x ∈ p0, x.block < W.heap.size := by obtain ⟨m, hm⟩ := k0; exact DataW.trod_lt m _ _ _ hm
  obtain ⟨a0, len0, cap0, rfl⟩ := okWide_slice Try.underlying22 (hval 0 22 v0 rfl rfl)
  obtain ⟨l0, w0⟩ : ∃ l, Bytes W (.slice a0 len0 cap0) l := by
    obtain ⟨fuel, hf⟩ := h0
    obtain ⟨v, l, hcs, hb⟩ := bytes_of_raw Try.underlying22 Try.underlying5 (by kernel_rfl) hf
    simp [Value.cells] at hcs
    subst hcs
    exact ⟨l, hb⟩
  have sz0 : len0 * 1 ≤ 140737488351232 := by obtain ⟨fuel, hf⟩ := h0; exact reach_of_raw (P := Try.prog) (x := (d0, p0)) (j := 0) hsz (by rw [Try.params3]; rfl) rfl Try.underlying22 (by kernel_rfl) hf
  have k1 := h1
  have lt1 : ∀ x ∈ p1, x.block < W.heap.size := by obtain ⟨m, hm⟩ := k1; exact DataW.trod_lt m _ _ _ hm
  obtain ⟨a1, len1, cap1, rfl⟩ := okWide_slice Try.underlying23 (hval 1 23 v1 rfl rfl)
  obtain ⟨l1, w1, f1⟩ : ∃ l, Ops W (.slice a1 len1 cap1) l ∧ ∀ o ∈ l, o.Fits := by
    obtain ⟨fuel, hf⟩ := h1
    obtain ⟨v, l, hcs, hb, hft⟩ := ops_of_raw (x := (d1, p1)) hf (fun m hm => of_decide_eq_true (List.all_eq_true.1 hsz _ (DataW.weights_mem_each (j := 1) (by rw [Try.params3]; rfl) rfl m hm)))
    simp [Value.cells] at hcs
    subst hcs
    exact ⟨l, hb, hft⟩
  clear hA0 hval0
  refine (pageAll_walk a0 a1 len0 cap0 len1 cap1 l0 l1 W w0 w1 f1).mono fun e W' ⟨he, bel⟩ => ?_
  subst he
  exact ⟨_, rfl, _, _, _, [], _, [], hW, trodAll_mk1 (shut_bool Try.underlying4 _), (trodAll_cons_mk (Below.trod laidOut (by kernel_rfl) (of_decide_eq_true (by kernel_rfl)) k0 bel lt0) (trodAll_cons_mk (Below.trod laidOut (by kernel_rfl) (of_decide_eq_true (by kernel_rfl)) k1 bel lt1) trodAll_mk0)), rfl, bel.frame _, fun h => by cases h⟩
theorem over : Rows.pageAllRow.holds Try.pinned (OpenSpec.ofChange Rows.pageAllSpec) :=
  OpenClaim.holds_of_wide 3 Try.f3 rfl rfl rfl rfl rfl rfl rfl ⟨rfl, rfl, rfl, rfl, rfl⟩ rfl rfl rfl rfl rfl (by kernel_rfl) Try.func3 (by kernel_rfl)
    (of_decide_eq_true (by kernel_rfl)) (by unfold Func.isWrapper; first | (rw [if_pos (by decide +kernel)]; kernel_rfl) | (rw [if_neg (by decide +kernel)]; exact ⟨rfl, rfl⟩))
    (fun os started H enc _ => lifted os started H enc)
theorem proved : Rows.PageAllSaid := over
end pageAll
end Go.Proofs.Ytpefengjpedifaa
