/-
  Merged: Layer 14, the document's: Place.
-/
import Derived.Test.YtkpcmedmiiohnaaBsRgP

namespace Go.Proofs.Ytkpcmedmiiohnaa
set_option linter.unusedSimpArgs false
set_option linter.unusedVariables false
set_option maxRecDepth 100000
open Go.RowKit
/- Layer 14, the document's: Place; what Find tells is told once. -/
theorem Reg.Ok.starts_up {R : List Reg.Row} (h : Reg.Ok R) : ∀ j (hj : j < R.length) i (hi : i ≤ j), (R[i]'(by omega)).start ≤ R[j].start := by
  intro j
  induction j with
  | zero => intro hj i hi; obtain rfl : i = 0 := by omega
            exact Int.le_refl _
  | succ j ih =>
    intro hj i hi
    rcases Nat.lt_or_ge i (j + 1) with q | q
    · have h1 := ih (by omega) i (by omega)
      have h2 := h.starts j hj
      have h3 := (h.many R[j] (List.getElem_mem _)).1
      rw [h2]
      omega
    · obtain rfl : i = j + 1 := by omega
      exact Int.le_refl _
theorem Reg.FindIs.uniq {R : List Reg.Row} (hk : Reg.Ok R) {pos t x code t' x' code' : Int} (h : Reg.FindIs R pos t x code) (h' : Reg.FindIs R pos t' x' code') : t = t' ∧ x = x' ∧ code = code' := by
  have h0 : ∀ i (hi : i < R.length), R[i].start ≤ pos → ¬ pos < 0 := fun i hi h1 h2 => by
    have := (hk.start_bound i hi).1
    omega
  rcases h with ⟨h1, rfl, rfl, rfl⟩ | ⟨rfl, i, hi, h1, h2, rfl, rfl⟩ <;> rcases h' with ⟨k1, rfl, rfl, rfl⟩ | ⟨rfl, j, hj, k1, k2, rfl, rfl⟩
  · exact ⟨rfl, rfl, rfl⟩
  · exact absurd h1 (h0 j hj k1)
  · exact absurd k1 (h0 i hi h1)
  · have hij : i = j := by
      rcases Nat.lt_trichotomy i j with q | q | q
      · have := h2 j hj q
        omega
      · exact q
      · have := k2 i hi q
        omega
    subst hij
    exact ⟨rfl, rfl, rfl⟩
set_option maxHeartbeats 4000000 in
theorem refPlace14_any {W w : World} {vL vT : Value} {R : List Reg.Row} (pos : Int) (h : RefReg W w vL vT R) (hk : Reg.Ok R) (hE0 : Ext W w) (hs : Reg.Small R) (hpos : pos ≤ 9223372036854775807) :
    Calls Try.prog 16 #[.agg #[vL, vT], .int .i64 pos] w fun e w' => ∃ t x code, e = .returned (.tuple #[.agg #[.int .i64 t, .int .i64 x], .int .i64 code]) ∧ Reg.FindIs R pos t x code ∧ Ext w w' := by
  have HK := Lib.hid hk
  have HS := Lib.hid hs
  have HPOS := Lib.hid hpos
  obtain ⟨g, c, hL, hnc, hcm, hcl⟩ := h.openL hk.ne
  obtain ⟨ta, tc, hT, _⟩ := h.openT
  obtain ⟨m, hn⟩ : ∃ m, R.length = m + 1 := ⟨R.length - 1, by have := hk.ne; omega⟩
  rw [hn] at hL hnc
  rw [hn, Nat.add_sub_cancel] at hT
  subst hL hT
  have HH := Lib.hid h
  have HE0 := Lib.hid hE0
  have HCL := Lib.hid hcl
  obtain ⟨q, hq⟩ : ∃ z, w.heap.size = z := ⟨_, rfl⟩
  obtain ⟨w1, hw1⟩ : ∃ z, w.alloc (.cells #[.slice (some ⟨g, 0, none⟩) (m + 1) c, .slice ta m tc] 38) = z := ⟨_, rfl⟩
  obtain ⟨w2, hw2⟩ : ∃ z, w1.alloc (.cells #[.int .i64 0, .int .i64 0] 49) = z := ⟨_, rfl⟩
  have hE1 : Ext w w1 := by rw [← hw1]; exact Ext.alloc _ _
  have hE2 : Ext w1 w2 := by rw [← hw2]; exact Ext.alloc _ _
  have hs1 : w1.heap.size = q + 1 := by rw [← hw1, World.size_alloc, hq]
  have hB1 : w1.heap[q]? = some (.cells #[.slice (some ⟨g, 0, none⟩) (m + 1) c, .slice ta m tc] 38 (0, 0)) := by rw [← hw1, ← hq]; exact heap_alloc_new _ _
  have hB2 : w2.heap[q + 1]? = some (.cells #[.int .i64 0, .int .i64 0] 49 (0, 0)) := by rw [← hw2, ← hs1]; exact heap_alloc_new _ _
  have HW := Lib.hid (And.intro hq (And.intro hw1 (And.intro hs1 hw2)))
  have HE2 := Lib.hid (hE1.trans hE2)
  have HB := Lib.hid (And.intro (heap_ext hB1 hE2) hB2)
  have hcells : ∀ wy, Ext w2 wy → wy.cell? ⟨q, 0, none⟩ = some (.slice (some ⟨g, 0, none⟩) (m + 1) c) ∧ wy.cell? ⟨q, 1, none⟩ = some (.slice ta m tc) ∧ wy.cell? ⟨q + 1, 0, none⟩ = some (.int .i64 0) ∧ wy.cell? ⟨q + 1, 1, none⟩ = some (.int .i64 0) ∧ wy.frozen? ⟨q + 1, 0, none⟩ = false ∧ wy.frozen? ⟨q + 1, 1, none⟩ = false := fun wy hy =>
    ⟨cell_of_heap (heap_ext (heap_ext hB1 hE2) hy) 0, cell_of_heap (heap_ext (heap_ext hB1 hE2) hy) 1, cell_of_heap (heap_ext hB2 hy) 0, cell_of_heap (heap_ext hB2 hy) 1, frozen_of_heap (heap_ext hB2 hy) 0, frozen_of_heap (heap_ext hB2 hy) 1⟩
  have HCE := Lib.hid hcells
  have HN := Lib.hid hn
  have hlen64 : m + 1 ≤ 64 := by have := hk.len; omega
  -- an answer
  have hEND : ∀ (t x code : Int) (wy : World), Ext w2 wy → Ext w ((wy.setCell ⟨q + 1, 0, none⟩ (.int .i64 t)).setCell ⟨q + 1, 1, none⟩ (.int .i64 x)) ∧ ((wy.setCell ⟨q + 1, 0, none⟩ (.int .i64 t)).setCell ⟨q + 1, 1, none⟩ (.int .i64 x)).cell? ⟨q + 1, 0, none⟩ = some (.int .i64 t) ∧ ((wy.setCell ⟨q + 1, 0, none⟩ (.int .i64 t)).setCell ⟨q + 1, 1, none⟩ (.int .i64 x)).cell? ⟨q + 1, 1, none⟩ = some (.int .i64 x) := fun t x code wy hy => by
    have h2 := heap_setCell (heap_setCell (heap_ext hB2 hy) 0 (.int .i64 t)) 1 (.int .i64 x)
    have hB : But (q + 1) wy ((wy.setCell ⟨q + 1, 0, none⟩ (.int .i64 t)).setCell ⟨q + 1, 1, none⟩ (.int .i64 x)) := ((But.refl _ _).setCell 0 none _).setCell 1 none _
    exact ⟨Below.trans (B := w.heap.size) ((hE1.trans hE2).trans hy) (hB.below (by rw [hq]; omega) ((hE1.trans hE2).trans hy).size), cell_of_heap h2 0, cell_of_heap h2 1⟩
  have HEND := Lib.hid hEND
  obtain ⟨z0, z1, z2, z3, z4, z5⟩ := hcells w2 (Ext.refl _)
  clear hk hs hpos h hE0 hcl hn hq hw1 hw2 hE1 hE2 hs1 hB1 hB2 hcells hEND
  by_cases hneg : pos < 0
  · go_enter Try.func16, Try.ntmps16
    go_upto_region 1 with fail
    rw [HW.out.1, HW.out.2.1]
    try rw [HW.out.2.2.1]
    try rw [HW.out.2.2.2]
    go_wp2_with fail
    obtain ⟨e1, e2, e3⟩ := HEND.out 0 0 1 w2 (Ext.refl _)
    refine bodyPost_ret (v := .tuple #[.agg #[.int .i64 0, .int .i64 0], .int .i64 1]) (by simp [results, Try.results16, go_sem, e2, e3]) rfl ?_
    exact ⟨0, 0, 1, rfl, .inl ⟨hneg, rfl, rfl, rfl⟩, e1⟩
  go_enter Try.func16, Try.ntmps16
  go_upto_region 1 with fail
  rw [HW.out.1, HW.out.2.1]
  try rw [HW.out.2.2.1]
  try rw [HW.out.2.2.2]
  go_wp2_with fail
  go_loopw [1, 6] (fun s x wx => ∃ (k : Nat) (P : Int) (wr : World), wr = wx ∧ k ≤ m ∧ x = .int .i64 k ∧ s = .int .i64 P ∧ Hid (Ext w2 wr ∧ 0 ≤ P ∧ P ≤ pos ∧ ∃ h : k < R.length, P = pos - R[k].start)) (fun _ x _ => m - (intOf x).toNat)
  case atStart => exact ⟨0, pos, _, rfl, by omega, rfl, rfl, Lib.hid ⟨Ext.refl _, by omega, Int.le_refl _, HK.out.ne, by rw [HK.out.zero]; omega⟩⟩
  case round =>
    obtain ⟨k, P, wr, hwr, hkm, rfl, rfl, hI⟩ := hrel
    subst hwr
    clear z0 z1 z2 z3 z4 z5
    obtain ⟨z0, z1, z2, z3, z4, z5⟩ := HCE.out wr hI.out.1
    obtain ⟨hkR, hP⟩ := hI.out.2.2.2
    obtain ⟨a1, n1, c1, a2, n2, c2, k0, hzz⟩ := HCL.out k hkR
    have k0' := cellExt (HE2.out.trans hI.out.1) k0
    obtain ⟨KT, hKT⟩ : ∃ z, R[k].c.term = z := ⟨_, rfl⟩
    rw [hKT] at k0'
    have HKT := Lib.hid (show ∃ h : k < R.length, R[k].c.term = KT ∧ P = pos - R[k].start from ⟨hkR, hKT, hP⟩)
    have hP0 := hI.out.2.1
    have hP1 := hI.out.2.2.1
    by_cases hlt : k < m
    · have hk1 : k + 1 < R.length := by have := HN.out; omega
      have hmc := refMany14_any k (HH.out.ext (HE2.out.trans hI.out.1)) HK.out (HE0.out.trans (HE2.out.trans hI.out.1)) hk1 (Reg.small_len HS.out k hkR)
      have hst := HK.out.starts k hk1
      have hmb := HK.out.many _ (List.getElem_mem hkR)
      obtain ⟨M, hM⟩ : ∃ z, Reg.many R[k].c R[k].tail = z := ⟨_, rfl⟩
      rw [hM] at hmc hst hmb
      have HMC := Lib.hid hmc
      have HST := Lib.hid (show ∃ (h : k + 1 < R.length), R[k + 1].start = (R[k]'(by omega)).start + M from ⟨hk1, hst⟩)
      have hM0 := hmb.1
      clear hzz k0 hKT hP hk1 hmc hst hmb hM
      go_wp2_with fail
      refine HMC.out.mono ?_
      rintro e w3 ⟨rfl, hE3⟩
      have HE3 := Lib.hid (hI.out.1.trans hE3)
      have k1' := cellExt hE3 k0'
      clear z0 z1 z2 z3 z4 z5 hE3 k0'
      obtain ⟨z0, z1, z2, z3, z4, z5⟩ := HCE.out w3 HE3.out
      by_cases hPM : P < M
      · go_wp2_with fail
        obtain ⟨e1, e2, e3⟩ := HEND.out KT P 0 w3 HE3.out
        refine bodyPost_ret (v := .tuple #[.agg #[.int .i64 KT, .int .i64 P], .int .i64 0]) (by simp [results, Try.results16, go_sem, e2, e3]) rfl ?_
        obtain ⟨hkR, hKT, hP⟩ := HKT.out
        obtain ⟨hk1, hst⟩ := HST.out
        refine ⟨KT, P, 0, rfl, .inr ⟨rfl, k, hkR, by omega, fun j hj hkj => ?_, hKT.symm, hP⟩, e1⟩
        have := HK.out.starts_up j hj (k + 1) hkj
        omega
      · have hwr : IntKind.i64.wrap (P - M) = P - M := IntWalk.i64_in _ (by have := HPOS.out; omega)
        go_wp2_with fail
        go_roundw
        case rel =>
          refine ⟨k + 1, P - M, _, rfl, by omega, by go_num, by first | rfl | (simp only [Value.int.injEq, true_and]; exact hwr) | skip, Lib.hid ⟨HE3.out, by omega, by omega, ?_⟩⟩
          obtain ⟨hkR, hKT, hP⟩ := HKT.out
          obtain ⟨hk1, hst⟩ := HST.out
          exact ⟨hk1, by rw [hst]; omega⟩
        case measure => simp [intOf]; omega
    · obtain rfl : k = m := by omega
      clear hzz k0 hKT hP hkR
      have hwn : IntKind.i64.wrap ((k : Int) + 1 - 1) = (k : Int) := by rw [show (k : Int) + 1 - 1 = (k : Int) by omega]; exact IntWalk.i64_in _ (by omega)
      go_wp2_with fail
      obtain ⟨e1, e2, e3⟩ := HEND.out KT P 0 wr hI.out.1
      refine bodyPost_ret (v := .tuple #[.agg #[.int .i64 KT, .int .i64 P], .int .i64 0]) (by simp [results, Try.results16, go_sem, e2, e3]) rfl ?_
      obtain ⟨hkR, hKT, hP⟩ := HKT.out
      refine ⟨KT, P, 0, rfl, .inr ⟨rfl, k, hkR, by omega, fun j hj hkj => ?_, hKT.symm, hP⟩, e1⟩
      have := HN.out
      omega
end Go.Proofs.Ytkpcmedmiiohnaa
