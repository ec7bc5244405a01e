/-
  Merged: Layer 14, the document's: Many, Start, Place.
-/
import Derived.Test.YtkpcmedmiiohnaaBsRgO
import Derived.Test.YtkpcmedmiiohnaaBsVec

namespace Go.Proofs.Ytkpcmedmiiohnaa
set_option linter.unusedSimpArgs false
set_option linter.unusedVariables false
set_option maxRecDepth 100000
open Go.RowKit
/- Layer 14, the document's: Many, Start, Place. -/
theorem Reg.many_total (c : Term.C) (l : List Ent.E) (h : Term.right c = true) : Vec.total (Ent.lastOf l (zeros (c.shards.length : Int))) = Reg.many c l := by
  unfold Vec.total Reg.many
  rw [if_pos (Reg.lastOf_right c l h)]
set_option maxHeartbeats 4000000 in
theorem refMany14_any {W w : World} {vL vT : Value} {R : List Reg.Row} (i : Nat) (h : RefReg W w vL vT R) (hk : Reg.Ok R) (hE0 : Ext W w) (hi : i + 1 < R.length) (hs : R[i].tail.length ≤ 4611686018427387904) :
    Calls Try.prog 40 #[.agg #[vL, vT], .int .i64 (i : Int)] w fun e w' => e = .returned (.int .i64 (Reg.many R[i].c R[i].tail)) ∧ Ext w w' := by
  have hrt := hk.right _ (List.getElem_mem (show i < R.length by omega))
  obtain ⟨M, hM⟩ : ∃ z, Reg.many R[i].c R[i].tail = z := ⟨_, rfl⟩
  rw [hM]
  obtain ⟨g, c, rfl, hnc, hcm, hc⟩ := h.openL hk.ne
  obtain ⟨ta, tc, rfl, htc, htm, hct⟩ := h.openT
  obtain ⟨gt, a1, n1, c1, rfl, hcell, hen⟩ := hct i hi
  obtain ⟨x1, y1, z1, a2, n2, c2, _, _, k2, hn2, _, _⟩ := hc i (by omega)
  obtain ⟨n, hn⟩ : ∃ z, R.length = z := ⟨_, rfl⟩
  obtain ⟨m, hm⟩ : ∃ z, R.length - 1 = z := ⟨_, rfl⟩
  have hin : i < n ∧ i < m := by omega
  rw [hm] at htc ⊢
  rw [hn] at hnc ⊢
  obtain ⟨w1, hw1⟩ : ∃ z, w.alloc (.cells #[.slice (some ⟨g, 0, none⟩) n c, .slice (some ⟨gt, 0, none⟩) m tc] 38) = z := ⟨_, rfl⟩
  obtain ⟨q, hq⟩ : ∃ z, w.heap.size = z := ⟨_, rfl⟩
  have hE1 : Ext w w1 := by rw [← hw1]; exact Ext.alloc _ _
  have hB1 : w1.heap[q]? = some (.cells #[.slice (some ⟨g, 0, none⟩) n c, .slice (some ⟨gt, 0, none⟩) m tc] 38 (0, 0)) := by rw [← hw1, ← hq]; exact heap_alloc_new _ _
  have HW := Lib.hid (And.intro hw1 hq)
  have HE1 := Lib.hid hE1
  have HB1 := Lib.hid (And.intro hB1 (And.intro (cellExt hE1 hcell) (cellExt hE1 k2)))
  have hlast := fun (wy : World) (hy : Ext w1 wy) => refLast5_any (.slice a1 n1 c1) R[i].tail (n2 : Int) wy (hen.below (hE0.trans (hE1.trans hy))) hs
  rw [hn2] at hlast
  have htot := Reg.many_total R[i].c R[i].tail hrt
  rw [hM] at htot
  obtain ⟨LV, hLV⟩ : ∃ z, Ent.lastOf R[i].tail (zeros (R[i].c.shards.length : Int)) = z := ⟨_, rfl⟩
  rw [hLV] at hlast htot
  rw [← hn2] at hlast
  have HL := Lib.hid hlast
  have HT := Lib.hid htot
  clear hrt h hc hct hcell hen k2 hn2 hn hm hw1 hq hE1 hB1 hlast htot hLV hM hs
  go_enter Try.func40, Try.ntmps40
  go_upto_region 1 with fail
  rw [HW.out.1, HW.out.2]
  refine wp_region_tail (by kernel_rfl) 12 Ext (fun iop v w => match iop with
      | 0 => v = .pointer (some ⟨q, 1, none⟩)
      | 1 => v = .slice (some ⟨gt, 0, none⟩) m tc
      | 2 => v = .int .i64 (i : Nat)
      | 3 => v = .pointer (some ⟨gt, i, none⟩)
      | 4 => v = .slice a1 n1 c1
      | 5 => v = .pointer (some ⟨q, 0, none⟩)
      | 6 => v = .slice (some ⟨g, 0, none⟩) n c
      | 7 => v = .int .i64 (i : Nat)
      | 8 => v = .pointer (some ⟨g, i * 3, none⟩)
      | 9 => v = .pointer (some ⟨g, i * 3 + 2, none⟩)
      | 10 => v = .slice a2 n2 c2
      | _ => v = .int .i64 (n2 : Nat)
      ) (by kernel_rfl) (by kernel_rfl) (by decide) (fun _ _ _ h k => Ext.trans h k) (fun a => Ext.refl a) (Ext.drew _) ?_ ?_ ?_
  · intro iop v wa wb hF hL
    iterate 11 (rcases iop with _ | iop; exact hF)
    exact hF
  · refine Obls.cons ?_ (Obls.cons ?_ (Obls.cons ?_ (Obls.cons ?_ (Obls.cons ?_ (Obls.cons ?_ (Obls.cons ?_ (Obls.cons ?_ (Obls.cons ?_ (Obls.cons ?_ (Obls.cons ?_ (Obls.cons ?_ (Obls.nil))))))))))))
    · intro ev wy hp hl hk hd
      have e2 : ev _ = .pointer (some ⟨q, 0, none⟩) := hk 2 (by decide)
      exact Yield.oq (by simp [execOp, go_sem, e2])
    · intro ev wy hp hl hk hd
      have e5 : ev _ = _ := hk 5 (by decide)
      exact Yield.op (v := .slice (some ⟨gt, 0, none⟩) m tc) (w' := wy) (by simp [execOp, go_sem, e5, cell_of_heap (heap_ext HB1.out.1 hl) 1]) ⟨Ext.refl _, rfl⟩
    · intro ev wy hp hl hk hd
      have e1 : ev _ = .int .i64 (i : Nat) := hk 1 (by decide)
      exact Yield.mv rfl ⟨Ext.refl _, e1⟩
    · intro ev wy hp hl hk hd
      have e6 : ev _ = _ := hk 6 (by decide)
      have e7 : ev _ = _ := hk 7 (by decide)
      exact Yield.op (v := .pointer (some ⟨gt, i, none⟩)) (w' := wy) (by simp [execOp, go_sem, e6, e7]; omega) ⟨Ext.refl _, rfl⟩
    · intro ev wy hp hl hk hd
      have e8 : ev _ = _ := hk 8 (by decide)
      exact Yield.op (v := .slice a1 n1 c1) (w' := wy) (by simp [execOp, go_sem, e8, cellExt hl HB1.out.2.1]) ⟨Ext.refl _, rfl⟩
    · intro ev wy hp hl hk hd
      have e2 : ev _ = .pointer (some ⟨q, 0, none⟩) := hk 2 (by decide)
      exact Yield.oq (by simp [execOp, go_sem, e2])
    · intro ev wy hp hl hk hd
      have e10 : ev _ = _ := hk 10 (by decide)
      exact Yield.op (v := .slice (some ⟨g, 0, none⟩) n c) (w' := wy) (by simp [execOp, go_sem, e10, cell_of_heap (heap_ext HB1.out.1 hl) 0]) ⟨Ext.refl _, rfl⟩
    · intro ev wy hp hl hk hd
      have e1 : ev _ = .int .i64 (i : Nat) := hk 1 (by decide)
      exact Yield.mv rfl ⟨Ext.refl _, e1⟩
    · intro ev wy hp hl hk hd
      have e11 : ev _ = _ := hk 11 (by decide)
      have e12 : ev _ = _ := hk 12 (by decide)
      exact Yield.op (v := .pointer (some ⟨g, i * 3, none⟩)) (w' := wy) (by simp [execOp, go_sem, e11, e12]; omega) ⟨Ext.refl _, rfl⟩
    · intro ev wy hp hl hk hd
      have e13 : ev _ = _ := hk 13 (by decide)
      exact Yield.oq (by simp [execOp, go_sem, e13])
    · intro ev wy hp hl hk hd
      have e14 : ev _ = _ := hk 14 (by decide)
      exact Yield.op (v := .slice a2 n2 c2) (w' := wy) (by simp [execOp, go_sem, e14, cellExt hl HB1.out.2.2]) ⟨Ext.refl _, rfl⟩
    · intro ev wy hp hl hk hd
      have e15 : ev _ = _ := hk 15 (by decide)
      exact Yield.op (v := .int .i64 (n2 : Nat)) (w' := wy) (by simp [execOp, go_sem, e15]) ⟨Ext.refl _, rfl⟩
  · intro vals wz hz hv
    have g5 : vals 0 = _ := hv 0 (by decide)
    have g6 : vals 1 = _ := hv 1 (by decide)
    have g7 : vals 2 = _ := hv 2 (by decide)
    have g8 : vals 3 = _ := hv 3 (by decide)
    have g9 : vals 4 = _ := hv 4 (by decide)
    have g10 : vals 5 = _ := hv 5 (by decide)
    have g11 : vals 6 = _ := hv 6 (by decide)
    have g12 : vals 7 = _ := hv 7 (by decide)
    have g13 : vals 8 = _ := hv 8 (by decide)
    have g14 : vals 9 = _ := hv 9 (by decide)
    have g15 : vals 10 = _ := hv 10 (by decide)
    have g16 : vals 11 = _ := hv 11 (by decide)
    clear hv
    simp only [List.take_succ_cons, List.take_zero, List.drop_succ_cons, List.drop_zero]
    simp only [putAll, Act.put, List.setIfInBounds_toArray, List.set_cons_zero, List.set_cons_succ, g5, g6, g7, g8, g9, g10, g11, g12, g13, g14, g15, g16]
    clear g5 g6 g7 g8 g9 g10 g11 g12 g13 g14 g15 g16
    have HZ := Lib.hid hz
    clear hz
    go_wp2_with fail
    refine (HL.out wz HZ.out).mono ?_
    rintro e w2 ⟨u, rfl, hu, hE2⟩
    obtain ⟨u1, u2, u3, rfl⟩ := hu.isSlice
    have HE2 := Lib.hid (HE1.out.trans (HZ.out.trans hE2))
    have HU := Lib.hid hu
    clear hE2 hu
    go_wp2_with fail
    refine (refTotal_any _ LV w2 HU.out).mono ?_
    rintro e w3 ⟨rfl, hww⟩
    subst hww
    rw [HT.out]
    go_wp2_with fail
    go_ret
    exact ⟨rfl, HE2.out⟩
theorem Reg.small_len {R : List Reg.Row} (h : Reg.Small R) (i : Nat) (hi : i < R.length) : R[i].tail.length ≤ 4611686018427387904 := by
  have := h _ (List.getElem_mem hi)
  omega
set_option maxHeartbeats 4000000 in
theorem refStart14_any {W w : World} {vL vT : Value} {R : List Reg.Row} (t : Int) (h : RefReg W w vL vT R) (hk : Reg.Ok R) (hE0 : Ext W w) (hs : Reg.Small R) :
    Calls Try.prog 37 #[.agg #[vL, vT], .int .i64 t] w fun e w' => e = .returned (match Reg.look R t with | some x => .tuple #[.int .i64 x.start, .int .i64 0] | none => .tuple #[.int .i64 0, .int .i64 141]) ∧ Ext w w' := by
  have HK := Lib.hid hk
  have HS := Lib.hid hs
  obtain ⟨g, c, hL, _⟩ := h.openL hk.ne
  obtain ⟨ta, tc, hT, _⟩ := h.openT
  obtain ⟨n, hn⟩ : ∃ z, R.length = z := ⟨_, rfl⟩
  obtain ⟨m, hm⟩ : ∃ z, R.length - 1 = z := ⟨_, rfl⟩
  rw [hn] at hL
  rw [hm] at hT
  subst hL hT
  have HH := Lib.hid h
  have HE0 := Lib.hid hE0
  obtain ⟨w1, hw1⟩ : ∃ z, w.alloc (.cells #[.slice (some ⟨g, 0, none⟩) n c, .slice ta m tc] 38) = z := ⟨_, rfl⟩
  obtain ⟨q, hq⟩ : ∃ z, w.heap.size = z := ⟨_, rfl⟩
  have hE1 : Ext w w1 := by rw [← hw1]; exact Ext.alloc _ _
  have hB1 : w1.heap[q]? = some (.cells #[.slice (some ⟨g, 0, none⟩) n c, .slice ta m tc] 38 (0, 0)) := by rw [← hw1, ← hq]; exact heap_alloc_new _ _
  have HW := Lib.hid (And.intro hw1 hq)
  have HE1 := Lib.hid hE1
  have HB1 := Lib.hid hB1
  have d0 := cell_of_heap hB1 0
  have d1 := cell_of_heap hB1 1
  simp only [List.getElem?_toArray, List.getElem?_cons_zero, List.getElem?_cons_succ] at d0 d1
  have hfind := refFind14_any t (h.ext hE1) hk
  have HF := Lib.hid hfind
  have HN := Lib.hid (And.intro hn hm)
  clear hk hs h hE0 hn hm hw1 hq hE1 hB1 hfind
  by_cases hin : Reg.first R ≤ t ∧ t ≤ Reg.current R
  · obtain ⟨i, hi, hw, hl, ht⟩ := HK.out.look_some hin.1 hin.2
    have hat : Reg.at_ R t = (i : Int) := by unfold Reg.at_; rw [hw]
    rw [hat] at HF
    rw [hl]
    obtain ⟨S, hS⟩ : ∃ z, R[i].start = z := ⟨_, rfl⟩
    simp only [hS]
    have HIS := Lib.hid (show ∃ h : i < R.length, R[i].start = S from ⟨hi, hS⟩)
    have hi64 : i < 64 := by have := HK.out.len; omega
    clear hin hi hw hl ht hat hS
    go_enter Try.func37, Try.ntmps37
    go_upto_region 1 with fail
    rw [HW.out.1, HW.out.2]
    go_wp2_with fail
    refine HF.out.mono ?_
    rintro e w2 ⟨rfl, hE2⟩
    have HE2 := Lib.hid hE2
    clear hE2 d0 d1
    go_wp2_with fail
    go_loopw [7, 8] (fun s x wr => ∃ (k : Nat) (T : Int), k ≤ i ∧ x = .int .i64 k ∧ s = .int .i64 T ∧ Hid (Ext w1 wr ∧ ∃ h : k < R.length, R[k].start = T)) (fun _ x _ => i - (intOf x).toNat)
    case atStart => exact ⟨0, 0, by omega, rfl, rfl, Lib.hid ⟨HE2.out, HK.out.ne, HK.out.zero⟩⟩
    case round =>
      obtain ⟨k, T, hk, rfl, rfl, hI⟩ := hrel
      by_cases hlt : k < i
      · obtain ⟨hiR, hiS⟩ := HIS.out
        obtain ⟨hkR, hT⟩ := hI.out.2
        have hk1 : k + 1 < R.length := by omega
        have hmc := refMany14_any k (HH.out.ext (HE1.out.trans hI.out.1)) HK.out (HE0.out.trans (HE1.out.trans hI.out.1)) hk1 (Reg.small_len HS.out k hkR)
        have hst := HK.out.starts k hk1
        have hmb := HK.out.many _ (List.getElem_mem hkR)
        have hsb := HK.out.start_bound k hkR
        have hsl := HK.out.len
        rw [hT] at hst hsb
        obtain ⟨M, hM⟩ : ∃ z, Reg.many R[k].c R[k].tail = z := ⟨_, rfl⟩
        rw [hM] at hmc hst hmb
        have HMC := Lib.hid hmc
        have HST := Lib.hid (show ∃ h : k + 1 < R.length, R[k + 1].start = T + M from ⟨hk1, hst⟩)
        have hwr : IntKind.i64.wrap (T + M) = T + M := IntWalk.i64_in _ (by omega)
        have e0 := cell_of_heap (heap_ext HB1.out hI.out.1) 0
        have e1 := cell_of_heap (heap_ext HB1.out hI.out.1) 1
        simp only [List.getElem?_toArray, List.getElem?_cons_zero, List.getElem?_cons_succ] at e0 e1
        clear hiS hiR hT hkR hk1 hmc hst hmb hsb hsl hM
        go_wp2_with fail
        refine HMC.out.mono ?_
        rintro e w3 ⟨rfl, hE3⟩
        have HE3 := Lib.hid (hI.out.1.trans hE3)
        clear hE3 e0 e1
        go_wp2_with fail
        go_roundw
        case rel => exact ⟨k + 1, T + M, by omega, by go_num, rfl, Lib.hid ⟨HE3.out, HST.out⟩⟩
        case measure => simp [intOf]; omega
      · obtain rfl : k = i := by omega
        obtain ⟨h1, h2⟩ := hI.out.2
        obtain ⟨h3, h4⟩ := HIS.out
        have hTS : T = S := h2.symm.trans h4
        subst hTS
        have HFI := Lib.hid hI.out.1
        clear h1 h2 h3 h4 hI
        go_wp2_with fail
        go_ret2
        exact ⟨rfl, HE1.out.trans HFI.out⟩
  · obtain ⟨hw, hl⟩ := Reg.look_none hin
    have hat : Reg.at_ R t = -1 := by unfold Reg.at_; rw [hw]
    rw [hat] at HF
    rw [hl]
    clear hin hw hl hat
    go_enter Try.func37, Try.ntmps37
    go_upto_region 1 with fail
    rw [HW.out.1, HW.out.2]
    go_wp2_with fail
    refine HF.out.mono ?_
    rintro e w2 ⟨rfl, hE2⟩
    have HE2 := Lib.hid (HE1.out.trans hE2)
    clear hE2 d0 d1
    go_wp2_with fail
    go_ret2
    exact ⟨rfl, HE2.out⟩
end Go.Proofs.Ytkpcmedmiiohnaa
