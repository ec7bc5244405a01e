/-
  Merged: Layer 9, the document's answers: Get, Trim.
-/
import Derived.Test.YtfgjhagfpafmoaaGreatSgI
import Derived.Test.YtfgjhagfpafmoaaGreatSgU

namespace Go.Proofs.YtfgjhagfpafmoaaGreat
set_option linter.unusedSimpArgs false
set_option linter.unusedVariables false
set_option maxRecDepth 100000
open Go.ChangeShapes Go.WideShapes Go.ChangeAt Go.RowKit
/- Layer 9, the document's answers: Get, Trim. -/
theorem WhatAt.elem {B : Nat} {w : World} {u : Value} {qs : List (Value × Rec.R)} (h : WhatAt B w u qs) (i : Nat) (hi : i < qs.length) : ∃ b off cap, u = .slice (some ⟨b, off, none⟩) qs.length cap ∧ w.cell? ⟨b, off + i * 4, none⟩ = some (.int .i64 qs[i].2.client) ∧ w.cell? ⟨b, off + i * 4 + 1, none⟩ = some (.int .i64 qs[i].2.number) ∧ w.cell? ⟨b, off + i * 4 + 2, none⟩ = some qs[i].1 ∧ w.cell? ⟨b, off + i * 4 + 3, none⟩ = some (.string ⟨qs[i].2.data.toArray⟩) ∧ RowI w qs[i].1 qs[i].2.tags := by
  obtain ⟨a, cap, rfl, q1, q2, q4, q5, q3⟩ := SlN.ofOwn h.row
  have hl := recFlat_length qs
  have cell : ∀ j, j < 4 → ∃ b off, a = some ⟨b, off, none⟩ ∧ w.cell? ⟨b, off + (i * 4 + j), none⟩ = [Value.int .i64 qs[i].2.client, .int .i64 qs[i].2.number, qs[i].1, .string ⟨qs[i].2.data.toArray⟩][j]? := by
    intro j hj
    obtain ⟨b, off, e, hc⟩ := q3 (i * 4 + j) (by omega)
    have hx := recFlat_at qs i j hi hj
    rw [List.getElem?_eq_getElem (by omega)] at hx
    exact ⟨b, off, e, hc.trans hx⟩
  obtain ⟨b, off, rfl, k0⟩ := cell 0 (by omega)
  have same : ∀ j, j < 4 → w.cell? ⟨b, off + (i * 4 + j), none⟩ = [Value.int .i64 qs[i].2.client, .int .i64 qs[i].2.number, qs[i].1, .string ⟨qs[i].2.data.toArray⟩][j]? := by
    intro j hj
    obtain ⟨b', off', e, hc⟩ := cell j hj
    injection e with e
    injection e with e1 e2
    subst e1 e2
    exact hc
  exact ⟨b, off, cap, rfl, same 0 (by omega), same 1 (by omega), same 2 (by omega), same 3 (by omega), h.tags _ (List.getElem_mem _)⟩

set_option maxHeartbeats 8000000 in
theorem getRefS9_any (v : Value) (G : Seg.Sg) (N : Int) (w : World) (h : IsRef9 w v G) (hS : G.s.Ok) :
    Calls Tryz.prog 47 #[v, .int .i64 N] w fun e w' => ∃ t, e = .returned (.tuple #[recV t (G.getRec N), .int .i64 (G.getErr N)]) ∧ RowI w' t (G.getRec N).tags ∧ Ext w w' := by
  have HREF := Lib.hid h
  have HOK := Lib.hid hS
  obtain ⟨a, c, rfl, hT⟩ := h
  obtain ⟨n, hn⟩ : ∃ n, G.s.l.length = n := ⟨_, rfl⟩
  obtain ⟨k0, hk0⟩ : ∃ q : Int, (G.s.k : Int) = q := ⟨_, rfl⟩
  obtain ⟨s0, hs0⟩ : ∃ q : Int, (G.safe : Int) = q := ⟨_, rfl⟩
  obtain ⟨o0, ho0⟩ : ∃ q, G.s.off = q := ⟨_, rfl⟩
  unfold segV at HREF ⊢
  rw [hn] at hT
  have HT := Lib.hid hT
  rw [hn, hk0, hs0, ho0] at HREF ⊢
  obtain ⟨w2, hw2⟩ : ∃ w2, ((w.alloc (.cells #[.slice a n c, .int .i64 k0, .bool o0, .int .i64 s0] 36)).alloc (.cells #[.int .i64 0, .int .i64 0, .slice none 0 0, .string ⟨#[]⟩] 44)) = w2 := ⟨_, rfl⟩
  obtain ⟨P, hP⟩ : ∃ P, w.heap.size = P := ⟨_, rfl⟩
  have h3 := heap_two w (.cells #[.slice a n c, .int .i64 k0, .bool o0, .int .i64 s0] 36) (.cells #[.int .i64 0, .int .i64 0, .slice none 0 0, .string ⟨#[]⟩] 44)
  have hE2 : Ext w w2 := by rw [← hw2]; exact ext_two _ _ _
  rw [hw2, hP] at h3
  have HOF := Lib.hid (ofRef9_any _ G w2 (HREF.out.ext hE2) hS)
  have HW2 := Lib.hid (And.intro hw2 (And.intro hP (And.intro hE2 h3)))
  have HK := Lib.hid (And.intro hn (And.intro hk0 (And.intro ho0 hs0)))
  obtain ⟨p0, p1, p2, p3⟩ := segEnd h3.1
  have hb0 := build_rec0
  clear hT hn hk0 hs0 ho0 hw2 hP h3 hE2 hS
  go_enter Tryz.func47, Tryz.ntmps47
  go_upto_region 1 with fail
  rw [HW2.out.1, HW2.out.2.1]
  go_wp2_with fail
  refine HOF.out.mono ?_
  rintro e w3 ⟨u, qs, rfl, hu, hqs, hE3⟩
  obtain ⟨ua, un, uc, rfl⟩ := ownSlice hu.row
  have hun : un = G.len := by
    obtain ⟨_, _, e, _⟩ := hu.recs
    injection e with _ e _
    rw [e, hqs]
    rfl
  obtain ⟨T, hT⟩ : ∃ q, G.w.trimmed = q := ⟨_, rfl⟩
  obtain ⟨Bk, hBk⟩ : ∃ q, G.w.broken = q := ⟨_, rfl⟩
  unfold whatV
  rw [hT, hBk]
  obtain ⟨w4, hw4⟩ : ∃ w4, w3.alloc (.cells #[.slice ua un uc, .int .i64 (T : Nat), .bool Bk] 102) = w4 := ⟨_, rfl⟩
  obtain ⟨Q, hQ⟩ : ∃ Q, w3.heap.size = Q := ⟨_, rfl⟩
  have hE4 : Ext w3 w4 := by rw [← hw4]; exact Ext.alloc _ _
  have hq4 : w4.heap[Q]? = some (.cells #[.slice ua un uc, .int .i64 (T : Nat), .bool Bk] 102 (0, 0)) := by rw [← hw4, ← hQ]; exact heap_alloc_new _ _
  have hE24 := hE3.trans hE4
  have hX : ∀ w', Ext w4 w' → w'.heap[P]? = some (.cells #[.slice a n c, .int .i64 k0, .bool o0, .int .i64 s0] 36 (0, 0)) ∧ w'.heap[P + 1]? = some (.cells #[.int .i64 0, .int .i64 0, .slice none 0 0, .string ⟨#[]⟩] 44 (0, 0)) ∧ w'.heap[Q]? = some (.cells #[.slice ua un uc, .int .i64 (T : Nat), .bool Bk] 102 (0, 0)) := fun w' hE =>
    ⟨heap_ext HW2.out.2.2.2.1 (hE24.trans hE), heap_ext HW2.out.2.2.2.2 (hE24.trans hE), heap_ext hq4 hE⟩
  have HX := Lib.hid hX
  have HW := Lib.hid (And.intro hw4 (And.intro HW2.out.2.1 (And.intro (HW2.out.2.2.1.trans hE24) (And.intro hQ (And.intro (hu.ext hE4) hqs)))))
  have HG := Lib.hid (And.intro hun (And.intro hT hBk))
  have hle : un ≤ 13107 := by rw [hun]; exact Seg.Sg.Ok.count HOK.out
  have hTle : T ≤ un := by rw [hun, ← hT]; exact G.trimmed_le
  have hx := hX w4 (Ext.refl _)
  obtain ⟨v0, v1, v2⟩ := whatEnd hx.2.2
  clear hw4 hQ hE4 hq4 hE24 hX hun hT hBk hqs hu hE3 p0 p1 p2 p3 hx
  go_upto_region 2 with fail
  rw [HW.out.1, HW.out.2.2.2.1]
  have hge : G.getErr N = if N < 0 ∨ (un : Int) ≤ N then 91 else if N < (T : Int) then 92 else 0 := by
    unfold Seg.Sg.getErr
    rw [HG.out.1, HG.out.2.1]
  have hgr : G.getRec N = if N < 0 ∨ (un : Int) ≤ N then Seg.zeroR else if N < (T : Int) then Seg.zeroR else G.w.l.getD N.toNat Seg.zeroR := by
    unfold Seg.Sg.getRec
    rw [HG.out.1, HG.out.2.1]
  have HGE := Lib.hid (And.intro hge hgr)
  clear hge hgr
  by_cases hneg : N < 0
  · have hx := (HX.out w4 (Ext.refl _)).2.1
    have z0 : w4.cell? ⟨P + 1, 0, none⟩ = some (.int .i64 0) := cell_of_heap hx 0
    have f0 := frozen_of_heap hx 0
    have z1 : w4.cell? ⟨P + 1, 1, none⟩ = some (.int .i64 0) := cell_of_heap hx 1
    have f1 := frozen_of_heap hx 1
    have z2 : w4.cell? ⟨P + 1, 2, none⟩ = some (.slice none 0 0) := cell_of_heap hx 2
    have f2 := frozen_of_heap hx 2
    have z3 : w4.cell? ⟨P + 1, 3, none⟩ = some (.string ⟨#[]⟩) := cell_of_heap hx 3
    have f3 := frozen_of_heap hx 3
    have hf := set_four hx (.int .i64 0) (.int .i64 0) (.slice none 0 0) (.string ⟨#[]⟩)
    obtain ⟨wf, hwf⟩ : ∃ wf, ((((w4.setCell ⟨P + 1, 0, none⟩ (.int .i64 0)).setCell ⟨P + 1, 1, none⟩ (.int .i64 0)).setCell ⟨P + 1, 2, none⟩ (.slice none 0 0)).setCell ⟨P + 1, 3, none⟩ (.string ⟨#[]⟩)) = wf := ⟨_, rfl⟩
    rw [hwf] at hf
    have r0 := cell_of_heap hf.1 0
    have r1 := cell_of_heap hf.1 1
    have r2 := cell_of_heap hf.1 2
    have r3 := cell_of_heap hf.1 3
    have HE := Lib.hid (And.intro hwf (And.intro (ext_new HW.out.2.2.1 (by have := HW.out.2.1; omega) hf.2) (And.intro hf.2 hx)))
    have HR := Lib.hid (And.intro (show G.getErr N = 91 by rw [HGE.out.1]; rw [if_pos (.inl hneg)]) (show G.getRec N = Seg.zeroR by rw [HGE.out.2]; rw [if_pos (.inl hneg)]))
    clear hf hwf hx
    go_wp2_with fail
    rw [HE.out.1]
    refine bodyPost_ret (v := .tuple #[.agg #[.int .i64 0, .int .i64 0, .slice none 0 0, .string ⟨#[]⟩], .int .i64 91]) ?_ rfl ⟨.slice none 0 0, ?_, ?_, HE.out.2.1⟩
    · simp [results, Tryz.results47, go_sem, r0, r1, r2, r3]
    · rw [HR.out.1, HR.out.2]
      rfl
    · rw [HR.out.2]
      exact RowI.nil _
  obtain ⟨M, hM⟩ : ∃ M : Nat, N = (M : Int) := ⟨N.toNat, by omega⟩
  subst hM
  by_cases hge : un ≤ M
  · have hx := (HX.out w4 (Ext.refl _)).2.1
    have z0 : w4.cell? ⟨P + 1, 0, none⟩ = some (.int .i64 0) := cell_of_heap hx 0
    have f0 := frozen_of_heap hx 0
    have z1 : w4.cell? ⟨P + 1, 1, none⟩ = some (.int .i64 0) := cell_of_heap hx 1
    have f1 := frozen_of_heap hx 1
    have z2 : w4.cell? ⟨P + 1, 2, none⟩ = some (.slice none 0 0) := cell_of_heap hx 2
    have f2 := frozen_of_heap hx 2
    have z3 : w4.cell? ⟨P + 1, 3, none⟩ = some (.string ⟨#[]⟩) := cell_of_heap hx 3
    have f3 := frozen_of_heap hx 3
    have hf := set_four hx (.int .i64 0) (.int .i64 0) (.slice none 0 0) (.string ⟨#[]⟩)
    obtain ⟨wf, hwf⟩ : ∃ wf, ((((w4.setCell ⟨P + 1, 0, none⟩ (.int .i64 0)).setCell ⟨P + 1, 1, none⟩ (.int .i64 0)).setCell ⟨P + 1, 2, none⟩ (.slice none 0 0)).setCell ⟨P + 1, 3, none⟩ (.string ⟨#[]⟩)) = wf := ⟨_, rfl⟩
    rw [hwf] at hf
    have r0 := cell_of_heap hf.1 0
    have r1 := cell_of_heap hf.1 1
    have r2 := cell_of_heap hf.1 2
    have r3 := cell_of_heap hf.1 3
    have HE := Lib.hid (And.intro hwf (And.intro (ext_new HW.out.2.2.1 (by have := HW.out.2.1; omega) hf.2) (And.intro hf.2 hx)))
    have HR := Lib.hid (And.intro (show G.getErr (M : Int) = 91 by rw [HGE.out.1]; rw [if_pos (.inr (by omega))]) (show G.getRec (M : Int) = Seg.zeroR by rw [HGE.out.2]; rw [if_pos (.inr (by omega))]))
    clear hf hwf hx
    go_wp2_with fail
    rw [HE.out.1]
    refine bodyPost_ret (v := .tuple #[.agg #[.int .i64 0, .int .i64 0, .slice none 0 0, .string ⟨#[]⟩], .int .i64 91]) ?_ rfl ⟨.slice none 0 0, ?_, ?_, HE.out.2.1⟩
    · simp [results, Tryz.results47, go_sem, r0, r1, r2, r3]
    · rw [HR.out.1, HR.out.2]
      rfl
    · rw [HR.out.2]
      exact RowI.nil _
  by_cases hlt : M < T
  · have hx := (HX.out w4 (Ext.refl _)).2.1
    have z0 : w4.cell? ⟨P + 1, 0, none⟩ = some (.int .i64 0) := cell_of_heap hx 0
    have f0 := frozen_of_heap hx 0
    have z1 : w4.cell? ⟨P + 1, 1, none⟩ = some (.int .i64 0) := cell_of_heap hx 1
    have f1 := frozen_of_heap hx 1
    have z2 : w4.cell? ⟨P + 1, 2, none⟩ = some (.slice none 0 0) := cell_of_heap hx 2
    have f2 := frozen_of_heap hx 2
    have z3 : w4.cell? ⟨P + 1, 3, none⟩ = some (.string ⟨#[]⟩) := cell_of_heap hx 3
    have f3 := frozen_of_heap hx 3
    have hf := set_four hx (.int .i64 0) (.int .i64 0) (.slice none 0 0) (.string ⟨#[]⟩)
    obtain ⟨wf, hwf⟩ : ∃ wf, ((((w4.setCell ⟨P + 1, 0, none⟩ (.int .i64 0)).setCell ⟨P + 1, 1, none⟩ (.int .i64 0)).setCell ⟨P + 1, 2, none⟩ (.slice none 0 0)).setCell ⟨P + 1, 3, none⟩ (.string ⟨#[]⟩)) = wf := ⟨_, rfl⟩
    rw [hwf] at hf
    have r0 := cell_of_heap hf.1 0
    have r1 := cell_of_heap hf.1 1
    have r2 := cell_of_heap hf.1 2
    have r3 := cell_of_heap hf.1 3
    have HE := Lib.hid (And.intro hwf (And.intro (ext_new HW.out.2.2.1 (by have := HW.out.2.1; omega) hf.2) (And.intro hf.2 hx)))
    have HR := Lib.hid (And.intro (show G.getErr (M : Int) = 92 by rw [HGE.out.1]; rw [if_neg (by omega), if_pos (by omega)]) (show G.getRec (M : Int) = Seg.zeroR by rw [HGE.out.2]; rw [if_neg (by omega), if_pos (by omega)]))
    clear hf hwf hx
    go_wp2_with fail
    rw [HE.out.1]
    refine bodyPost_ret (v := .tuple #[.agg #[.int .i64 0, .int .i64 0, .slice none 0 0, .string ⟨#[]⟩], .int .i64 92]) ?_ rfl ⟨.slice none 0 0, ?_, ?_, HE.out.2.1⟩
    · simp [results, Tryz.results47, go_sem, r0, r1, r2, r3]
    · rw [HR.out.1, HR.out.2]
      rfl
    · rw [HR.out.2]
      exact RowI.nil _
  have hq : M < qs.length := by
    have h1 : un = G.w.l.length := HG.out.1
    have h2 := congrArg List.length HW.out.2.2.2.2.2
    rw [List.length_map] at h2
    omega
  obtain ⟨ab, ao, cap, e1, p0, p1, p2, p3, hrow⟩ := HW.out.2.2.2.2.1.elem M hq
  injection e1 with e1 e2 e3
  subst e1
  have hgd : G.w.l.getD M Seg.zeroR = qs[M].2 := by
    rw [← HW.out.2.2.2.2.2, List.getD_eq_getElem?_getD, List.getElem?_eq_getElem (by rw [List.length_map]; exact hq), Option.getD_some, List.getElem_map]
  obtain ⟨R9, hR9⟩ : ∃ R, qs[M].2 = R := ⟨_, rfl⟩
  obtain ⟨t9, ht9⟩ : ∃ t, qs[M].1 = t := ⟨_, rfl⟩
  rw [hR9, ht9] at hrow
  rw [hR9] at p0 p1 p3 hgd
  rw [ht9] at p2
  obtain ⟨a1, nt, a3, rfl⟩ : ∃ x y z, t9 = .slice x y z := by
    obtain ⟨b', n', ho⟩ := hrow
    exact ownSlice ho
  have hlt' : M < un := by omega
  have HROW := Lib.hid (And.intro hrow hgd)
  obtain ⟨y0, hy0⟩ : ∃ q : Int, R9.client = q := ⟨_, rfl⟩
  obtain ⟨y1, hy1⟩ : ∃ q : Int, R9.number = q := ⟨_, rfl⟩
  obtain ⟨y3, hy3⟩ : ∃ q : ByteArray, (⟨R9.data.toArray⟩ : ByteArray) = q := ⟨_, rfl⟩
  rw [hy0] at p0
  rw [hy1] at p1
  rw [hy3] at p3
  have HY := Lib.hid (And.intro hy0 (And.intro hy1 hy3))
  clear hq e2 e3 hgd hR9 ht9 hrow hy0 hy1 hy3
  have hx := (HX.out w4 (Ext.refl _)).2.1
  have z0 : w4.cell? ⟨P + 1, 0, none⟩ = some (.int .i64 0) := cell_of_heap hx 0
  have f0 := frozen_of_heap hx 0
  have z1 : w4.cell? ⟨P + 1, 1, none⟩ = some (.int .i64 0) := cell_of_heap hx 1
  have f1 := frozen_of_heap hx 1
  have z2 : w4.cell? ⟨P + 1, 2, none⟩ = some (.slice none 0 0) := cell_of_heap hx 2
  have f2 := frozen_of_heap hx 2
  have z3 : w4.cell? ⟨P + 1, 3, none⟩ = some (.string ⟨#[]⟩) := cell_of_heap hx 3
  have f3 := frozen_of_heap hx 3
  have hf := set_four hx (.int .i64 y0) (.int .i64 y1) (.slice a1 nt a3) (.string y3)
  obtain ⟨wf, hwf⟩ : ∃ wf, ((((w4.setCell ⟨P + 1, 0, none⟩ (.int .i64 y0)).setCell ⟨P + 1, 1, none⟩ (.int .i64 y1)).setCell ⟨P + 1, 2, none⟩ (.slice a1 nt a3)).setCell ⟨P + 1, 3, none⟩ (.string y3)) = wf := ⟨_, rfl⟩
  rw [hwf] at hf
  have r0 := cell_of_heap hf.1 0
  have r1 := cell_of_heap hf.1 1
  have r2 := cell_of_heap hf.1 2
  have r3 := cell_of_heap hf.1 3
  have HE := Lib.hid (And.intro hwf (And.intro (ext_new HW.out.2.2.1 (by have := HW.out.2.1; omega) hf.2) (And.intro hf.2 hx)))
  have HR := Lib.hid (And.intro (show G.getErr (M : Int) = 0 by rw [HGE.out.1, if_neg (by omega), if_neg (by omega)]) (show G.getRec (M : Int) = R9 by rw [HGE.out.2, if_neg (by omega), if_neg (by omega), Int.toNat_natCast, HROW.out.2]))
  clear hf hwf hx
  go_wp2_with fail
  rw [HE.out.1]
  refine bodyPost_ret (v := .tuple #[.agg #[.int .i64 y0, .int .i64 y1, .slice a1 nt a3, .string y3], .int .i64 0]) ?_ rfl ⟨.slice a1 nt a3, ?_, ?_, HE.out.2.1⟩
  · simp [results, Tryz.results47, go_sem, r0, r1, r2, r3]
  · rw [HR.out.1, HR.out.2]
    rw [← HY.out.1, ← HY.out.2.1, ← HY.out.2.2]
    rfl
  · rw [HR.out.2]
    exact HROW.out.1.but HE.out.2.2.2 (by decide) HE.out.2.2.1


set_option maxHeartbeats 8000000 in
theorem trimRef9_any (v : Value) (G : Seg.Sg) (N : Int) (w : World) (h : IsRef9 w v G) (hS : G.s.Ok) :
    Calls Tryz.prog 48 #[v, .int .i64 N] w (GivesRef9E w (G.trim N) (G.trimErr N)) := by
  have HREF := Lib.hid h
  have HOK := Lib.hid hS
  obtain ⟨a, c, rfl, hT⟩ := h
  obtain ⟨n, hn⟩ : ∃ n, G.s.l.length = n := ⟨_, rfl⟩
  obtain ⟨k0, hk0⟩ : ∃ q : Int, (G.s.k : Int) = q := ⟨_, rfl⟩
  obtain ⟨s0, hs0⟩ : ∃ q : Int, (G.safe : Int) = q := ⟨_, rfl⟩
  obtain ⟨o0, ho0⟩ : ∃ q, G.s.off = q := ⟨_, rfl⟩
  unfold segV at HREF ⊢
  rw [hn] at hT
  have HT := Lib.hid hT
  rw [hn, hk0, hs0, ho0] at HREF ⊢
  obtain ⟨w2, hw2⟩ : ∃ w2, ((w.alloc (.cells #[.slice a n c, .int .i64 k0, .bool o0, .int .i64 s0] 36)).alloc (.cells #[.slice none 0 0, .int .i64 0, .bool false, .int .i64 0] 36)) = w2 := ⟨_, rfl⟩
  obtain ⟨P, hP⟩ : ∃ P, w.heap.size = P := ⟨_, rfl⟩
  have h3 := heap_two w (.cells #[.slice a n c, .int .i64 k0, .bool o0, .int .i64 s0] 36) (.cells #[.slice none 0 0, .int .i64 0, .bool false, .int .i64 0] 36)
  have hE2 : Ext w w2 := by rw [← hw2]; exact ext_two _ _ _
  rw [hw2, hP] at h3
  have HOF := Lib.hid (ofRef9_any _ G w2 (HREF.out.ext hE2) hS)
  have HW2 := Lib.hid (And.intro hw2 (And.intro hP (And.intro hE2 h3)))
  have HK := Lib.hid (And.intro hn (And.intro hk0 (And.intro ho0 hs0)))
  obtain ⟨p0, p1, p2, p3⟩ := segEnd h3.1
  have hb0 := build_rec0
  clear hT hn hk0 hs0 ho0 hw2 hP h3 hE2 hS
  go_enter Tryz.func48, Tryz.ntmps48
  go_upto_region 1 with fail
  rw [HW2.out.1, HW2.out.2.1]
  go_wp2_with fail
  refine HOF.out.mono ?_
  rintro e w3 ⟨u, qs, rfl, hu, hqs, hE3⟩
  obtain ⟨ua, un, uc, rfl⟩ := ownSlice hu.row
  have hun : un = G.len := by
    obtain ⟨_, _, e, _⟩ := hu.recs
    injection e with _ e _
    rw [e, hqs]
    rfl
  obtain ⟨T, hT⟩ : ∃ q, G.w.trimmed = q := ⟨_, rfl⟩
  obtain ⟨Bk, hBk⟩ : ∃ q, G.w.broken = q := ⟨_, rfl⟩
  unfold whatV
  rw [hT, hBk]
  obtain ⟨w4, hw4⟩ : ∃ w4, w3.alloc (.cells #[.slice ua un uc, .int .i64 (T : Nat), .bool Bk] 102) = w4 := ⟨_, rfl⟩
  obtain ⟨Q, hQ⟩ : ∃ Q, w3.heap.size = Q := ⟨_, rfl⟩
  have hE4 : Ext w3 w4 := by rw [← hw4]; exact Ext.alloc _ _
  have hq4 : w4.heap[Q]? = some (.cells #[.slice ua un uc, .int .i64 (T : Nat), .bool Bk] 102 (0, 0)) := by rw [← hw4, ← hQ]; exact heap_alloc_new _ _
  have hE24 := hE3.trans hE4
  have hX : ∀ w', Ext w4 w' → w'.heap[P]? = some (.cells #[.slice a n c, .int .i64 k0, .bool o0, .int .i64 s0] 36 (0, 0)) ∧ w'.heap[P + 1]? = some (.cells #[.slice none 0 0, .int .i64 0, .bool false, .int .i64 0] 36 (0, 0)) ∧ w'.heap[Q]? = some (.cells #[.slice ua un uc, .int .i64 (T : Nat), .bool Bk] 102 (0, 0)) := fun w' hE =>
    ⟨heap_ext HW2.out.2.2.2.1 (hE24.trans hE), heap_ext HW2.out.2.2.2.2 (hE24.trans hE), heap_ext hq4 hE⟩
  have HX := Lib.hid hX
  have HW := Lib.hid (And.intro hw4 (And.intro HW2.out.2.1 (And.intro (HW2.out.2.2.1.trans hE24) (And.intro hQ (And.intro (hu.ext hE4) hqs)))))
  have HG := Lib.hid (And.intro hun (And.intro hT hBk))
  have hle : un ≤ 13107 := by rw [hun]; exact Seg.Sg.Ok.count HOK.out
  have hTle : T ≤ un := by rw [hun, ← hT]; exact G.trimmed_le
  have hx := hX w4 (Ext.refl _)
  obtain ⟨v0, v1, v2⟩ := whatEnd hx.2.2
  clear hw4 hQ hE4 hq4 hE24 hX hun hT hBk hqs hu hE3 p0 p1 p2 p3 hx
  go_upto_region 2 with fail
  rw [HW.out.1, HW.out.2.2.2.1]
  have hcase : G.tcase N = (if N < 0 ∨ (un : Int) < N then .bad else if N ≤ (T : Int) then .done else if Bk = true then .full else .next) := by
    unfold Seg.Sg.tcase
    rw [HG.out.1, HG.out.2.1, HG.out.2.2]
  have HCASE := Lib.hid hcase
  have HE4 := Lib.hid (Ext.refl w4)
  clear hcase hb0
  by_cases hneg : N < 0
  · have hc : G.tcase N = .bad := by rw [HCASE.out, if_pos (.inl hneg)]
    have HC := Lib.hid hc
    clear hc
    have hx := HX.out w4 HE4.out
    obtain ⟨x0, x1, x2, x3⟩ := segEnd hx.1
    obtain ⟨z0, z1, z2, z3⟩ := segEnd hx.2.1
    have f0 : w4.frozen? ⟨P + 1, 0, none⟩ = false := frozen_of_row w4 (P + 1) 0 _ _ hx.2.1
    have f1 : w4.frozen? ⟨P + 1, 1, none⟩ = false := frozen_of_row w4 (P + 1) 1 _ _ hx.2.1
    have f2 : w4.frozen? ⟨P + 1, 2, none⟩ = false := frozen_of_row w4 (P + 1) 2 _ _ hx.2.1
    have f3 : w4.frozen? ⟨P + 1, 3, none⟩ = false := frozen_of_row w4 (P + 1) 3 _ _ hx.2.1
    have hf := fill_seg hx.2.1 (.slice a n c) (.int .i64 k0) (.bool o0) (.int .i64 s0)
    obtain ⟨wf, hwz⟩ : ∃ wf, ((((w4.setCell ⟨P + 1, 0, none⟩ (.slice a n c)).setCell ⟨P + 1, 1, none⟩ (.int .i64 k0)).setCell ⟨P + 1, 2, none⟩ (.bool o0)).setCell ⟨P + 1, 3, none⟩ (.int .i64 s0)) = wf := ⟨_, rfl⟩
    rw [hwz] at hf
    obtain ⟨r0, r1, r2, r3⟩ := segEnd hf.1
    have HE := Lib.hid (And.intro hwz (And.intro (ext_new (HW.out.2.2.1.trans HE4.out) (by have := HW.out.2.1; omega) hf.2) ((HT.out.ext (HW.out.2.2.1.trans HE4.out)).butT hx.2.1 (by decide) hf.2)))
    have HRES := Lib.hid (And.intro (show G.trimErr N = 1 by unfold Seg.Sg.trimErr; rw [HC.out]) (show G.trim N = G by unfold Seg.Sg.trim; rw [HC.out]))
    clear hx hf hwz
    go_wp2_with fail
    rw [HE.out.1]
    refine bodyPost_ret (v := .tuple #[segV a n c k0 o0 s0, .int .i64 1]) ?_ rfl ⟨segV a n c k0 o0 s0, ?_, ?_, HE.out.2.1⟩
    · simp [results, Tryz.results48, go_sem, r0, r1, r2, r3, segV]
    · rw [HRES.out.1]
    · rw [HRES.out.2]
      refine ⟨a, c, ?_, ?_⟩
      · rw [HK.out.1, HK.out.2.1, HK.out.2.2.1, HK.out.2.2.2]
      · rw [HK.out.1]
        exact HE.out.2.2
  obtain ⟨M, hM⟩ : ∃ M : Nat, N = (M : Int) := ⟨N.toNat, by omega⟩
  subst hM
  by_cases hgt : un < M
  · have hc : G.tcase (M : Int) = .bad := by rw [HCASE.out, if_pos (.inr (by omega))]
    have HC := Lib.hid hc
    clear hc
    have hx := HX.out w4 HE4.out
    obtain ⟨x0, x1, x2, x3⟩ := segEnd hx.1
    obtain ⟨z0, z1, z2, z3⟩ := segEnd hx.2.1
    have f0 : w4.frozen? ⟨P + 1, 0, none⟩ = false := frozen_of_row w4 (P + 1) 0 _ _ hx.2.1
    have f1 : w4.frozen? ⟨P + 1, 1, none⟩ = false := frozen_of_row w4 (P + 1) 1 _ _ hx.2.1
    have f2 : w4.frozen? ⟨P + 1, 2, none⟩ = false := frozen_of_row w4 (P + 1) 2 _ _ hx.2.1
    have f3 : w4.frozen? ⟨P + 1, 3, none⟩ = false := frozen_of_row w4 (P + 1) 3 _ _ hx.2.1
    have hf := fill_seg hx.2.1 (.slice a n c) (.int .i64 k0) (.bool o0) (.int .i64 s0)
    obtain ⟨wf, hwz⟩ : ∃ wf, ((((w4.setCell ⟨P + 1, 0, none⟩ (.slice a n c)).setCell ⟨P + 1, 1, none⟩ (.int .i64 k0)).setCell ⟨P + 1, 2, none⟩ (.bool o0)).setCell ⟨P + 1, 3, none⟩ (.int .i64 s0)) = wf := ⟨_, rfl⟩
    rw [hwz] at hf
    obtain ⟨r0, r1, r2, r3⟩ := segEnd hf.1
    have HE := Lib.hid (And.intro hwz (And.intro (ext_new (HW.out.2.2.1.trans HE4.out) (by have := HW.out.2.1; omega) hf.2) ((HT.out.ext (HW.out.2.2.1.trans HE4.out)).butT hx.2.1 (by decide) hf.2)))
    have HRES := Lib.hid (And.intro (show G.trimErr (M : Int) = 1 by unfold Seg.Sg.trimErr; rw [HC.out]) (show G.trim (M : Int) = G by unfold Seg.Sg.trim; rw [HC.out]))
    clear hx hf hwz
    go_wp2_with fail
    rw [HE.out.1]
    refine bodyPost_ret (v := .tuple #[segV a n c k0 o0 s0, .int .i64 1]) ?_ rfl ⟨segV a n c k0 o0 s0, ?_, ?_, HE.out.2.1⟩
    · simp [results, Tryz.results48, go_sem, r0, r1, r2, r3, segV]
    · rw [HRES.out.1]
    · rw [HRES.out.2]
      refine ⟨a, c, ?_, ?_⟩
      · rw [HK.out.1, HK.out.2.1, HK.out.2.2.1, HK.out.2.2.2]
      · rw [HK.out.1]
        exact HE.out.2.2
  by_cases hle2 : M ≤ T
  · have hc : G.tcase (M : Int) = .done := by rw [HCASE.out, if_neg (by omega), if_pos (by omega)]
    have HC := Lib.hid hc
    clear hc
    have hx := HX.out w4 HE4.out
    obtain ⟨x0, x1, x2, x3⟩ := segEnd hx.1
    obtain ⟨z0, z1, z2, z3⟩ := segEnd hx.2.1
    have f0 : w4.frozen? ⟨P + 1, 0, none⟩ = false := frozen_of_row w4 (P + 1) 0 _ _ hx.2.1
    have f1 : w4.frozen? ⟨P + 1, 1, none⟩ = false := frozen_of_row w4 (P + 1) 1 _ _ hx.2.1
    have f2 : w4.frozen? ⟨P + 1, 2, none⟩ = false := frozen_of_row w4 (P + 1) 2 _ _ hx.2.1
    have f3 : w4.frozen? ⟨P + 1, 3, none⟩ = false := frozen_of_row w4 (P + 1) 3 _ _ hx.2.1
    have hf := fill_seg hx.2.1 (.slice a n c) (.int .i64 k0) (.bool o0) (.int .i64 s0)
    obtain ⟨wf, hwz⟩ : ∃ wf, ((((w4.setCell ⟨P + 1, 0, none⟩ (.slice a n c)).setCell ⟨P + 1, 1, none⟩ (.int .i64 k0)).setCell ⟨P + 1, 2, none⟩ (.bool o0)).setCell ⟨P + 1, 3, none⟩ (.int .i64 s0)) = wf := ⟨_, rfl⟩
    rw [hwz] at hf
    obtain ⟨r0, r1, r2, r3⟩ := segEnd hf.1
    have HE := Lib.hid (And.intro hwz (And.intro (ext_new (HW.out.2.2.1.trans HE4.out) (by have := HW.out.2.1; omega) hf.2) ((HT.out.ext (HW.out.2.2.1.trans HE4.out)).butT hx.2.1 (by decide) hf.2)))
    have HRES := Lib.hid (And.intro (show G.trimErr (M : Int) = 0 by unfold Seg.Sg.trimErr; rw [HC.out]) (show G.trim (M : Int) = G by unfold Seg.Sg.trim; rw [HC.out]))
    clear hx hf hwz
    go_wp2_with fail
    rw [HE.out.1]
    refine bodyPost_ret (v := .tuple #[segV a n c k0 o0 s0, .int .i64 0]) ?_ rfl ⟨segV a n c k0 o0 s0, ?_, ?_, HE.out.2.1⟩
    · simp [results, Tryz.results48, go_sem, r0, r1, r2, r3, segV]
    · rw [HRES.out.1]
    · rw [HRES.out.2]
      refine ⟨a, c, ?_, ?_⟩
      · rw [HK.out.1, HK.out.2.1, HK.out.2.2.1, HK.out.2.2.2]
      · rw [HK.out.1]
        exact HE.out.2.2
  cases Bk with
  | true =>
    have hc : G.tcase (M : Int) = .full := by rw [HCASE.out, if_neg (by omega), if_neg (by omega), if_pos rfl]
    have HC := Lib.hid hc
    clear hc
    have hx := HX.out w4 HE4.out
    obtain ⟨x0, x1, x2, x3⟩ := segEnd hx.1
    obtain ⟨z0, z1, z2, z3⟩ := segEnd hx.2.1
    have f0 : w4.frozen? ⟨P + 1, 0, none⟩ = false := frozen_of_row w4 (P + 1) 0 _ _ hx.2.1
    have f1 : w4.frozen? ⟨P + 1, 1, none⟩ = false := frozen_of_row w4 (P + 1) 1 _ _ hx.2.1
    have f2 : w4.frozen? ⟨P + 1, 2, none⟩ = false := frozen_of_row w4 (P + 1) 2 _ _ hx.2.1
    have f3 : w4.frozen? ⟨P + 1, 3, none⟩ = false := frozen_of_row w4 (P + 1) 3 _ _ hx.2.1
    have hf := fill_seg hx.2.1 (.slice a n c) (.int .i64 k0) (.bool o0) (.int .i64 s0)
    obtain ⟨wf, hwz⟩ : ∃ wf, ((((w4.setCell ⟨P + 1, 0, none⟩ (.slice a n c)).setCell ⟨P + 1, 1, none⟩ (.int .i64 k0)).setCell ⟨P + 1, 2, none⟩ (.bool o0)).setCell ⟨P + 1, 3, none⟩ (.int .i64 s0)) = wf := ⟨_, rfl⟩
    rw [hwz] at hf
    obtain ⟨r0, r1, r2, r3⟩ := segEnd hf.1
    have HE := Lib.hid (And.intro hwz (And.intro (ext_new (HW.out.2.2.1.trans HE4.out) (by have := HW.out.2.1; omega) hf.2) ((HT.out.ext (HW.out.2.2.1.trans HE4.out)).butT hx.2.1 (by decide) hf.2)))
    have HRES := Lib.hid (And.intro (show G.trimErr (M : Int) = 90 by unfold Seg.Sg.trimErr; rw [HC.out]) (show G.trim (M : Int) = G by unfold Seg.Sg.trim; rw [HC.out]))
    clear hx hf hwz
    go_wp2_with fail
    rw [HE.out.1]
    refine bodyPost_ret (v := .tuple #[segV a n c k0 o0 s0, .int .i64 90]) ?_ rfl ⟨segV a n c k0 o0 s0, ?_, ?_, HE.out.2.1⟩
    · simp [results, Tryz.results48, go_sem, r0, r1, r2, r3, segV]
    · rw [HRES.out.1]
    · rw [HRES.out.2]
      refine ⟨a, c, ?_, ?_⟩
      · rw [HK.out.1, HK.out.2.1, HK.out.2.2.1, HK.out.2.2.2]
      · rw [HK.out.1]
        exact HE.out.2.2
  | false =>
    have hc : G.tcase (M : Int) = .next := by rw [HCASE.out, if_neg (by omega), if_neg (by omega), if_neg (by simp)]
    have HRES := Lib.hid (And.intro (show G.trimErr (M : Int) = G.s.appendErr (Seg.trimFrame M) by unfold Seg.Sg.trimErr; rw [hc]; rfl) (show G.trim (M : Int) = ⟨G.s.append (Seg.trimFrame M), G.safe⟩ by unfold Seg.Sg.trim; rw [hc]; rfl))
    have hnum := Pack.num_nine (n := M) (by omega)
    have hwd := wordOf (Pack.num M) 2
    obtain ⟨E, hE⟩ : ∃ E, Pack.num M = E := ⟨_, rfl⟩
    rw [hE] at hwd hnum
    have hfr : Seg.trimFrame M = 2 :: E := by unfold Seg.trimFrame; rw [hE]
    have hn9 : ∀ w', Ext w4 w' → Calls Tryz.prog 89 #[.int .i64 (M : Int)] w' fun e w'' => e = .returned (.string ⟨E.toArray⟩) ∧ Ext w' w'' := fun w' hE' => by
      have h := numRef_nat M w' (by omega)
      rw [hE] at h
      exact h
    have hadd : ∀ w', Ext w4 w' → Calls Tryz.prog 88 #[.agg #[.slice a n c, .int .i64 k0, .bool o0, .int .i64 s0], .string ⟨(2 :: E).toArray⟩] w' fun e w'' => ∃ x, e = .returned x ∧ Ext w' w'' ∧ ∃ u, x = .tuple #[u, .int .i64 (G.s.appendErr (Seg.trimFrame M))] ∧ IsRef9 w'' u ⟨G.s.append (Seg.trimFrame M), G.safe⟩ := fun w' hE' => by
      have h := addRef9_any _ G (2 :: E) w' (HREF.out.ext (HW.out.2.2.1.trans hE')) HOK.out (by simp only [List.length_cons]; omega)
      rw [← hfr] at h
      rw [← hfr]
      exact h.mono fun e w'' ⟨u, he, hu, hE2⟩ => ⟨_, he, hE2, u, rfl, hu⟩
    have HN9 := Lib.hid hn9
    have HADD := Lib.hid hadd
    have HWD := Lib.hid hwd
    obtain ⟨er, her⟩ : ∃ q, G.s.appendErr (Seg.trimFrame M) = q := ⟨_, rfl⟩
    rw [her] at HADD HRES
    clear hc hE hwd hfr hn9 hadd her
    go_upto_region 8 with fail
    clear v0 v1 v2
    refine wp_region_tail (by kernel_rfl) 7 Ext (fun iop v w => match iop with
        | 0 => v = .agg #[.slice a n c, .int .i64 k0, .bool o0, .int .i64 s0]
        | 1 => v = .int .i64 (M : Int)
        | 2 => v = .string ⟨E.toArray⟩
        | 3 => v = .string ⟨(2 :: E).toArray⟩
        | 4 => ∃ u, v = .tuple #[u, .int .i64 er] ∧ IsRef9 w u ⟨G.s.append (Seg.trimFrame M), G.safe⟩
        | 5 => IsRef9 w v ⟨G.s.append (Seg.trimFrame M), G.safe⟩
        | _ => v = .int .i64 er
        ) (by kernel_rfl) (by kernel_rfl) (by decide) (fun _ _ _ h k => Ext.trans h k) (fun a => Ext.refl a) (Ext.drew _) ?_ ?_ ?_
    · intro iop v wa wb hF hL
      iterate 4 (rcases iop with _ | iop; exact hF)
      iterate 2 (rcases iop with _ | iop; (first | exact hF | exact IsRef9.ext hF hL | (obtain ⟨u, hu, hr⟩ := hF; exact ⟨u, hu, hr.ext hL⟩)))
      exact hF
    · refine Obls.cons ?_ (Obls.cons ?_ (Obls.cons ?_ (Obls.cons ?_ (Obls.cons ?_ (Obls.cons ?_ (Obls.cons ?_ (Obls.nil)))))))
      · intro ev wy hp hl hk hd
        have e2 : ev (.tmp 2) = .pointer (some ⟨P, 0, none⟩) := hk 2 (by decide)
        clear hk hd
        have hx := (HX.out _ hl).1
        exact Yield.load rfl e2 (by simp [go_sem, cell_of_heap hx 0, cell_of_heap hx 1, cell_of_heap hx 2, cell_of_heap hx 3]) ⟨Ext.refl _, rfl⟩
      · intro ev wy hp hl hk hd
        have e1 : ev (.tmp 1) = .int .i64 (M : Int) := hk 1 (by decide)
        clear hk hd
        exact Yield.mv rfl ⟨Ext.refl _, e1⟩
      · intro ev wy hp hl hk hd
        have e28 : ev (.tmp 28) = .int .i64 (M : Int) := hk 28 (by decide)
        clear hk hd
        refine Yield.call rfl hp Tryz.func89 rfl (by kernel_rfl) ?_
        simp only [List.map_toArray, List.map_cons, List.map_nil, e28]
        exact (HN9.out wy hl).mono fun _ _ ⟨he, hb⟩ => ⟨_, he, hb, by first | rfl | simp⟩
      · intro ev wy hp hl hk hd
        have e29 : ev (.tmp 29) = .string ⟨E.toArray⟩ := hk 29 (by decide)
        clear hk hd
        exact Yield.op (v := .string ⟨(2 :: E).toArray⟩) (w' := wy) (by simp [execOp, go_sem, hp.const, e29]; rw [if_neg (by omega), HWD.out]) ⟨Ext.refl _, rfl⟩
      · intro ev wy hp hl hk hd
        have e27 : ev (.tmp 27) = .agg #[.slice a n c, .int .i64 k0, .bool o0, .int .i64 s0] := hk 27 (by decide)
        have e30 : ev (.tmp 30) = .string ⟨(2 :: E).toArray⟩ := hk 30 (by decide)
        clear hk hd
        refine Yield.call rfl hp Tryz.func88 rfl (by kernel_rfl) ?_
        simp only [List.map_toArray, List.map_cons, List.map_nil, e27, e30]
        exact (HADD.out wy hl).mono fun _ _ ⟨u, he, hb, hu⟩ => ⟨u, he, hb, hu⟩
      · intro ev wy hp hl hk hd
        have f31 : (fun (v : Value) (w : World) => ∃ u, v = .tuple #[u, .int .i64 er] ∧ IsRef9 w u ⟨G.s.append (Seg.trimFrame M), G.safe⟩) (ev (.tmp 31)) wy := hk 31 (by decide)
        generalize hx31 : ev (.tmp 31) = x31 at *
        clear hk hd
        obtain ⟨u, hu, hr⟩ := f31
        rw [hu] at hx31
        exact Yield.op (v := u) (w' := wy) (by simp [execOp, go_sem, hx31]) ⟨Ext.refl _, hr⟩
      · intro ev wy hp hl hk hd
        have f31 : (fun (v : Value) (w : World) => ∃ u, v = .tuple #[u, .int .i64 er] ∧ IsRef9 w u ⟨G.s.append (Seg.trimFrame M), G.safe⟩) (ev (.tmp 31)) wy := hk 31 (by decide)
        generalize hx31 : ev (.tmp 31) = x31 at *
        clear hk hd
        obtain ⟨u, hu, hr⟩ := f31
        rw [hu] at hx31
        exact Yield.op (v := .int .i64 er) (w' := wy) (by simp [execOp, go_sem, hx31]) ⟨Ext.refl _, rfl⟩
    · intro vals wz hz hv
      have g27 : vals 0 = .agg #[.slice a n c, .int .i64 k0, .bool o0, .int .i64 s0] := hv 0 (by decide)
      have g28 : vals 1 = .int .i64 (M : Int) := hv 1 (by decide)
      have g29 : vals 2 = .string ⟨E.toArray⟩ := hv 2 (by decide)
      have g30 : vals 3 = .string ⟨(2 :: E).toArray⟩ := hv 3 (by decide)
      have g31 : (fun (v : Value) (w : World) => ∃ u, v = .tuple #[u, .int .i64 er] ∧ IsRef9 w u ⟨G.s.append (Seg.trimFrame M), G.safe⟩) (vals 4) wz := hv 4 (by decide)
      have g32 : (fun (v : Value) (w : World) => IsRef9 w v ⟨G.s.append (Seg.trimFrame M), G.safe⟩) (vals 5) wz := hv 5 (by decide)
      have g33 : vals 6 = .int .i64 er := hv 6 (by decide)
      clear hv
      simp only [List.take_succ_cons, List.take_zero, List.drop_succ_cons, List.drop_zero]
      simp only [putAll, Act.put, List.setIfInBounds_toArray, List.set_cons_zero, List.set_cons_succ, g27, g28, g29, g30, g33]
      clear g27
      clear g28
      clear g29
      clear g30
      generalize vals 4 = v31 at *
      generalize vals 5 = v32 at *
      clear g33
      obtain ⟨a', c', e32, ht'⟩ := g32
      subst e32
      obtain ⟨n', hn'⟩ : ∃ n, (G.s.append (Seg.trimFrame M)).l.length = n := ⟨_, rfl⟩
      obtain ⟨k', hk'⟩ : ∃ q : Int, ((G.s.append (Seg.trimFrame M)).k : Int) = q := ⟨_, rfl⟩
      obtain ⟨o', ho'⟩ : ∃ q, (G.s.append (Seg.trimFrame M)).off = q := ⟨_, rfl⟩
      obtain ⟨s', hs'⟩ : ∃ q : Int, (G.safe : Int) = q := ⟨_, rfl⟩
      simp only [segV, hn', hk', ho', hs']
      simp only [hn'] at ht'
      have hx := HX.out wz hz
      obtain ⟨z0, z1, z2, z3⟩ := segEnd hx.2.1
      have f0 : wz.frozen? ⟨P + 1, 0, none⟩ = false := frozen_of_row wz (P + 1) 0 _ _ hx.2.1
      have f1 : wz.frozen? ⟨P + 1, 1, none⟩ = false := frozen_of_row wz (P + 1) 1 _ _ hx.2.1
      have f2 : wz.frozen? ⟨P + 1, 2, none⟩ = false := frozen_of_row wz (P + 1) 2 _ _ hx.2.1
      have f3 : wz.frozen? ⟨P + 1, 3, none⟩ = false := frozen_of_row wz (P + 1) 3 _ _ hx.2.1
      have hf := fill_seg hx.2.1 (.slice a' n' c') (.int .i64 k') (.bool o') (.int .i64 s')
      obtain ⟨wf, hwz⟩ : ∃ wf, ((((wz.setCell ⟨P + 1, 0, none⟩ (.slice a' n' c')).setCell ⟨P + 1, 1, none⟩ (.int .i64 k')).setCell ⟨P + 1, 2, none⟩ (.bool o')).setCell ⟨P + 1, 3, none⟩ (.int .i64 s')) = wf := ⟨_, rfl⟩
      rw [hwz] at hf
      obtain ⟨r0, r1, r2, r3⟩ := segEnd hf.1
      have HE := Lib.hid (And.intro hwz (And.intro (ext_new (HW.out.2.2.1.trans hz) (by have := HW.out.2.1; omega) hf.2) (And.intro (ht'.butT hx.2.1 (by decide) hf.2) (And.intro hn' (And.intro hk' (And.intro ho' hs'))))))
      clear hx hf hwz hn' hk' ho' hs' ht' hz g31
      go_wp2_with fail
      rw [HE.out.1]
      refine bodyPost_ret (v := .tuple #[segV a' n' c' k' o' s', .int .i64 er]) ?_ rfl ⟨segV a' n' c' k' o' s', ?_, ?_, HE.out.2.1⟩
      · simp [results, Tryz.results48, go_sem, r0, r1, r2, r3, segV]
      · rw [HRES.out.1]
      · rw [HRES.out.2]
        refine ⟨a', c', ?_, ?_⟩
        · simp only [HE.out.2.2.2.1, HE.out.2.2.2.2.1, HE.out.2.2.2.2.2.1, HE.out.2.2.2.2.2.2]
        · simp only [HE.out.2.2.2.1]
          exact HE.out.2.2.1
end Go.Proofs.YtfgjhagfpafmoaaGreat
