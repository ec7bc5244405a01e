/-
  Merged: Layer 9: Sync, Crash, Get.
-/
import Derived.Test.YtaijgpdlgcgfaaaGreatBsSgH

namespace Go.Proofs.YtaijgpdlgcgfaaaGreat
set_option linter.unusedSimpArgs false
set_option linter.unusedVariables false
set_option maxRecDepth 100000
open Go.RowKit
/- Layer 9: Sync, Crash, Get. -/
def GivesSegS0 (B : Nat) (S : Nat → Prop) (g p : Nat) (ps0 : List (Value × Rec.R)) (w : World) (G : Seg.Sg) (e : Ending) (w' : World) : Prop := e = .returned (.tuple #[]) ∧ (∃ va vp lv ps, IsSegS w' B (Later S w w') g p va vp lv ps G ∧ TagsNew w ps0 ps) ∧ TwS S w w' ∧ K9 w w'
theorem set_five {w : World} {q : Nat} {x0 x1 x2 x3 x4 : Value} {T : TypeId} (h : w.heap[q]? = some (.cells #[x0, x1, x2, x3, x4] T (0, 0))) (v0 v1 v2 v3 v4 : Value) :
    (((((w.setCell ⟨q, 0, none⟩ v0).setCell ⟨q, 1, none⟩ v1).setCell ⟨q, 2, none⟩ v2).setCell ⟨q, 3, none⟩ v3).setCell ⟨q, 4, none⟩ v4).heap[q]? = some (.cells #[v0, v1, v2, v3, v4] T (0, 0)) ∧ But q w (((((w.setCell ⟨q, 0, none⟩ v0).setCell ⟨q, 1, none⟩ v1).setCell ⟨q, 2, none⟩ v2).setCell ⟨q, 3, none⟩ v3).setCell ⟨q, 4, none⟩ v4) :=
  ⟨heap_setCell (heap_setCell (heap_setCell (heap_setCell (heap_setCell h 0 v0) 1 v1) 2 v2) 3 v3) 4 v4, (((((But.refl q w).setCell 0 none v0).setCell 1 none v1).setCell 2 none v2).setCell 3 none v3).setCell 4 none v4⟩

set_option maxHeartbeats 8000000 in
theorem crash9S {w : World} {B g p : Nat} {S : Nat → Prop} {va vp lv : Value} {ps : List (Value × Rec.R)} {G : Seg.Sg} (h : IsSegS w B S g p va vp lv ps G) (keep : Int) (hk : -9223372036854775808 ≤ keep ∧ keep ≤ 9223372036854775807) :
    Calls Tryz.prog 60 #[.pointer (some ⟨g, 0, none⟩), .int .i64 keep] w (GivesSegS0 B S g p ps w (G.crash keep)) := by
  have H := Lib.hid h
  have hB : B ≤ w.heap.size := h.base
  have k0 : w.cell? ⟨g, 0, none⟩ = some (.pointer (some ⟨p, 0, none⟩)) := cell_of_heap h.seg.heap 0
  have hgp : g ≠ p := fun e => by
    have h1 := h.seg.heap
    rw [e, h.sto.heap] at h1
    injection h1 with h1
    injection h1 with _ h1 _
    exact absurd h1 (by decide)
  clear h
  go_enter Tryz.func60, Tryz.ntmps60
  go_wp2_with fail
  refine (crash8_any H.out.sto keep hk).mono ?_
  rintro e w2 ⟨rfl, hB2, va2, vp2, hs2⟩
  have hg2 : w2.heap[g]? = _ := (hB2.block g H.out.seg.lt hgp).trans H.out.seg.heap
  have k0' : w2.cell? ⟨g, 0, none⟩ = some (.pointer (some ⟨p, 0, none⟩)) := cell_of_heap hg2 0
  have HG2 := Lib.hid hg2
  have HS2 := Lib.hid hs2
  have HB2 := Lib.hid hB2
  clear k0 hs2 hg2 hB2
  go_wp2_with fail
  refine (open9_any HS2.out).mono ?_
  rintro e w3 ⟨rfl, ⟨lv3, ps3, hs3⟩, hE3⟩
  obtain ⟨g3, hg3⟩ : ∃ g3, w2.heap.size = g3 := ⟨_, rfl⟩
  rw [hg3] at hs3 ⊢
  obtain ⟨la, lc, rfl, _⟩ := hs3.open
  have hg9 : w3.heap[g]? = _ := heap_ext HG2.out hE3
  have hlt : g < g3 := by have := (Array.getElem?_eq_some_iff.1 HG2.out).1; omega
  obtain ⟨N, hN⟩ : ∃ N, ps3.length = N := ⟨_, rfl⟩
  obtain ⟨t3, ht3⟩ : ∃ t : Int, ((Seg.readF (G.s.crash keep).l).trimmed : Int) = t := ⟨_, rfl⟩
  obtain ⟨s3, hs3'⟩ : ∃ t : Int, ((Seg.readF (G.s.crash keep).l).l.length : Int) = t := ⟨_, rfl⟩
  obtain ⟨b3, hb3⟩ : ∃ b, (Seg.readF (G.s.crash keep).l).broken = b := ⟨_, rfl⟩
  have hh3 : w3.heap[g3]? = some (.cells #[.pointer (some ⟨p, 0, none⟩), .int .i64 t3, .slice la N lc, .int .i64 s3, .bool b3] 177 (0, 0)) := by rw [← ht3, ← hs3', ← hb3, ← hN]; exact hs3.heap
  have x0 : w3.cell? ⟨g3, 0, none⟩ = some (.pointer (some ⟨p, 0, none⟩)) := cell_of_heap hh3 0
  have x1 : w3.cell? ⟨g3, 1, none⟩ = some (.int .i64 t3) := cell_of_heap hh3 1
  have x2 : w3.cell? ⟨g3, 2, none⟩ = some (.slice la N lc) := cell_of_heap hh3 2
  have x3 : w3.cell? ⟨g3, 3, none⟩ = some (.int .i64 s3) := cell_of_heap hh3 3
  have x4 : w3.cell? ⟨g3, 4, none⟩ = some (.bool b3) := cell_of_heap hh3 4
  have y0 : w3.cell? ⟨g, 0, none⟩ = some (.pointer (some ⟨p, 0, none⟩)) := cell_of_heap hg9 0
  have y1 := cell_of_heap hg9 1
  have y2 := cell_of_heap hg9 2
  have y3 := cell_of_heap hg9 3
  have y4 := cell_of_heap hg9 4
  have f0 := frozen_of_heap hg9 0
  have f1 := frozen_of_heap hg9 1
  have f2 := frozen_of_heap hg9 2
  have f3 := frozen_of_heap hg9 3
  have f4 := frozen_of_heap hg9 4
  have HF := Lib.hid (set_five hg9 (.pointer (some ⟨p, 0, none⟩)) (.int .i64 t3) (.slice la N lc) (.int .i64 s3) (.bool b3))
  have HG9 := Lib.hid hg9
  have HS3 := Lib.hid (And.intro hs3 hE3)
  have HV := Lib.hid (And.intro hN (And.intro ht3 (And.intro hs3' hb3)))
  have HG3 := Lib.hid hg3
  clear hs3 hE3 hg9 hh3 hN ht3 hs3' hb3 k0' hg3
  go_wp2_with fail
  go_end0
  obtain ⟨hf1, hf2⟩ := HF.out
  rw [← HV.out.1, ← HV.out.2.1, ← HV.out.2.2.1, ← HV.out.2.2.2] at hf1 hf2 ⊢
  have hBw : B ≤ w2.heap.size := Nat.le_trans hB HB2.out.size
  have hseg := (HS3.out.1.lower (B' := B) (by rw [← HG3.out]; exact hBw))
  have hsto := (HS2.out.lower hB).ext HS3.out.2
  refine ⟨rfl, ⟨va2, vp2, .slice la ps3.length lc, ps3, H.out.of (G' := G.crash keep) (hsto.keep9 (Keep9.but hf2 HG9.out)) ⟨hf1, rowBut hseg.row (rowBeside hseg.row HG9.out (by decide)) hf2, hseg.recs, fun q hq => (hseg.tags q hq).butT HG9.out (by decide) hf2, hseg.low⟩ (fun k hk => .inr (HS2.out.all.lt k hk).1) (fun k hk => .inr (HS2.out.places.lt k hk).1) (fun k hk => .inr (Nat.le_trans HB2.out.size (by have := (HS3.out.1.row.lt k hk).1; rw [← HG3.out] at this; exact this))), TagsNew.fresh (C := w2.heap.size) HB2.out.size (by rw [HG3.out]; exact HS3.out.1.low)⟩, ?_, (K9.sto HB2.out H.out.sto).trans ((K9.ext HS3.out.2).trans (Keep9.but hf2 HG9.out).k9)⟩
  exact (TwS.but HB2.out H.out.p2).trans ((TwS.ext HS3.out.2).trans (TwS.but hf2 H.out.g2))

set_option maxHeartbeats 8000000 in
theorem sync9S {w : World} {B g p : Nat} {S : Nat → Prop} {va vp lv : Value} {ps : List (Value × Rec.R)} {G : Seg.Sg} (h : IsSegS w B S g p va vp lv ps G) (hok : G.Ok) :
    Calls Tryz.prog 55 #[.pointer (some ⟨g, 0, none⟩)] w (GivesSegS0 B S g p ps w G.sync) := by
  have H := Lib.hid h
  have hB : B ≤ w.heap.size := h.base
  have k0 : w.cell? ⟨g, 0, none⟩ = some (.pointer (some ⟨p, 0, none⟩)) := cell_of_heap h.seg.heap 0
  have hsa := Seg.sync_as hok
  have hsw : (⟨G.s.sync, G.safe⟩ : Seg.Sg).w = G.w := by unfold Seg.Sg.w; rw [Seg.sync_l]
  have HSA := Lib.hid (And.intro hsa hsw)
  clear h hsa hsw
  go_enter Tryz.func55, Tryz.ntmps55
  go_wp2_with fail
  refine (sync8_any H.out.sto).mono ?_
  rintro e w2 ⟨rfl, hB2, hs2⟩
  have hseg2 := H.out.seg.butT H.out.sto.heap (by decide) (by decide) (by decide) hB2
  have hEd := Ext.drew w2
  have k0' : w2.drew.cell? ⟨g, 0, none⟩ = some (.pointer (some ⟨p, 0, none⟩)) := cell_of_heap (heap_ext hseg2.heap hEd) 0
  obtain ⟨X, hX⟩ : ∃ X, G.s.sync.syn = X := ⟨_, rfl⟩
  obtain ⟨Y, hY⟩ : ∃ Y, (Page.bytes G.s.sync.l).length = Y := ⟨_, rfl⟩
  have hsyn := synced8_any (hs2.ext hEd)
  have hlen := len8_any (hs2.ext hEd)
  rw [hX] at hsyn
  rw [hY] at hlen
  have HSYN := Lib.hid hsyn
  have HLEN := Lib.hid hlen
  have HXY := Lib.hid (And.intro hX hY)
  have HS2 := Lib.hid (And.intro hs2 (And.intro hseg2 hB2))
  clear k0 hs2 hseg2 hB2 hX hY hsyn hlen hEd
  go_wp2_with fail
  go_region_law (first
    | (go_simp; go_at_call 104; refine HSYN.out.mono ?_; rintro e w3 ⟨rfl, rfl⟩)
    | (go_simp; go_at_call 105; refine HLEN.out.mono ?_; rintro e w3 ⟨rfl, rfl⟩))
  all_goals
    have hT2 : TwS S w w2.drew := (TwS.but HS2.out.2.2 H.out.p2).trans (TwS.ext (Ext.drew w2))
    have hs2 := HS2.out.1.ext (Ext.drew w2)
    have hseg2 := HS2.out.2.1.ext (Ext.drew w2)
    by_cases hxy : X = Y
    · subst hxy
      have hres : G.sync = ⟨G.s.sync, G.len⟩ := by rw [HSA.out.1, HXY.out.1, HXY.out.2, if_pos rfl]
      have HRS := Lib.hid hres
      have HT2 := Lib.hid (And.intro hT2 (And.intro hs2 hseg2))
      clear hT2 hs2 hseg2 hres k0'
      go_wp2_with fail
      refine (seglen_any HT2.out.2.2 H.out.good.1 (Nat.le_trans H.out.good.2 (by omega))).mono ?_
      rintro e w3 ⟨rfl, hE3⟩
      have hg3 := HT2.out.2.2.ext hE3
      have k3 := cell_of_heap hg3.heap 3
      have f3 := frozen_of_heap hg3.heap 3
      have hset := hg3.setSafe G.w.l.length
      have hbt := butSet w3 g 3 (.int .i64 (G.w.l.length : Nat))
      have hsto := (HT2.out.2.1.ext hE3).keep9 (Keep9.but hbt hg3.heap)
      have hfin : GivesSegS0 B S g p ps w G.sync (.returned (.tuple #[])) (w3.setCell ⟨g, 3, none⟩ (.int .i64 (G.w.l.length : Nat))) := by
        rw [HRS.out]
        refine ⟨rfl, ⟨_, _, lv, ps, H.out.of hsto ?_ (OrNew.refl _ _) (OrNew.refl _ _) (OrNew.refl _ _), TagsNew.refl _ _⟩, HT2.out.1.trans ((TwS.ext hE3).trans (TwS.but hbt H.out.g2)), (K9.sto HS2.out.2.2 H.out.sto).trans ((K9.ext ((Ext.drew w2).trans hE3)).trans (Keep9.but hbt hg3.heap).k9)⟩
        have hw : (⟨G.s.sync, G.len⟩ : Seg.Sg).w = G.w := HSA.out.2
        rw [hw]
        exact hset
      have HFIN := Lib.hid hfin
      clear hfin hset hsto hbt hg3 hE3
      go_wp2_with fail
      go_end0
      exact HFIN.out
    · have hxy2 : ((X : Int) == (Y : Int)) = false := by rw [beq_eq_false_iff_ne]; omega
      have hres : G.sync = ⟨G.s.sync, G.safe⟩ := by rw [HSA.out.1, HXY.out.1, HXY.out.2, if_neg hxy]
      have hfin : GivesSegS0 B S g p ps w G.sync (.returned (.tuple #[])) w2.drew := by
        rw [hres]
        refine ⟨rfl, ⟨_, _, lv, ps, H.out.of hs2 ?_ (OrNew.refl _ _) (OrNew.refl _ _) (OrNew.refl _ _), TagsNew.refl _ _⟩, hT2, (K9.sto HS2.out.2.2 H.out.sto).trans (K9.ext (Ext.drew w2))⟩
        rw [HSA.out.2]
        exact hseg2
      have HFIN := Lib.hid hfin
      clear hfin hT2 hs2 hseg2 hres k0'
      go_wp2_with fail
      go_end0
      exact HFIN.out

set_option maxHeartbeats 8000000 in
theorem get9_any {w : World} {B U g p : Nat} {va vp lv : Value} {ps : List (Value × Rec.R)} {G : Seg.Sg} (h : IsSegB w B U g p va vp lv ps G) (hU : U ≤ w.heap.size) (n : Int) (hn : -9223372036854775808 ≤ n ∧ n ≤ 9223372036854775807) :
    Calls Tryz.prog 61 #[.pointer (some ⟨g, 0, none⟩), .int .i64 n] w fun e w' => ∃ t, e = .returned (.tuple #[recV t (G.getRec n), .int .i64 (G.getErr n)]) ∧ RowI w' t (G.getRec n).tags ∧ Ext w w' := by
  obtain ⟨hgood, hcnt⟩ := h.good
  have H := Lib.hid h
  obtain ⟨L, hL⟩ : ∃ L, G.w.l.length = L := ⟨_, rfl⟩
  obtain ⟨T, hT⟩ : ∃ T, G.w.trimmed = T := ⟨_, rfl⟩
  have HL := Lib.hid (And.intro hL hT)
  rw [hL] at hgood hcnt
  rw [hT] at hgood
  have hge : G.getErr n = if n < 0 ∨ (L : Int) ≤ n then 91 else if n < (T : Int) then 92 else 0 := by
    unfold Seg.Sg.getErr Seg.Sg.len
    rw [hL, hT]
  have hgr : G.getRec n = if n < 0 ∨ (L : Int) ≤ n then Seg.zeroR else if n < (T : Int) then Seg.zeroR else G.w.l.getD n.toNat Seg.zeroR := by
    unfold Seg.Sg.getRec Seg.Sg.len
    rw [hL, hT]
  have HGE := Lib.hid (And.intro hge hgr)
  have hb0 := build_rec0
  obtain ⟨w1, hw1⟩ : ∃ w1, w.alloc (.cells #[.int .i64 0, .int .i64 0, .slice none 0 0, .string ⟨#[]⟩] 27) = w1 := ⟨_, rfl⟩
  have hE1 : Ext w w1 := by rw [← hw1]; exact Ext.alloc _ _
  have hx1 : w1.heap[w.heap.size]? = some (.cells #[.int .i64 0, .int .i64 0, .slice none 0 0, .string ⟨#[]⟩] 27 (0, 0)) := by rw [← hw1]; exact heap_alloc_new _ _
  have HW1 := Lib.hid hw1
  obtain ⟨X, hX⟩ : ∃ X, w.heap.size = X := ⟨_, rfl⟩
  have HX := Lib.hid hX
  rw [hX] at hx1
  have HX1 := Lib.hid (And.intro hx1 hE1)
  -- none is told
  have hzero : ∀ w', Ext w1 w' → ∃ x0 x1 x2 x3, w'.heap[X]? = some (.cells #[x0, x1, x2, x3] 27 (0, 0)) := fun w' hE => ⟨_, _, _, _, heap_ext hx1 hE⟩
  have hlen : ∀ w', Ext w w' → Calls Tryz.prog 92 #[.pointer (some ⟨g, 0, none⟩)] w' fun e w'' => e = .returned (.int .i64 (L : Nat)) ∧ Ext w' w'' := fun w' hE => by
    rw [← hL]
    exact h.len_any hE
  have HLEN := Lib.hid hlen
  have hcell : ∀ w', Ext w w' → w'.cell? ⟨g, 1, none⟩ = some (.int .i64 (T : Nat)) := fun w' hE => by
    rw [← hT]
    exact cell_of_heap (heap_ext h.seg.heap hE) 1
  have HCELL := Lib.hid hcell
  clear h hw1 hE1 hx1 hX hL hT hge hgr hlen hcell hzero
  go_enter Tryz.func61, Tryz.ntmps61
  go_upto_region 1 with fail
  rw [HW1.out, HX.out]
  by_cases hneg : n < 0
  · have HC := Lib.hid (show G.getErr n = 91 ∧ G.getRec n = Seg.zeroR by rw [HGE.out.1, HGE.out.2, if_pos (.inl hneg), if_pos (.inl hneg)]; exact ⟨rfl, rfl⟩)
    have x0 : w1.cell? ⟨X, 0, none⟩ = some (.int .i64 0) := cell_of_heap HX1.out.1 0
    have x1 : w1.cell? ⟨X, 1, none⟩ = some (.int .i64 0) := cell_of_heap HX1.out.1 1
    have x2 : w1.cell? ⟨X, 2, none⟩ = some (.slice none 0 0) := cell_of_heap HX1.out.1 2
    have x3 : w1.cell? ⟨X, 3, none⟩ = some (.string ⟨#[]⟩) := cell_of_heap HX1.out.1 3
    have f0 := frozen_of_heap HX1.out.1 0
    have f1 := frozen_of_heap HX1.out.1 1
    have f2 := frozen_of_heap HX1.out.1 2
    have f3 := frozen_of_heap HX1.out.1 3
    go_wp2_with fail
    have hs := set_four HX1.out.1 (.int .i64 0) (.int .i64 0) (.slice none 0 0) (.string ⟨#[]⟩)
    rw [HC.out.2, HC.out.1]
    have hXw : w.heap.size ≤ X := by rw [HX.out]; exact Nat.le_refl _
    exact bodyPost_ret (v := .tuple #[.agg #[.int .i64 0, .int .i64 0, .slice none 0 0, .string ⟨#[]⟩], .int .i64 91]) (by simp [results, Tryz.results61, go_sem, cell_of_heap hs.1 0, cell_of_heap hs.1 1, cell_of_heap hs.1 2, cell_of_heap hs.1 3]) rfl ⟨.slice none 0 0, rfl, RowI.nil _, Below.trans (B := w.heap.size) HX1.out.2 (hs.2.below hXw HX1.out.2.size)⟩
  · go_wp2_with fail
    refine (HLEN.out w1 HX1.out.2).mono ?_
    rintro e w2 ⟨rfl, hE2⟩
    have HX2 := Lib.hid (And.intro (heap_ext HX1.out.1 hE2) (HX1.out.2.trans hE2))
    clear hE2
    by_cases hge : (L : Int) ≤ n
    · have HC := Lib.hid (show G.getErr n = 91 ∧ G.getRec n = Seg.zeroR by rw [HGE.out.1, HGE.out.2, if_pos (.inr hge), if_pos (.inr hge)]; exact ⟨rfl, rfl⟩)
      have x0 : w2.cell? ⟨X, 0, none⟩ = some (.int .i64 0) := cell_of_heap HX2.out.1 0
      have x1 : w2.cell? ⟨X, 1, none⟩ = some (.int .i64 0) := cell_of_heap HX2.out.1 1
      have x2 : w2.cell? ⟨X, 2, none⟩ = some (.slice none 0 0) := cell_of_heap HX2.out.1 2
      have x3 : w2.cell? ⟨X, 3, none⟩ = some (.string ⟨#[]⟩) := cell_of_heap HX2.out.1 3
      have f0 := frozen_of_heap HX2.out.1 0
      have f1 := frozen_of_heap HX2.out.1 1
      have f2 := frozen_of_heap HX2.out.1 2
      have f3 := frozen_of_heap HX2.out.1 3
      go_wp2_with fail
      have hs := set_four HX2.out.1 (.int .i64 0) (.int .i64 0) (.slice none 0 0) (.string ⟨#[]⟩)
      rw [HC.out.2, HC.out.1]
      have hXw : w.heap.size ≤ X := by rw [HX.out]; exact Nat.le_refl _
      exact bodyPost_ret (v := .tuple #[.agg #[.int .i64 0, .int .i64 0, .slice none 0 0, .string ⟨#[]⟩], .int .i64 91]) (by simp [results, Tryz.results61, go_sem, cell_of_heap hs.1 0, cell_of_heap hs.1 1, cell_of_heap hs.1 2, cell_of_heap hs.1 3]) rfl ⟨.slice none 0 0, rfl, RowI.nil _, Below.trans (B := w.heap.size) HX2.out.2 (hs.2.below hXw HX2.out.2.size)⟩
    · have c1 := HCELL.out w2 HX2.out.2
      by_cases hlt : n < (T : Int)
      · have HC := Lib.hid (show G.getErr n = 92 ∧ G.getRec n = Seg.zeroR from ⟨by rw [HGE.out.1, if_neg (by omega), if_pos hlt], by rw [HGE.out.2, if_neg (by omega), if_pos hlt]⟩)
        have x0 : w2.cell? ⟨X, 0, none⟩ = some (.int .i64 0) := cell_of_heap HX2.out.1 0
        have x1 : w2.cell? ⟨X, 1, none⟩ = some (.int .i64 0) := cell_of_heap HX2.out.1 1
        have x2 : w2.cell? ⟨X, 2, none⟩ = some (.slice none 0 0) := cell_of_heap HX2.out.1 2
        have x3 : w2.cell? ⟨X, 3, none⟩ = some (.string ⟨#[]⟩) := cell_of_heap HX2.out.1 3
        have f0 := frozen_of_heap HX2.out.1 0
        have f1 := frozen_of_heap HX2.out.1 1
        have f2 := frozen_of_heap HX2.out.1 2
        have f3 := frozen_of_heap HX2.out.1 3
        go_wp2_with fail
        have hs := set_four HX2.out.1 (.int .i64 0) (.int .i64 0) (.slice none 0 0) (.string ⟨#[]⟩)
        rw [HC.out.2, HC.out.1]
        have hXw : w.heap.size ≤ X := by rw [HX.out]; exact Nat.le_refl _
        exact bodyPost_ret (v := .tuple #[.agg #[.int .i64 0, .int .i64 0, .slice none 0 0, .string ⟨#[]⟩], .int .i64 92]) (by simp [results, Tryz.results61, go_sem, cell_of_heap hs.1 0, cell_of_heap hs.1 1, cell_of_heap hs.1 2, cell_of_heap hs.1 3]) rfl ⟨.slice none 0 0, rfl, RowI.nil _, Below.trans (B := w.heap.size) HX2.out.2 (hs.2.below hXw HX2.out.2.size)⟩
      · have HC := Lib.hid (show G.getErr n = 0 ∧ G.getRec n = G.w.l.getD n.toNat Seg.zeroR from ⟨by rw [HGE.out.1, if_neg (by omega), if_neg (by omega)], by rw [HGE.out.2, if_neg (by omega), if_neg (by omega)]⟩)
        obtain ⟨i, hi⟩ : ∃ i : Nat, n - (T : Int) = (i : Int) := ⟨(n - (T : Int)).toNat, by omega⟩
        have hwi : IntKind.i64.wrap (i : Int) = (i : Int) := IntWalk.i64_in _ (by omega)
        have hseg3 := H.out.seg.ext (HX2.out.2.trans (Ext.drew w2))
        have hpl := hseg3.len
        rw [HL.out.1, HL.out.2] at hpl
        obtain ⟨la, lc, rfl, hlc, hlm, _⟩ := hseg3.open
        have hrec := hseg3.recsAt
        obtain ⟨_, _, e1, _, _, _, hcell⟩ := hrec
        have hil : i < (ps.map (·.2)).length := by rw [List.length_map]; omega
        obtain ⟨lb, lo, rfl, t9, p0, p1, p2, p3, ht9⟩ := hcell i hil
        injection e1 with e1 e2 e3
        subst e1
        clear e2 e3
        have hel : (ps.map (·.2))[i] = G.w.l.getD n.toNat Seg.zeroR := by
          have e0 := H.out.seg.recs
          have h1 : (ps.map (·.2))[i]? = (G.w.l.drop T)[i]? := by rw [e0, HL.out.2]
          rw [List.getElem?_eq_getElem hil, List.getElem?_drop] at h1
          have h2 : T + i = n.toNat := by omega
          rw [h2] at h1
          rw [List.getD_eq_getElem?_getD, ← h1]
          rfl
        have hright : Rec.right ((ps.map (·.2))[i]) = true := by
          have hm : (ps.map (·.2))[i] ∈ G.w.l.drop G.w.trimmed := by
            rw [← H.out.seg.recs]
            exact List.getElem_mem hil
          exact (Seg.readF_good G.s.l).right _ (List.mem_of_mem_drop hm)
        obtain ⟨R9, hR9⟩ : ∃ R, (ps.map (·.2))[i] = R := ⟨_, rfl⟩
        rw [hR9] at p0 p1 p3 ht9 hel hright
        have HEL := Lib.hid hel
        obtain ⟨ta9, tn9, tc9, rfl⟩ : ∃ x y z, t9 = .slice x y z := by
          obtain ⟨a, c, e, _⟩ := ht9.open
          exact ⟨a, _, c, e⟩
        have htl : R9.tags.length ≤ 1000000 := by have := (Rec.right_ok hright).2.2.2.2.1; omega
        have hown := own9_any (recV (.slice ta9 tn9 tc9) R9) R9 w2.drew ⟨_, rfl, ht9⟩ htl
        simp only [recV] at hown
        obtain ⟨y0, hy0⟩ : ∃ q : Int, R9.client = q := ⟨_, rfl⟩
        obtain ⟨y1, hy1⟩ : ∃ q : Int, R9.number = q := ⟨_, rfl⟩
        obtain ⟨y3, hy3⟩ : ∃ q : ByteArray, (⟨R9.data.toArray⟩ : ByteArray) = q := ⟨_, rfl⟩
        rw [hy0] at p0 hown
        rw [hy1] at p1 hown
        rw [hy3] at p3 hown
        have HOWN := Lib.hid hown
        have HY := Lib.hid (And.intro hy0 (And.intro hy1 hy3))
        have c1 : w2.drew.cell? ⟨g, 1, none⟩ = some (.int .i64 (T : Nat)) := by rw [← HL.out.2]; exact cell_of_heap hseg3.heap 1
        obtain ⟨N, hN⟩ : ∃ N, ps.length = N := ⟨_, rfl⟩
        have c2 : w2.drew.cell? ⟨g, 2, none⟩ = some (.slice (some ⟨lb, lo, none⟩) N lc) := by rw [← hN]; exact cell_of_heap hseg3.heap 2
        rw [hN] at hpl hlc
        have hiN : i < N := by rw [List.length_map, hN] at hil; exact hil
        have HXD := Lib.hid (And.intro (heap_ext HX2.out.1 (Ext.drew w2)) (HX2.out.2.trans (Ext.drew w2)))
        clear hown hy0 hy1 hy3 hseg3 hcell hil hel hR9 ht9 hpl hN htl hright
        go_wp2_with fail
        go_region_law (go_simp; go_at_call 103; refine HOWN.out.mono ?_; rintro e w4 ⟨t4, rfl, hf4, hE4⟩; obtain ⟨a4, n4, c4, rfl⟩ : ∃ x y z, t4 = .slice x y z := (by obtain ⟨b', n', _, ho⟩ := hf4; exact ownSlice ho); have hx4 := heap_ext HXD.out.1 hE4; have x0 := cell_of_heap hx4 0; have x1 := cell_of_heap hx4 1; have x2 := cell_of_heap hx4 2; have x3 := cell_of_heap hx4 3; have f0 := frozen_of_heap hx4 0; have f1 := frozen_of_heap hx4 1; have f2 := frozen_of_heap hx4 2; have f3 := frozen_of_heap hx4 3)
        all_goals
          have hs4 := set_four hx4 (.int .i64 y0) (.int .i64 y1) (.slice a4 n4 c4) (.string y3)
          have hr4 : RowI _ (.slice a4 n4 c4) R9.tags := hf4.row.but hx4 (by decide) hs4.2
          have hXw : w.heap.size ≤ X := by rw [HX.out]; exact Nat.le_refl _
          have hEw := HXD.out.2.trans hE4
          have HS4 := Lib.hid (And.intro hs4.1 (And.intro hr4 (Below.trans (B := w.heap.size) hEw (hs4.2.below hXw hEw.size))))
          clear hs4 hr4 hXw hEw hf4 hE4
          go_wp2_with fail
          rw [HC.out.1, HC.out.2, ← HEL.out]
          exact bodyPost_ret (v := .tuple #[.agg #[.int .i64 y0, .int .i64 y1, .slice a4 n4 c4, .string y3], .int .i64 0]) (by simp [results, Tryz.results61, go_sem, cell_of_heap HS4.out.1 0, cell_of_heap HS4.out.1 1, cell_of_heap HS4.out.1 2, cell_of_heap HS4.out.1 3]) rfl ⟨.slice a4 n4 c4, by unfold recV; rw [HY.out.1, HY.out.2.1, HY.out.2.2], HS4.out.2.1, HS4.out.2.2⟩
end Go.Proofs.YtaijgpdlgcgfaaaGreat
