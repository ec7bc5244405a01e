/-
  Merged: Layer 9, the program: a segment's block, and what stands in it.
-/
import Derived.Test.YtaijgpdlgcgfaaaGreatBsMath
import Derived.Test.YtaijgpdlgcgfaaaGreatBsPgH
import Derived.Test.YtaijgpdlgcgfaaaGreatBsPgW
import Derived.Test.YtaijgpdlgcgfaaaGreatBsRec
import Derived.Test.YtaijgpdlgcgfaaaGreatBsVec

namespace Go.Proofs.YtaijgpdlgcgfaaaGreat
set_option linter.unusedSimpArgs false
set_option linter.unusedVariables false
set_option maxRecDepth 100000
open Go.RowKit
/- Layer 9, the program: a segment's block, and what stands in it. -/
theorem ownAt {w : World} {b size n k : Nat} {e : TypeId} {v : Value} {xs : List Value} (h : w.ownsRow b e size v n xs) (hk : v.ownBlock = some k) : ∃ cur, w.heap[k]? = some (.cells cur e (0, 0)) := by
  rcases h.2 with ⟨rfl, _⟩ | ⟨g, cap, cur, rfl, _, hg, _⟩
  · cases hk
  · injection hk with hk
    exact ⟨cur, by rw [← hk]; exact hg⟩
/-- A row of tags in a block of its own, which isn't that of the store's places. -/
def TagI (w : World) (vp v : Value) (l : List Int) : Prop := RowI w v l ∧ ∀ k, v.ownBlock = some k → vp.ownBlock ≠ some k
theorem TagI.ext {w w' : World} {vp v : Value} {l : List Int} (h : TagI w vp v l) (hE : Ext w w') : TagI w' vp v l := ⟨h.1.ext hE, h.2⟩
theorem TagI.butT {w w' : World} {vp v : Value} {l : List Int} {q : Nat} {cs : Array Value} {t : TypeId} {fr : Nat × Nat} (h : TagI w vp v l) (hq : w.heap[q]? = some (.cells cs t fr)) (ht : t ≠ 3) (hb : But q w w') : TagI w' vp v l := ⟨h.1.but hq ht hb, h.2⟩
theorem RowI.same {w w' : World} {v : Value} {l : List Int} (h : RowI w v l) (hk : ∀ k, v.ownBlock = some k → w'.heap[k]? = w.heap[k]?) : RowI w' v l := by
  obtain ⟨b, n, h⟩ := h
  exact ⟨b, n, rowOwn h hk⟩
theorem RowI.at {w : World} {v : Value} {l : List Int} {k : Nat} (h : RowI w v l) (hk : v.ownBlock = some k) : ∃ cur, w.heap[k]? = some (.cells cur 3 (0, 0)) := by
  obtain ⟨b, n, h⟩ := h
  exact ownAt h hk
/-- Of new blocks, so of none that the store has. -/
theorem RowF.low {B C : Nat} {w : World} {v : Value} {l : List Int} (h : RowF C w v l) (hB : B ≤ C) : ∀ k, v.ownBlock = some k → B ≤ k := by
  obtain ⟨b, n, hb, h⟩ := h
  exact fun k hk => Nat.le_trans hB (Nat.le_trans hb (h.lt k hk).1)
theorem RowF.tag {B : Nat} {w : World} {vp v : Value} {l : List Int} (h : RowF B w v l) (hv : ∀ k, vp.ownBlock = some k → k < B) : TagI w vp v l := by
  obtain ⟨b, n, hb, h⟩ := h
  refine ⟨⟨b, n, h⟩, fun k hk e => ?_⟩
  have h1 := (h.lt k hk).1
  have h2 := hv k e
  omega

/-- A segment's block: the store's, how many are trimmed, those that are not, how many are safe, whether it is broken. -/
structure SegAt (w : World) (B g p : Nat) (vp lv : Value) (ps : List (Value × Rec.R)) (W : Seg.What) (safe : Nat) (br : Bool) : Prop where
  heap : w.heap[g]? = some (.cells #[.pointer (some ⟨p, 0, none⟩), .int .i64 (W.trimmed : Nat), lv, .int .i64 (safe : Nat), .bool br] 177 (0, 0))
  row : w.ownsRow B 27 4 lv ps.length (recFlat ps)
  recs : ps.map (·.2) = W.l.drop W.trimmed
  tags : ∀ q ∈ ps, TagI w vp q.1 q.2.tags
  low : ∀ q ∈ ps, ∀ k, q.1.ownBlock = some k → B ≤ k
section
variable {w w' : World} {B g p : Nat} {vp lv : Value} {ps : List (Value × Rec.R)} {W : Seg.What} {safe : Nat} {br : Bool}
theorem SegAt.lt (h : SegAt w B g p vp lv ps W safe br) : g < w.heap.size := (Array.getElem?_eq_some_iff.1 h.heap).1
theorem SegAt.ext (h : SegAt w B g p vp lv ps W safe br) (hE : Ext w w') : SegAt w' B g p vp lv ps W safe br := ⟨heap_ext h.heap hE, rowExt h.row hE, h.recs, fun q hq => (h.tags q hq).ext hE, h.low⟩
theorem SegAt.butT {q : Nat} {cs : Array Value} {t : TypeId} {fr : Nat × Nat} (h : SegAt w B g p vp lv ps W safe br) (hq : w.heap[q]? = some (.cells cs t fr)) (h1 : t ≠ 177) (h2 : t ≠ 27) (h3 : t ≠ 3) (hb : But q w w') : SegAt w' B g p vp lv ps W safe br :=
  ⟨(hb.block g h.lt (fun e => by subst e; rw [h.heap] at hq; injection hq with hq; injection hq with _ e _; exact h1 e.symm)).trans h.heap, rowBut h.row (rowBeside h.row hq h2) hb, h.recs, fun q' hq' => (h.tags q' hq').butT hq h3 hb, h.low⟩
theorem SegAt.lower {B' : Nat} (h : SegAt w B g p vp lv ps W safe br) (hB : B' ≤ B) : SegAt w B' g p vp lv ps W safe br := ⟨h.heap, rowLower h.row hB, h.recs, h.tags, fun q hq k hk => Nat.le_trans hB (h.low q hq k hk)⟩
theorem SegAt.len (h : SegAt w B g p vp lv ps W safe br) : ps.length = W.l.length - W.trimmed := by
  have := congrArg List.length h.recs
  simpa using this
theorem SegAt.open (h : SegAt w B g p vp lv ps W safe br) : ∃ a c, lv = .slice a ps.length c ∧ ps.length ≤ c ∧ c ≤ maxLen ∧ (a = none → c = 0) := by
  obtain ⟨a, c, e, h1, h2, h3, _⟩ := SlN.ofOwn h.row
  exact ⟨a, c, e, h1, h2, h3⟩
theorem ownRec_one {vp : Value} (h : ∀ q ∈ ps, TagI w vp q.1 q.2.tags) : ∀ y ∈ recFlat ps, y.oneCell' = true := recFlat_one (fun q hq => (h q hq).1.ints)
theorem SegAt.recsAt (h : SegAt w B g p vp lv ps W safe br) : Recs w lv (ps.map (·.2)) := recs_of_flat (fun q hq => (h.tags q hq).1.ints) (SlN.ofOwn h.row)
/-- The store is appended to. -/
theorem SegAt.app {va va' vp' : Value} {S : Page.St} {b : List UInt8} (h : SegAt w B g p vp lv ps W safe br) (hs : IsSto w B p va vp S) (hA : Appended w B p va vp S b w' va' vp') : SegAt w' B g p vp' lv ps W safe br := by
  have hne : ∀ {k : Nat} {cs : Array Value} {t : TypeId} {fr : Nat × Nat}, w.heap[k]? = some (.cells cs t fr) → t ≠ 145 → k ≠ p := fun hk ht e => by
    subst e; rw [hs.heap] at hk; injection hk with hk; injection hk with _ e _; exact ht e.symm
  refine ⟨(hA.block g h.lt (hne h.heap (by decide)) (rowBeside hs.all h.heap (by decide)) (rowBeside hs.places h.heap (by decide))).trans h.heap, rowOwn h.row fun k hk => ?_, h.recs, fun q hq => ⟨(h.tags q hq).1.same fun k hk => ?_, fun k hk e => ?_⟩, h.low⟩
  · obtain ⟨cur, hc⟩ := ownAt h.row hk
    exact hA.block k (h.row.lt k hk).2 (hne hc (by decide)) (rowBeside hs.all hc (by decide)) (rowBeside hs.places hc (by decide))
  · obtain ⟨cur, hc⟩ := (h.tags q hq).1.at hk
    exact hA.block k (Array.getElem?_eq_some_iff.1 hc).1 (hne hc (by decide)) (rowBeside hs.all hc (by decide)) (fun e => (h.tags q hq).2 k hk e.symm)
  · obtain ⟨cur, hc⟩ := (h.tags q hq).1.at hk
    have hlt := (Array.getElem?_eq_some_iff.1 hc).1
    rcases hA.newP with hn | hn | hn
    · rw [hn] at e; exact (h.tags q hq).2 k hk e
    · rw [hn] at e; exact (h.tags q hq).2 k hk e
    · have := hn k e
      omega

theorem seglen_any (h : SegAt w B g p vp lv ps W safe br) (hg : W.trimmed ≤ W.l.length) (hl : W.l.length ≤ 100000) : Calls Tryz.prog 92 #[.pointer (some ⟨g, 0, none⟩)] w fun e w' => e = .returned (.int .i64 (W.l.length : Nat)) ∧ Ext w w' := by
  have hlen := h.len
  obtain ⟨a, c, rfl, hnc, hcm, _⟩ := h.open
  have hE := Ext.drew w
  have hh : w.drew.heap[g]? = _ := heap_ext h.heap hE
  have c1 : w.drew.cell? ⟨g, 1, none⟩ = some (.int .i64 (W.trimmed : Nat)) := cell_of_heap hh 1
  have c2 : w.drew.cell? ⟨g, 2, none⟩ = some (.slice a ps.length c) := cell_of_heap hh 2
  obtain ⟨t, ht⟩ : ∃ t, W.trimmed = t := ⟨_, rfl⟩
  obtain ⟨n, hn⟩ : ∃ n, W.l.length = n := ⟨_, rfl⟩
  obtain ⟨m, hm⟩ : ∃ m, ps.length = m := ⟨_, rfl⟩
  rw [ht] at c1 hg
  rw [hm] at c2 hlen
  rw [hn] at hg hl hlen ⊢
  have hsum : (t : Int) + (m : Int) = (n : Int) := by rw [ht] at hlen; omega
  have HS := Lib.hid hsum
  clear hh ht hn hm hsum hlen h
  go_enter Tryz.func92, Tryz.ntmps92
  go_wp2
  go_region
  go_wp2
  go_ret
  refine ⟨?_, hE⟩
  show Ending.returned (Value.int .i64 (wrap64 ((t : Int) + (m : Int)))) = _
  rw [HS.out, IntWalk.wrap64_in _ (by omega)]
theorem segsafe_any (h : SegAt w B g p vp lv ps W safe br) : Calls Tryz.prog 56 #[.pointer (some ⟨g, 0, none⟩)] w fun e w' => e = .returned (.int .i64 (safe : Nat)) ∧ w = w' := by
  have c3 := cell_of_heap h.heap 3
  go_enter Tryz.func56, Tryz.ntmps56
  go_wp2
  go_ret
  exact ⟨rfl, rfl⟩
end

set_option maxHeartbeats 1000000 in
/-- own: a record with tags of its own. -/
theorem own9_any (v : Value) (r : Rec.R) (w : World) (hv : IsRec w v r) (hl : r.tags.length ≤ 1000000) :
    Calls Tryz.prog 103 #[v] w fun e w' => ∃ t, e = .returned (recV t r) ∧ RowF w.heap.size w' t r.tags ∧ Ext w w' := by
  obtain ⟨t, rfl, ht⟩ := hv
  have HT := Lib.hid ht
  obtain ⟨a, cap, rfl, _⟩ := ht.open
  obtain ⟨rc, rn, rt, rd⟩ := r
  simp only at *
  unfold recV
  simp only
  obtain ⟨n, hn⟩ : ∃ n, rt.length = n := ⟨_, rfl⟩
  rw [hn] at HT ⊢
  have HN := Lib.hid hn
  have hl' := hl
  rw [hn] at hl'
  clear ht
  obtain ⟨w1, hw1⟩ : ∃ w1, (w.alloc (.cells #[.int .i64 rc, .int .i64 rn, .slice a n cap, .string ⟨rd.toArray⟩] 27)).alloc (.cells #[.int .i64 0, .int .i64 0, .slice none 0 0, .string ⟨#[]⟩] 27) = w1 := ⟨_, rfl⟩
  have hE1 : Ext w w1 := by rw [← hw1]; exact (Ext.alloc _ _).trans (Ext.alloc _ _)
  have ho : w1.heap[w.heap.size]? = some (.cells #[.int .i64 rc, .int .i64 rn, .slice a n cap, .string ⟨rd.toArray⟩] 27 (0, 0)) := by
    rw [← hw1]
    exact (Below.heap_alloc _ _ _ (by simp)).trans (heap_alloc_new _ _)
  have hz : w1.heap[w.heap.size + 1]? = some (.cells #[.int .i64 0, .int .i64 0, .slice none 0 0, .string ⟨#[]⟩] 27 (0, 0)) := by
    rw [← hw1]
    have := heap_alloc_new (w.alloc (.cells #[.int .i64 rc, .int .i64 rn, .slice a n cap, .string ⟨rd.toArray⟩] 27)) (.cells #[.int .i64 0, .int .i64 0, .slice none 0 0, .string ⟨#[]⟩] 27)
    simpa using this
  have HW1 := Lib.hid hw1
  have c2 : w1.cell? ⟨w.heap.size, 2, none⟩ = some (.slice a n cap) := cell_of_heap ho 2
  have HO := Lib.hid ho
  have HZ := Lib.hid hz
  have HE1 := Lib.hid hE1
  clear hw1 ho hz hE1 hn
  go_enter Tryz.func103, Tryz.ntmps103
  go_wp2_with fail
  rw [HW1.out]
  refine (cloneI_any _ rt w1 (HT.out.below HE1.out) (by rw [HN.out]; exact hl')).mono ?_
  rintro e w2 ⟨u, rfl, ho2, hE2⟩
  obtain ⟨ua, un, uc, rfl⟩ := ownSlice ho2
  have hs2 := heap_ext HO.out hE2
  have hz2 := heap_ext HZ.out hE2
  have HO2 := Lib.hid (And.intro ho2 hE2)
  have HS2 := Lib.hid hs2
  have HZ2 := Lib.hid hz2
  have k0 : w2.cell? ⟨w.heap.size, 0, none⟩ = some (.int .i64 rc) := cell_of_heap hs2 0
  have k1 : w2.cell? ⟨w.heap.size, 1, none⟩ = some (.int .i64 rn) := cell_of_heap hs2 1
  have k2 : w2.cell? ⟨w.heap.size, 2, none⟩ = some (.slice a n cap) := cell_of_heap hs2 2
  have k3 : w2.cell? ⟨w.heap.size, 3, none⟩ = some (.string ⟨rd.toArray⟩) := cell_of_heap hs2 3
  have fs := frozen_of_heap hs2 2
  clear c2 ho2 hE2 hs2 hz2
  go_upto_region 2 with fail
  have hset := heap_setCell HS2.out 2 (.slice ua un uc)
  have hbt : But w.heap.size w2 (w2.setCell ⟨w.heap.size, 2, none⟩ (.slice ua un uc)) := butSet _ _ _ _
  obtain ⟨w3, hw3⟩ : ∃ w3, w2.setCell ⟨w.heap.size, 2, none⟩ (.slice ua un uc) = w3 := ⟨_, rfl⟩
  rw [hw3] at hset hbt ⊢
  have hz3 : w3.heap[w.heap.size + 1]? = _ := (hbt.block _ (Array.getElem?_eq_some_iff.1 HZ2.out).1 (by omega)).trans HZ2.out
  have hr3 : RowF w.heap.size w3 (.slice ua un uc) rt := ⟨_, _, HE1.out.size, rowBut HO2.out.1 (rowBeside HO2.out.1 HS2.out (by decide)) hbt⟩
  have hE3 : Ext w w3 := Below.trans (B := w.heap.size) (HE1.out.trans HO2.out.2) (hbt.below (Nat.le_refl _) (HE1.out.trans HO2.out.2).size)
  have HR3 := Lib.hid (And.intro hr3 hE3)
  clear hw3 hbt k0 k1 k2 k3 fs hr3 hE3
  have k0 : w3.cell? ⟨w.heap.size, 0, none⟩ = some (.int .i64 rc) := cell_of_heap hset 0
  have k1 : w3.cell? ⟨w.heap.size, 1, none⟩ = some (.int .i64 rn) := cell_of_heap hset 1
  have k2 : w3.cell? ⟨w.heap.size, 2, none⟩ = some (.slice ua un uc) := cell_of_heap hset 2
  have k3 : w3.cell? ⟨w.heap.size, 3, none⟩ = some (.string ⟨rd.toArray⟩) := cell_of_heap hset 3
  have z0 : w3.cell? ⟨w.heap.size + 1, 0, none⟩ = some (.int .i64 0) := cell_of_heap hz3 0
  have z1 : w3.cell? ⟨w.heap.size + 1, 1, none⟩ = some (.int .i64 0) := cell_of_heap hz3 1
  have z2 : w3.cell? ⟨w.heap.size + 1, 2, none⟩ = some (.slice none 0 0) := cell_of_heap hz3 2
  have z3 : w3.cell? ⟨w.heap.size + 1, 3, none⟩ = some (.string ⟨#[]⟩) := cell_of_heap hz3 3
  have g0 := frozen_of_heap hz3 0
  have g1 := frozen_of_heap hz3 1
  have g2 := frozen_of_heap hz3 2
  have g3 := frozen_of_heap hz3 3
  have hs4 := set_four hz3 (.int .i64 rc) (.int .i64 rn) (.slice ua un uc) (.string ⟨rd.toArray⟩)
  have HS4 := Lib.hid hs4
  have HZ3 := Lib.hid hz3
  clear hset hz3 hs4
  go_wp2_with fail
  refine bodyPost_ret (v := .agg #[.int .i64 rc, .int .i64 rn, .slice ua un uc, .string ⟨rd.toArray⟩]) (by simp [results, Tryz.results103, go_sem, cell_of_heap HS4.out.1 0, cell_of_heap HS4.out.1 1, cell_of_heap HS4.out.1 2, cell_of_heap HS4.out.1 3]) rfl ⟨_, rfl, ?_, ?_⟩
  · obtain ⟨b, n', hb, ho⟩ := HR3.out.1
    exact ⟨b, n', hb, rowBut ho (rowBeside ho HZ3.out (by decide)) HS4.out.2⟩
  · exact Below.trans (B := w.heap.size) HR3.out.2 (HS4.out.2.below (Nat.le_succ _) HR3.out.2.size)
end Go.Proofs.YtaijgpdlgcgfaaaGreat
