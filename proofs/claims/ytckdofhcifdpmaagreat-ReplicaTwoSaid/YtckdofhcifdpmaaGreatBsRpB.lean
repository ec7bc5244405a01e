/-
  Merged: Layer 11: Len, Sealed, Store, own.
-/
import Derived.Test.YtckdofhcifdpmaaGreatBsEnt
import Derived.Test.YtckdofhcifdpmaaGreatBsRpA

namespace Go.Proofs.YtckdofhcifdpmaaGreat
set_option linter.unusedSimpArgs false
set_option linter.unusedVariables false
set_option maxRecDepth 100000
open Go.RowKit
/- Layer 11: Len, Sealed, Store, own. -/
section
variable {w w' : World} {B x p : Nat} {vp ev : Value} {es : List (Value × Ent.E)} {id term : Int} {W : Rep.What}
theorem len11_any (h : RepAt w B x p vp ev es id term W) : Calls Tryz.prog 20 #[.pointer (some ⟨x, 0, none⟩)] w fun e w' => e = .returned (.int .i64 (W.l.length : Nat)) ∧ w = w' := by
  have hlen := h.len
  obtain ⟨a, c, rfl, hnc, hcm, _⟩ := h.open
  have c3 : w.cell? ⟨x, 3, none⟩ = some (.slice a es.length c) := cell_of_heap h.heap 3
  rw [hlen] at c3
  obtain ⟨n, hn⟩ : ∃ n, W.l.length = n := ⟨_, rfl⟩
  rw [hn] at c3 ⊢
  clear h hlen hn hnc hcm
  go_enter Tryz.func20, Tryz.ntmps20
  go_wp2
  go_ret
  exact ⟨rfl, rfl⟩
theorem sealed11_any (h : RepAt w B x p vp ev es id term W) : Calls Tryz.prog 21 #[.pointer (some ⟨x, 0, none⟩)] w fun e w' => e = .returned (.bool W.sealed) ∧ w = w' := by
  have c4 : w.cell? ⟨x, 4, none⟩ = some (.bool W.sealed) := cell_of_heap h.heap 4
  obtain ⟨b, hb⟩ : ∃ b, W.sealed = b := ⟨_, rfl⟩
  rw [hb] at c4 ⊢
  clear h hb
  go_enter Tryz.func21, Tryz.ntmps21
  go_wp2
  go_ret
  exact ⟨rfl, rfl⟩
end
theorem RowN.tag {B : Nat} {w : World} {vp v : Value} {l : List Int} (h : RowN B w v l) (hv : ∀ k, vp.ownBlock = some k → k < B) : TagI w vp v l := by
  obtain ⟨b, n, hb, h⟩ := h
  refine ⟨⟨b, n, h⟩, fun k hk e => ?_⟩
  have h1 := (h.lt k hk).1
  have h2 := hv k e
  omega
set_option maxHeartbeats 4000000 in
/-- own: an entry with a cut of its own. -/
theorem own11_any (t : Value) (e : Ent.E) (w : World) (ht : Ints w t e.cut) (hl : e.cut.length ≤ 1000000) :
    Calls Tryz.prog 66 #[entV t e] w fun x w' => ∃ u, x = .returned (entV u e) ∧ RowN w.heap.size w' u e.cut ∧ Ext w w' := by
  have HT := Lib.hid ht
  obtain ⟨a, cap, rfl, _⟩ := ht.open
  obtain ⟨e0, e1, e2, e3, e4, e5⟩ := e
  simp only at *
  unfold entV
  simp only
  obtain ⟨n, hn⟩ : ∃ n, e2.length = n := ⟨_, rfl⟩
  rw [hn] at HT ⊢
  have HN := Lib.hid hn
  have hl' := hl
  rw [hn] at hl'
  clear ht
  obtain ⟨w1, hw1⟩ : ∃ w1, (w.alloc (.cells #[.int .i64 e0, .int .i64 e1, .slice a n cap, .int .i64 e3, .int .i64 e4, .int .i64 e5] 77)).alloc (.cells #[.int .i64 0, .int .i64 0, .slice none 0 0, .int .i64 0, .int .i64 0, .int .i64 0] 77) = w1 := ⟨_, rfl⟩
  have hE1 : Ext w w1 := by rw [← hw1]; exact (Ext.alloc _ _).trans (Ext.alloc _ _)
  have ho : w1.heap[w.heap.size]? = some (.cells #[.int .i64 e0, .int .i64 e1, .slice a n cap, .int .i64 e3, .int .i64 e4, .int .i64 e5] 77 (0, 0)) := by
    rw [← hw1]
    exact (Below.heap_alloc _ _ _ (by simp)).trans (heap_alloc_new _ _)
  have hz : w1.heap[w.heap.size + 1]? = some (.cells #[.int .i64 0, .int .i64 0, .slice none 0 0, .int .i64 0, .int .i64 0, .int .i64 0] 77 (0, 0)) := by
    rw [← hw1]
    have := heap_alloc_new (w.alloc (.cells #[.int .i64 e0, .int .i64 e1, .slice a n cap, .int .i64 e3, .int .i64 e4, .int .i64 e5] 77)) (.cells #[.int .i64 0, .int .i64 0, .slice none 0 0, .int .i64 0, .int .i64 0, .int .i64 0] 77)
    simpa using this
  have HW1 := Lib.hid hw1
  have c2 : w1.cell? ⟨w.heap.size, 2, none⟩ = some (.slice a n cap) := cell_of_heap ho 2
  have HO := Lib.hid ho
  have HZ := Lib.hid hz
  have HE1 := Lib.hid hE1
  clear hw1 ho hz hE1 hn
  go_enter Tryz.func66, Tryz.ntmps66
  go_wp2_with fail
  rw [HW1.out]
  refine (cloneI_any _ e2 w1 (HT.out.below HE1.out) (by rw [HN.out]; exact hl')).mono ?_
  rintro e w2 ⟨u, rfl, ho2, hE2⟩
  obtain ⟨ua, un, uc, rfl⟩ := ownSlice ho2
  have hs2 := heap_ext HO.out hE2
  have hz2 := heap_ext HZ.out hE2
  have HO2 := Lib.hid (And.intro ho2 hE2)
  have HS2 := Lib.hid hs2
  have HZ2 := Lib.hid hz2
  have k0 : w2.cell? ⟨w.heap.size, 0, none⟩ = some (.int .i64 e0) := cell_of_heap hs2 0
  have k1 : w2.cell? ⟨w.heap.size, 1, none⟩ = some (.int .i64 e1) := cell_of_heap hs2 1
  have k2 : w2.cell? ⟨w.heap.size, 2, none⟩ = some (.slice a n cap) := cell_of_heap hs2 2
  have k3 : w2.cell? ⟨w.heap.size, 3, none⟩ = some (.int .i64 e3) := cell_of_heap hs2 3
  have k4 : w2.cell? ⟨w.heap.size, 4, none⟩ = some (.int .i64 e4) := cell_of_heap hs2 4
  have k5 : w2.cell? ⟨w.heap.size, 5, none⟩ = some (.int .i64 e5) := cell_of_heap hs2 5
  have fs := frozen_of_heap hs2 2
  clear c2 ho2 hE2 hs2 hz2
  go_upto_region 2 with fail
  have hset := heap_setCell HS2.out 2 (.slice ua un uc)
  have hbt : But w.heap.size w2 (w2.setCell ⟨w.heap.size, 2, none⟩ (.slice ua un uc)) := butSet _ _ _ _
  obtain ⟨w3, hw3⟩ : ∃ w3, w2.setCell ⟨w.heap.size, 2, none⟩ (.slice ua un uc) = w3 := ⟨_, rfl⟩
  rw [hw3] at hset hbt ⊢
  have hz3 : w3.heap[w.heap.size + 1]? = _ := (hbt.block _ (Array.getElem?_eq_some_iff.1 HZ2.out).1 (by omega)).trans HZ2.out
  have hr3 : RowN w.heap.size w3 (.slice ua un uc) e2 := ⟨_, _, HE1.out.size, rowBut HO2.out.1 (rowBeside HO2.out.1 HS2.out (by decide)) hbt⟩
  have hE3 : Ext w w3 := Below.trans (B := w.heap.size) (HE1.out.trans HO2.out.2) (hbt.below (Nat.le_refl _) (HE1.out.trans HO2.out.2).size)
  have HR3 := Lib.hid (And.intro hr3 hE3)
  clear hw3 hbt k0 k1 k2 k3 k4 k5 fs hr3 hE3
  have k0 : w3.cell? ⟨w.heap.size, 0, none⟩ = some (.int .i64 e0) := cell_of_heap hset 0
  have k1 : w3.cell? ⟨w.heap.size, 1, none⟩ = some (.int .i64 e1) := cell_of_heap hset 1
  have k2 : w3.cell? ⟨w.heap.size, 2, none⟩ = some (.slice ua un uc) := cell_of_heap hset 2
  have k3 : w3.cell? ⟨w.heap.size, 3, none⟩ = some (.int .i64 e3) := cell_of_heap hset 3
  have k4 : w3.cell? ⟨w.heap.size, 4, none⟩ = some (.int .i64 e4) := cell_of_heap hset 4
  have k5 : w3.cell? ⟨w.heap.size, 5, none⟩ = some (.int .i64 e5) := cell_of_heap hset 5
  have z0 : w3.cell? ⟨w.heap.size + 1, 0, none⟩ = some (.int .i64 0) := cell_of_heap hz3 0
  have z1 : w3.cell? ⟨w.heap.size + 1, 1, none⟩ = some (.int .i64 0) := cell_of_heap hz3 1
  have z2 : w3.cell? ⟨w.heap.size + 1, 2, none⟩ = some (.slice none 0 0) := cell_of_heap hz3 2
  have z3 : w3.cell? ⟨w.heap.size + 1, 3, none⟩ = some (.int .i64 0) := cell_of_heap hz3 3
  have z4 : w3.cell? ⟨w.heap.size + 1, 4, none⟩ = some (.int .i64 0) := cell_of_heap hz3 4
  have z5 : w3.cell? ⟨w.heap.size + 1, 5, none⟩ = some (.int .i64 0) := cell_of_heap hz3 5
  have g0 := frozen_of_heap hz3 0
  have g1 := frozen_of_heap hz3 1
  have g2 := frozen_of_heap hz3 2
  have g3 := frozen_of_heap hz3 3
  have g4 := frozen_of_heap hz3 4
  have g5 := frozen_of_heap hz3 5
  have hs4 := set_six hz3 (.int .i64 e0) (.int .i64 e1) (.slice ua un uc) (.int .i64 e3) (.int .i64 e4) (.int .i64 e5)
  have HS4 := Lib.hid hs4
  have HZ3 := Lib.hid hz3
  clear hset hz3 hs4
  go_wp2_with fail
  refine bodyPost_ret (v := .agg #[.int .i64 e0, .int .i64 e1, .slice ua un uc, .int .i64 e3, .int .i64 e4, .int .i64 e5]) (by simp [results, Tryz.results66, go_sem, cell_of_heap HS4.out.1 0, cell_of_heap HS4.out.1 1, cell_of_heap HS4.out.1 2, cell_of_heap HS4.out.1 3, cell_of_heap HS4.out.1 4, cell_of_heap HS4.out.1 5]) rfl ⟨_, rfl, ?_, ?_⟩
  · obtain ⟨b, n', hb, ho⟩ := HR3.out.1
    exact ⟨b, n', hb, rowBut ho (rowBeside ho HZ3.out (by decide)) HS4.out.2⟩
  · exact Below.trans (B := w.heap.size) HR3.out.2 (HS4.out.2.below (Nat.le_succ _) HR3.out.2.size)
end Go.Proofs.YtckdofhcifdpmaaGreat
