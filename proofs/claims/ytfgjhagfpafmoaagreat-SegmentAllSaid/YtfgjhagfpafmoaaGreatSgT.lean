/-
  Merged: Layer 9, the document's answers: add.
-/
import Derived.Test.YtfgjhagfpafmoaaGreatSgS

namespace Go.Proofs.YtfgjhagfpafmoaaGreat
set_option linter.unusedSimpArgs false
set_option linter.unusedVariables false
set_option maxRecDepth 100000
open Go.ChangeShapes Go.WideShapes Go.ChangeAt Go.RowKit
/- Layer 9, the document's answers: add. -/
def GivesRef9E (w : World) (G : Seg.Sg) (er : Int) (e : Ending) (w' : World) : Prop := ∃ u, e = .returned (.tuple #[u, .int .i64 er]) ∧ IsRef9 w' u G ∧ Ext w w'
theorem fill_seg3 {w : World} {q : Nat} {x0 x1 x2 x3 : Value} (h : w.heap[q]? = some (.cells #[x0, x1, x2, x3] 36 (0, 0))) (y0 y1 y2 : Value) :
    (((w.setCell ⟨q, 0, none⟩ y0).setCell ⟨q, 1, none⟩ y1).setCell ⟨q, 2, none⟩ y2).heap[q]? = some (.cells #[y0, y1, y2, x3] 36 (0, 0)) ∧ But q w (((w.setCell ⟨q, 0, none⟩ y0).setCell ⟨q, 1, none⟩ y1).setCell ⟨q, 2, none⟩ y2) :=
  ⟨heap_setCell (heap_setCell (heap_setCell h 0 y0) 1 y1) 2 y2, (((But.refl q w).setCell 0 none y0).setCell 1 none y1).setCell 2 none y2⟩

set_option maxHeartbeats 8000000 in
theorem addRef9_any (v : Value) (G : Seg.Sg) (f : List UInt8) (w : World) (h : IsRef9 w v G) (hS : G.s.Ok) (hl : f.length ≤ 65000) :
    Calls Tryz.prog 88 #[v, .string ⟨f.toArray⟩] w (GivesRef9E w ⟨G.s.append f, G.safe⟩ (G.s.appendErr f)) := by
  obtain ⟨a, c, rfl, hT⟩ := h
  obtain ⟨n, hn⟩ : ∃ n, G.s.l.length = n := ⟨_, rfl⟩
  obtain ⟨k0, hk0⟩ : ∃ q : Int, (G.s.k : Int) = q := ⟨_, rfl⟩
  obtain ⟨s0, hs0⟩ : ∃ q : Int, (G.safe : Int) = q := ⟨_, rfl⟩
  obtain ⟨o0, ho0⟩ : ∃ q, G.s.off = q := ⟨_, rfl⟩
  have href : IsRef w (refStoV a n c k0 o0) G.s := ⟨a, c, by rw [hn, hk0, ho0], by rw [hn] at hT ⊢; exact hT⟩
  unfold segV
  rw [hn, hk0, hs0, ho0]
  obtain ⟨w2, hw2⟩ : ∃ w2, (w.alloc (.cells #[.slice a n c, .int .i64 k0, .bool o0, .int .i64 s0] 36)).alloc (.cells #[.slice none 0 0, .int .i64 0, .bool false, .int .i64 0] 36) = w2 := ⟨_, rfl⟩
  obtain ⟨P, hP⟩ : ∃ P, w.heap.size = P := ⟨_, rfl⟩
  have h2 := heap_two w (.cells #[.slice a n c, .int .i64 k0, .bool o0, .int .i64 s0] 36) (.cells #[.slice none 0 0, .int .i64 0, .bool false, .int .i64 0] 36)
  have hE2 : Ext w w2 := by rw [← hw2]; exact ext_two _ _ _
  rw [hw2, hP] at h2
  have hcv := runConv w2 f
  have hby := bytesOfConv w2 f 5 (by unfold maxLen; omega)
  have hEc : Ext w2 (Lib.bytesWorld w2 5 ⟨f.toArray⟩) := extConv w2 5 ⟨f.toArray⟩
  have hap := appendRef8_any (refStoV a n c k0 o0) _ f _ ((href.ext hE2).ext hEc) hS hby hl
  unfold refStoV at hap
  have HAP := Lib.hid hap
  have HW := Lib.hid (And.intro hw2 (And.intro hP (And.intro (hE2.trans hEc) (And.intro (heap_ext h2.1 hEc) (heap_ext h2.2 hEc)))))
  obtain ⟨c0, c1, c2, c3⟩ := segEnd h2.1
  have HK := Lib.hid hs0
  clear hT hn hk0 hs0 ho0 hw2 hP h2 hE2 hEc hby hap href hS
  go_enter Tryz.func88, Tryz.ntmps88
  go_upto_region 1 with fail
  rw [HW.out.1, HW.out.2.1]
  go_wp2_with fail
  refine HAP.out.mono ?_
  rintro e w4 ⟨v', rfl, ⟨a', c', rfl, ht'⟩, hE4⟩
  unfold refStoV
  obtain ⟨n', hn'⟩ : ∃ n, (G.s.append f).l.length = n := ⟨_, rfl⟩
  obtain ⟨k', hk'⟩ : ∃ q : Int, ((G.s.append f).k : Int) = q := ⟨_, rfl⟩
  obtain ⟨o', ho'⟩ : ∃ q, (G.s.append f).off = q := ⟨_, rfl⟩
  obtain ⟨er, her⟩ : ∃ q, G.s.appendErr f = q := ⟨_, rfl⟩
  rw [hn', hk', ho', her]
  rw [hn'] at ht'
  obtain ⟨w5, hw5⟩ : ∃ w5, w4.alloc (.cells #[.slice a' n' c', .int .i64 k', .bool o'] 34) = w5 := ⟨_, rfl⟩
  obtain ⟨Q, hQ⟩ : ∃ Q, w4.heap.size = Q := ⟨_, rfl⟩
  have hE5 : Ext w4 w5 := by rw [← hw5]; exact Ext.alloc _ _
  have hq5 : w5.heap[Q]? = some (.cells #[.slice a' n' c', .int .i64 k', .bool o'] 34 (0, 0)) := by rw [← hw5, ← hQ]; exact heap_alloc_new _ _
  have hx5 : w5.heap[P]? = _ := heap_ext HW.out.2.2.2.1 (hE4.trans hE5)
  have hy5 : w5.heap[P + 1]? = _ := heap_ext HW.out.2.2.2.2 (hE4.trans hE5)
  have hf6 := fill_seg3 hx5 (.slice a' n' c') (.int .i64 k') (.bool o')
  obtain ⟨w6, hw6⟩ : ∃ w6, (((w5.setCell ⟨P, 0, none⟩ (.slice a' n' c')).setCell ⟨P, 1, none⟩ (.int .i64 k')).setCell ⟨P, 2, none⟩ (.bool o')) = w6 := ⟨_, rfl⟩
  rw [hw6] at hf6
  have hy6 : w6.heap[P + 1]? = _ := (hf6.2.block (P + 1) (Array.getElem?_eq_some_iff.1 hy5).1 (by omega)).trans hy5
  have hf7 := fill_seg hy6 (.slice a' n' c') (.int .i64 k') (.bool o') (.int .i64 s0)
  obtain ⟨w7, hw7⟩ : ∃ w7, ((((w6.setCell ⟨P + 1, 0, none⟩ (.slice a' n' c')).setCell ⟨P + 1, 1, none⟩ (.int .i64 k')).setCell ⟨P + 1, 2, none⟩ (.bool o')).setCell ⟨P + 1, 3, none⟩ (.int .i64 s0)) = w7 := ⟨_, rfl⟩
  rw [hw7] at hf7
  have hE05 : Ext w w5 := HW.out.2.2.1.trans (hE4.trans hE5)
  have ht7 : Txts w7 (.slice a' n' c') (G.s.append f).l := ((ht'.ext hE5).butT hx5 (by decide) hf6.2).butT hy6 (by decide) hf7.2
  have hE7 : Ext w w7 := ext_new (ext_new hE05 (by have := HW.out.2.1; omega) hf6.2) (by have := HW.out.2.1; omega) hf7.2
  have H7 := Lib.hid (And.intro hw5 (And.intro hQ (And.intro hw6 (And.intro hw7 (And.intro ht7 (And.intro hE7 (And.intro hn' (And.intro hk' ho'))))))))
  have q0 : w5.cell? ⟨Q, 0, none⟩ = some (.slice a' n' c') := cell_of_heap hq5 0
  have q1 : w5.cell? ⟨Q, 1, none⟩ = some (.int .i64 k') := cell_of_heap hq5 1
  have q2 : w5.cell? ⟨Q, 2, none⟩ = some (.bool o') := cell_of_heap hq5 2
  obtain ⟨x0, x1, x2, x3⟩ := segEnd hx5
  have g0 : w5.frozen? ⟨P, 0, none⟩ = false := frozen_of_row w5 P 0 _ _ hx5
  have g1 : w5.frozen? ⟨P, 1, none⟩ = false := frozen_of_row w5 P 1 _ _ hx5
  have g2 : w5.frozen? ⟨P, 2, none⟩ = false := frozen_of_row w5 P 2 _ _ hx5
  have H6 := Lib.hid (And.intro hf6.1 (And.intro hy6 hf7.1))
  clear hw5 hQ hw6 hw7 ht7 hE7 hn' hk' ho' hq5 hx5 hy5 hf6 hy6 hf7 hE05 hE4 hE5 ht' hcv c0 c1 c2 c3
  go_upto_region 2 with fail
  rw [H7.out.1, H7.out.2.1]
  go_upto_region 3 with fail
  rw [H7.out.2.2.1]
  obtain ⟨y0, y1, y2, y3⟩ := segEnd H6.out.1
  obtain ⟨z0, z1, z2, z3⟩ := segEnd H6.out.2.1
  have f0 : w6.frozen? ⟨P + 1, 0, none⟩ = false := frozen_of_row w6 (P + 1) 0 _ _ H6.out.2.1
  have f1 : w6.frozen? ⟨P + 1, 1, none⟩ = false := frozen_of_row w6 (P + 1) 1 _ _ H6.out.2.1
  have f2 : w6.frozen? ⟨P + 1, 2, none⟩ = false := frozen_of_row w6 (P + 1) 2 _ _ H6.out.2.1
  have f3 : w6.frozen? ⟨P + 1, 3, none⟩ = false := frozen_of_row w6 (P + 1) 3 _ _ H6.out.2.1
  obtain ⟨r0, r1, r2, r3⟩ := segEnd H6.out.2.2
  clear q0 q1 q2 x0 x1 x2 x3 g0 g1 g2
  go_wp2_with fail
  rw [H7.out.2.2.2.1]
  refine bodyPost_ret (v := .tuple #[segV a' n' c' k' o' s0, .int .i64 er]) ?_ rfl ⟨segV a' n' c' k' o' s0, ?_, ⟨a', c', ?_, ?_⟩, H7.out.2.2.2.2.2.1⟩
  · simp [results, Tryz.results88, go_sem, r0, r1, r2, r3, segV]
  · rw [her]
  · show _ = segV a' (G.s.append f).l.length c' (G.s.append f).k (G.s.append f).off G.safe
    rw [H7.out.2.2.2.2.2.2.1, H7.out.2.2.2.2.2.2.2.1, H7.out.2.2.2.2.2.2.2.2, HK.out]
  · show Txts w7 (.slice a' (G.s.append f).l.length c') (G.s.append f).l
    rw [H7.out.2.2.2.2.2.2.1]
    exact H7.out.2.2.2.2.1
end Go.Proofs.YtfgjhagfpafmoaaGreat
