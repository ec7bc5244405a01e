/-
  Layer 8, the document's Do.
-/
import Derived.Test.YtpefengjpedifaaPgZ
namespace Go.Proofs.Ytpefengjpedifaa
set_option linter.unusedSimpArgs false
set_option linter.unusedVariables false
set_option maxRecDepth 100000
open Go.RowKit

theorem refKeep {w w' : World} {v : Value} {l : List (List UInt8)} {q : Nat} {cs : Array Value} {t : TypeId} {fr : Nat × Nat} (h : Txts w v l) (hb : But q w w') (hq : w.heap[q]? = some (.cells cs t fr)) (ht : t ≠ 9) : Txts w' v l := h.keep (KeepS.but hb hq ht)

theorem doChain (w : World) (x0 x1 x2 y0 y1 y2 y3 : Value) : ∃ w1, (((((w.alloc (.cells #[x0, x1, x2] 30)).alloc (.cells #[y0, y1, y2, y3] 34)).alloc (.cells #[.slice none 0 0, .int .i64 0, .bool false] 30)).alloc (.cells #[.int .i64 0, .int .i64 0, .string ⟨#[]⟩, .bool false] 37)).alloc (.cells #[.int .i64 0, .int .i64 0, .string ⟨#[]⟩, .bool false] 37)) = w1 ∧ Ext w w1 ∧
    w1.heap[w.heap.size]? = some (.cells #[x0, x1, x2] 30 (0, 0)) ∧ w1.heap[w.heap.size + 2]? = some (.cells #[.slice none 0 0, .int .i64 0, .bool false] 30 (0, 0)) ∧ w1.heap[w.heap.size + 3]? = some (.cells #[.int .i64 0, .int .i64 0, .string ⟨#[]⟩, .bool false] 37 (0, 0)) ∧ w1.heap[w.heap.size + 4]? = some (.cells #[.int .i64 0, .int .i64 0, .string ⟨#[]⟩, .bool false] 37 (0, 0)) := by
  refine ⟨_, rfl, ((((Ext.alloc _ _).trans (Ext.alloc _ _)).trans (Ext.alloc _ _)).trans (Ext.alloc _ _)).trans (Ext.alloc _ _), ?_, ?_, ?_, ?_⟩
  · exact (Below.heap_alloc _ _ _ (by simp only [World.size_alloc]; omega)).trans ((Below.heap_alloc _ _ _ (by simp only [World.size_alloc]; omega)).trans ((Below.heap_alloc _ _ _ (by simp only [World.size_alloc]; omega)).trans ((Below.heap_alloc _ _ _ (by simp)).trans (heap_alloc_new _ _))))
  · refine (Below.heap_alloc _ _ _ (by simp only [World.size_alloc]; omega)).trans ((Below.heap_alloc _ _ _ (by simp)).trans ?_)
    have := heap_alloc_new ((w.alloc (.cells #[x0, x1, x2] 30)).alloc (.cells #[y0, y1, y2, y3] 34)) (.cells #[.slice none 0 0, .int .i64 0, .bool false] 30)
    simpa using this
  · refine (Below.heap_alloc _ _ _ (by simp)).trans ?_
    have := heap_alloc_new (((w.alloc (.cells #[x0, x1, x2] 30)).alloc (.cells #[y0, y1, y2, y3] 34)).alloc (.cells #[.slice none 0 0, .int .i64 0, .bool false] 30)) (.cells #[.int .i64 0, .int .i64 0, .string ⟨#[]⟩, .bool false] 37)
    simpa using this
  · have := heap_alloc_new ((((w.alloc (.cells #[x0, x1, x2] 30)).alloc (.cells #[y0, y1, y2, y3] 34)).alloc (.cells #[.slice none 0 0, .int .i64 0, .bool false] 30)).alloc (.cells #[.int .i64 0, .int .i64 0, .string ⟨#[]⟩, .bool false] 37)) (.cells #[.int .i64 0, .int .i64 0, .string ⟨#[]⟩, .bool false] 37)
    simpa using this

set_option maxHeartbeats 8000000 in
theorem doRef8_any {S : Page.St} (v : Value) (w : World) (h : IsRef w v S) (hS : S.Ok) (o : Page.Op) (t : Value) (ht : Bytes w t o.b) (hf : o.Fits) (hl : o.b.length ≤ 65000) :
    Calls Try.prog 14 #[v, opV o t] w fun e w' => ∃ u, e = .returned (.tuple #[u, ansV (Page.step S o).2]) ∧ IsRef w' u (Page.step S o).1 ∧ Ext w w' := by
  have HB := Lib.hid ht
  obtain ⟨at', nt, ct, rfl⟩ := ht.isSlice
  obtain ⟨kd, kn, kb, ki⟩ := o
  obtain ⟨a, c, rfl, hT⟩ := h
  obtain ⟨sl, sk, so⟩ := S
  simp only [opV, refStoV] at *
  obtain ⟨n, hn⟩ : ∃ n, sl.length = n := ⟨_, rfl⟩
  have hkn : sk ≤ n := by have := hS.le; simp only at this; omega
  have hnc : n ≤ c := by
    obtain ⟨_, _, e, hle, _⟩ := hT.open
    injection e with _ e1 e2
    omega
  have hc63 : c ≤ 9223372036854775807 := by
    obtain ⟨_, _, e, _, hle, _⟩ := hT.open
    injection e with _ e1 e2
    unfold maxLen at hle
    omega
  rw [hn] at hT ⊢
  have HN := Lib.hid hn
  have HS := Lib.hid hS
  have HT := Lib.hid hT
  obtain ⟨Q1, hQ1⟩ : ∃ w1, (((((w.alloc (.cells #[.slice a n c, .int .i64 (sk : Nat), .bool so] 30)).alloc (.cells #[.int .i64 kd, .int .i64 kn, .slice at' nt ct, .bool ki] 34)).alloc (.cells #[.slice none 0 0, .int .i64 0, .bool false] 30)).alloc (.cells #[.int .i64 0, .int .i64 0, .string ⟨#[]⟩, .bool false] 37)).alloc (.cells #[.int .i64 0, .int .i64 0, .string ⟨#[]⟩, .bool false] 37)) = w1 := ⟨_, rfl⟩
  have hE1 : Ext w Q1 := by rw [← hQ1]; exact ((((Ext.alloc _ _).trans (Ext.alloc _ _)).trans (Ext.alloc _ _)).trans (Ext.alloc _ _)).trans (Ext.alloc _ _)
  have hs1 : Q1.heap.size = w.heap.size + 5 := by rw [← hQ1]; simp
  have b0 : Q1.heap[w.heap.size]? = some (.cells #[.slice a n c, .int .i64 (sk : Nat), .bool so] 30 (0, 0)) := by
    rw [← hQ1]
    exact (Below.heap_alloc _ _ _ (by simp only [World.size_alloc]; omega)).trans ((Below.heap_alloc _ _ _ (by simp only [World.size_alloc]; omega)).trans ((Below.heap_alloc _ _ _ (by simp only [World.size_alloc]; omega)).trans ((Below.heap_alloc _ _ _ (by simp)).trans (heap_alloc_new _ _))))
  have b1 : Q1.heap[w.heap.size + 1]? = some (.cells #[.int .i64 kd, .int .i64 kn, .slice at' nt ct, .bool ki] 34 (0, 0)) := by
    rw [← hQ1]
    refine (Below.heap_alloc _ _ _ (by simp only [World.size_alloc]; omega)).trans ((Below.heap_alloc _ _ _ (by simp only [World.size_alloc]; omega)).trans ((Below.heap_alloc _ _ _ (by simp)).trans ?_))
    have := heap_alloc_new (w.alloc (.cells #[.slice a n c, .int .i64 (sk : Nat), .bool so] 30)) (.cells #[.int .i64 kd, .int .i64 kn, .slice at' nt ct, .bool ki] 34)
    simpa using this
  have b2 : Q1.heap[w.heap.size + 2]? = some (.cells #[.slice none 0 0, .int .i64 0, .bool false] 30 (0, 0)) := by
    rw [← hQ1]
    refine (Below.heap_alloc _ _ _ (by simp only [World.size_alloc]; omega)).trans ((Below.heap_alloc _ _ _ (by simp)).trans ?_)
    have := heap_alloc_new ((w.alloc (.cells #[.slice a n c, .int .i64 (sk : Nat), .bool so] 30)).alloc (.cells #[.int .i64 kd, .int .i64 kn, .slice at' nt ct, .bool ki] 34)) (.cells #[.slice none 0 0, .int .i64 0, .bool false] 30)
    simpa using this
  have b3 : Q1.heap[w.heap.size + 3]? = some (.cells #[.int .i64 0, .int .i64 0, .string ⟨#[]⟩, .bool false] 37 (0, 0)) := by
    rw [← hQ1]
    refine (Below.heap_alloc _ _ _ (by simp)).trans ?_
    have := heap_alloc_new (((w.alloc (.cells #[.slice a n c, .int .i64 (sk : Nat), .bool so] 30)).alloc (.cells #[.int .i64 kd, .int .i64 kn, .slice at' nt ct, .bool ki] 34)).alloc (.cells #[.slice none 0 0, .int .i64 0, .bool false] 30)) (.cells #[.int .i64 0, .int .i64 0, .string ⟨#[]⟩, .bool false] 37)
    simpa using this
  have b4 : Q1.heap[w.heap.size + 4]? = some (.cells #[.int .i64 0, .int .i64 0, .string ⟨#[]⟩, .bool false] 37 (0, 0)) := by
    rw [← hQ1]
    have := heap_alloc_new ((((w.alloc (.cells #[.slice a n c, .int .i64 (sk : Nat), .bool so] 30)).alloc (.cells #[.int .i64 kd, .int .i64 kn, .slice at' nt ct, .bool ki] 34)).alloc (.cells #[.slice none 0 0, .int .i64 0, .bool false] 30)).alloc (.cells #[.int .i64 0, .int .i64 0, .string ⟨#[]⟩, .bool false] 37)) (.cells #[.int .i64 0, .int .i64 0, .string ⟨#[]⟩, .bool false] 37)
    simpa using this
  have HW1 := Lib.hid hQ1
  have hbx := box_op8 (w.alloc (.cells #[.slice a n c, .int .i64 (sk : Nat), .bool so] 30)) kd kn (.slice at' nt ct) ki rfl
  have f0 : Q1.cell? ⟨w.heap.size + 1, 0, none⟩ = some (.int .i64 kd) := cell_of_heap b1 0
  have f1 : Q1.cell? ⟨w.heap.size + 1, 1, none⟩ = some (.int .i64 kn) := cell_of_heap b1 1
  have f2 : Q1.cell? ⟨w.heap.size + 1, 2, none⟩ = some (.slice at' nt ct) := cell_of_heap b1 2
  have f3 : Q1.cell? ⟨w.heap.size + 1, 3, none⟩ = some (.bool ki) := cell_of_heap b1 3
  have g0 : Q1.cell? ⟨w.heap.size, 0, none⟩ = some (.slice a n c) := cell_of_heap b0 0
  have g1 : Q1.cell? ⟨w.heap.size, 1, none⟩ = some (.int .i64 (sk : Nat)) := cell_of_heap b0 1
  have g2 : Q1.cell? ⟨w.heap.size, 2, none⟩ = some (.bool so) := cell_of_heap b0 2
  have z0 := frozen_of_heap b0 0
  have z1 := frozen_of_heap b0 1
  have z2 := frozen_of_heap b0 2
  have HREF := Lib.hid (show IsRef Q1 (.agg #[.slice a n c, .int .i64 (sk : Nat), .bool so]) ⟨sl, sk, so⟩ from ⟨a, c, by simp only [hn]; rfl, by simp only [hn]; exact hT.ext hE1⟩)
  clear hQ1 hT ht hn hS hbx
  have HE1 := Lib.hid hE1
  have HTQ := Lib.hid (HT.out.ext hE1)
  by_cases hk0 : kd = 0
  · subst hk0
    go_enter Try.func14, Try.ntmps14
    go_wp2_with fail
    rw [HW1.out]
    refine (appendRef8_any _ _ kb Q1 HREF.out HS.out (HB.out.below hE1) hl).mono ?_
    rintro e W2 ⟨v', rfl, hr, hE2⟩
    obtain ⟨U, hU⟩ : ∃ U, (⟨sl, sk, so⟩ : Page.St).append kb = U := ⟨_, rfl⟩
    rw [hU] at hr
    obtain ⟨a2, c2, rfl, hT2⟩ := hr
    simp only [refStoV]
    obtain ⟨n2, hn2⟩ : ∃ n2, U.l.length = n2 := ⟨_, rfl⟩
    obtain ⟨s2, hs2⟩ : ∃ s2 : Int, ((U.k : Nat) : Int) = s2 := ⟨_, rfl⟩
    obtain ⟨o2, ho2⟩ : ∃ o2, U.off = o2 := ⟨_, rfl⟩
    rw [hn2] at hT2
    rw [hn2, hs2, ho2]
    have HUU := Lib.hid (And.intro hU (And.intro hn2 (And.intro hs2 ho2)))
    clear hU hn2 hs2 ho2
    obtain ⟨y0, hy0⟩ : ∃ y, (((⟨sl, sk, so⟩ : Page.St).appendAt kb : Nat) : Int) = y := ⟨_, rfl⟩
    obtain ⟨y1, hy1⟩ : ∃ y, (⟨sl, sk, so⟩ : Page.St).appendErr kb = y := ⟨_, rfl⟩
    rw [hy0, hy1]
    have HY := Lib.hid (And.intro hy0 hy1)
    clear hy0 hy1
    have d0 := heap_ext b0 hE2
    have d2 := heap_ext b2 hE2
    have d3 := heap_ext b3 hE2
    have d4 := heap_ext b4 hE2
    have e0 := cell_of_heap d0 0
    have e1 := cell_of_heap d0 1
    have e2 := cell_of_heap d0 2
    have e3 := frozen_of_heap d0 0
    have e4 := frozen_of_heap d0 1
    have e5 := frozen_of_heap d0 2
    have k0 := cell_of_heap d4 0
    have k1 := cell_of_heap d4 1
    have k2 := cell_of_heap d4 2
    have k3 := cell_of_heap d4 3
    have l0 := frozen_of_heap d4 0
    have l1 := frozen_of_heap d4 1
    have l2 := frozen_of_heap d4 2
    have l3 := frozen_of_heap d4 3
    clear f0 f1 f2 f3 g0 g1 g2 z0 z1 z2
    go_wp2_with fail
    obtain ⟨m1, m2⟩ := fill_ref (y0 := .slice a2 n2 c2) (y1 := .int .i64 s2) (y2 := .bool o2) d0
    have n4 := (m2.block (w.heap.size + 4) (Array.getElem?_eq_some_iff.1 d4).1 (by omega)).trans d4
    have m3 := heap_setCell (heap_setCell n4 0 (.int .i64 y0)) 1 (.int .i64 y1)
    have mb := ((But.refl (w.heap.size + 4) (((W2.setCell ⟨w.heap.size, 0, none⟩ (.slice a2 n2 c2)).setCell ⟨w.heap.size, 1, none⟩ (.int .i64 s2)).setCell ⟨w.heap.size, 2, none⟩ (.bool o2))).setCell 0 none (.int .i64 y0)).setCell 1 none (.int .i64 y1)
    have n0 := (mb.block w.heap.size (Array.getElem?_eq_some_iff.1 m1).1 (by omega)).trans m1
    have n2' := (m2.block (w.heap.size + 2) (Array.getElem?_eq_some_iff.1 d2).1 (by omega)).trans d2
    have n2'' := (mb.block (w.heap.size + 2) (Array.getElem?_eq_some_iff.1 n2').1 (by omega)).trans n2'
    have n3' := (m2.block (w.heap.size + 3) (Array.getElem?_eq_some_iff.1 d3).1 (by omega)).trans d3
    have n3'' := (mb.block (w.heap.size + 3) (Array.getElem?_eq_some_iff.1 n3').1 (by omega)).trans n3'
    have HTX := Lib.hid (refKeep (refKeep hT2 m2 d0 (by decide)) mb n4 (by decide))
    have HBEL := Lib.hid (show Ext w _ from belowBut (B := w.heap.size) (belowBut (B := w.heap.size) (hE1.trans hE2) (Nat.le_refl _) (Nat.le_refl _) m2) (by omega) (Nat.le_refl _) mb)
    clear e0 e1 e2 e3 e4 e5 k0 k1 k2 k3 l0 l1 l2 l3
    clear m1 m2 n4 mb n2' n3' hT2 d0 d2 d3 d4
    generalize (W2.setCell ⟨w.heap.size, 0, none⟩ (.slice a2 n2 c2)).setCell ⟨w.heap.size, 1, none⟩ (.int .i64 s2) = W3 at *
    generalize (W3.setCell ⟨w.heap.size, 2, none⟩ (.bool o2)).setCell ⟨w.heap.size + 4, 0, none⟩ (.int .i64 y0) = W4 at *
    generalize W4.setCell ⟨w.heap.size + 4, 1, none⟩ (.int .i64 y1) = W5 at *
    have t0 : W5.cell? ⟨w.heap.size + 2, 0, none⟩ = some (.slice none 0 0) := cell_of_heap n2'' 0
    have t1 : W5.cell? ⟨w.heap.size + 2, 1, none⟩ = some (.int .i64 0) := cell_of_heap n2'' 1
    have t2 : W5.cell? ⟨w.heap.size + 2, 2, none⟩ = some (.bool false) := cell_of_heap n2'' 2
    have u0 := frozen_of_heap n2'' 0
    have u1 := frozen_of_heap n2'' 1
    have u2 := frozen_of_heap n2'' 2
    have r0 : W5.cell? ⟨w.heap.size + 3, 0, none⟩ = some (.int .i64 0) := cell_of_heap n3'' 0
    have r1 : W5.cell? ⟨w.heap.size + 3, 1, none⟩ = some (.int .i64 0) := cell_of_heap n3'' 1
    have r2 : W5.cell? ⟨w.heap.size + 3, 2, none⟩ = some (.string ⟨#[]⟩) := cell_of_heap n3'' 2
    have r3 : W5.cell? ⟨w.heap.size + 3, 3, none⟩ = some (.bool false) := cell_of_heap n3'' 3
    have v0 := frozen_of_heap n3'' 0
    have v1 := frozen_of_heap n3'' 1
    have v2 := frozen_of_heap n3'' 2
    have v3 := frozen_of_heap n3'' 3
    have p0 : W5.cell? ⟨w.heap.size, 0, none⟩ = some (Value.slice a2 n2 c2) := cell_of_heap n0 0
    have p1 : W5.cell? ⟨w.heap.size, 1, none⟩ = some (Value.int .i64 s2) := cell_of_heap n0 1
    have p2 : W5.cell? ⟨w.heap.size, 2, none⟩ = some (Value.bool o2) := cell_of_heap n0 2
    have q0 : W5.cell? ⟨w.heap.size + 4, 0, none⟩ = some (Value.int .i64 y0) := cell_of_heap m3 0
    have q1 : W5.cell? ⟨w.heap.size + 4, 1, none⟩ = some (Value.int .i64 y1) := cell_of_heap m3 1
    have q2 : W5.cell? ⟨w.heap.size + 4, 2, none⟩ = some (Value.string ⟨#[]⟩) := cell_of_heap m3 2
    have q3 : W5.cell? ⟨w.heap.size + 4, 3, none⟩ = some (Value.bool false) := cell_of_heap m3 3
    go_wp2_with fail
    go_region
    all_goals
      go_wp2_with fail
      obtain ⟨hf1, hf2⟩ := fill_ref (w := W5) (y0 := Value.slice a2 n2 c2) (y1 := Value.int .i64 s2) (y2 := Value.bool o2) n2''
      have h3 := (hf2.block (w.heap.size + 3) (Array.getElem?_eq_some_iff.1 n3'').1 (by omega)).trans n3''
      obtain ⟨hf3, hf4⟩ := fill_ans (y0 := Value.int .i64 y0) (y1 := Value.int .i64 y1) (y2 := Value.string ⟨#[]⟩) (y3 := Value.bool false) h3
      have h2 := (hf4.block (w.heap.size + 2) (Array.getElem?_eq_some_iff.1 hf1).1 (by omega)).trans hf1
      have i0 := cell_of_heap h2 0
      have i1 := cell_of_heap h2 1
      have i2 := cell_of_heap h2 2
      have j0 := cell_of_heap hf3 0
      have j1 := cell_of_heap hf3 1
      have j2 := cell_of_heap hf3 2
      have j3 := cell_of_heap hf3 3
      have hTf := refKeep (refKeep HTX.out hf2 n2'' (by decide)) hf4 h3 (by decide)
      have hbel : Ext w _ := belowBut (B := w.heap.size) (belowBut (B := w.heap.size) HBEL.out (by omega) (Nat.le_refl _) hf2) (by omega) (Nat.le_refl _) hf4
      generalize (W5.setCell ⟨w.heap.size + 2, 0, none⟩ (Value.slice a2 n2 c2)).setCell ⟨w.heap.size + 2, 1, none⟩ (Value.int .i64 s2) = w7 at *
      generalize (w7.setCell ⟨w.heap.size + 2, 2, none⟩ (Value.bool o2)).setCell ⟨w.heap.size + 3, 0, none⟩ (Value.int .i64 y0) = w8 at *
      generalize (w8.setCell ⟨w.heap.size + 3, 1, none⟩ (Value.int .i64 y1)).setCell ⟨w.heap.size + 3, 2, none⟩ (Value.string ⟨#[]⟩) = w9 at *
      generalize w9.setCell ⟨w.heap.size + 3, 3, none⟩ (Value.bool false) = w10 at *
      refine bodyPost_ret (v := .tuple #[.agg #[Value.slice a2 n2 c2, Value.int .i64 s2, Value.bool o2], .agg #[Value.int .i64 y0, Value.int .i64 y1, Value.string ⟨#[]⟩, Value.bool false]]) (by simp [results, Try.results14, go_sem, i0, i1, i2, j0, j1, j2, j3]) rfl ?_
      exact ⟨.agg #[Value.slice a2 n2 c2, Value.int .i64 s2, Value.bool o2], by rw [← HY.out.1, ← HY.out.2]; rfl, (show IsRef _ _ ((⟨sl, sk, so⟩ : Page.St).append kb) from by rw [HUU.out.1]; exact ⟨a2, c2, by rw [HUU.out.2.1, HUU.out.2.2.1, HUU.out.2.2.2]; rfl, by rw [HUU.out.2.1]; exact hTf.ext (Ext.drew _)⟩), hbel.trans (Ext.drew _)⟩
  by_cases hk1 : kd = 1
  · subst hk1
    cases so with
    | true =>
      go_enter Try.func14, Try.ntmps14
      go_wp2_with fail
      rw [HW1.out]
      have t0 : Q1.cell? ⟨w.heap.size + 2, 0, none⟩ = some (.slice none 0 0) := cell_of_heap b2 0
      have t1 : Q1.cell? ⟨w.heap.size + 2, 1, none⟩ = some (.int .i64 0) := cell_of_heap b2 1
      have t2 : Q1.cell? ⟨w.heap.size + 2, 2, none⟩ = some (.bool false) := cell_of_heap b2 2
      have u0 := frozen_of_heap b2 0
      have u1 := frozen_of_heap b2 1
      have u2 := frozen_of_heap b2 2
      have r0 : Q1.cell? ⟨w.heap.size + 3, 0, none⟩ = some (.int .i64 0) := cell_of_heap b3 0
      have r1 : Q1.cell? ⟨w.heap.size + 3, 1, none⟩ = some (.int .i64 0) := cell_of_heap b3 1
      have r2 : Q1.cell? ⟨w.heap.size + 3, 2, none⟩ = some (.string ⟨#[]⟩) := cell_of_heap b3 2
      have r3 : Q1.cell? ⟨w.heap.size + 3, 3, none⟩ = some (.bool false) := cell_of_heap b3 3
      have v0 := frozen_of_heap b3 0
      have v1 := frozen_of_heap b3 1
      have v2 := frozen_of_heap b3 2
      have v3 := frozen_of_heap b3 3
      have p0 : Q1.cell? ⟨w.heap.size, 0, none⟩ = some (Value.slice a n c) := cell_of_heap b0 0
      have p1 : Q1.cell? ⟨w.heap.size, 1, none⟩ = some (Value.int .i64 (sk : Nat)) := cell_of_heap b0 1
      have p2 : Q1.cell? ⟨w.heap.size, 2, none⟩ = some (Value.bool true) := cell_of_heap b0 2
      have q0 : Q1.cell? ⟨w.heap.size + 4, 0, none⟩ = some (Value.int .i64 0) := cell_of_heap b4 0
      have q1 : Q1.cell? ⟨w.heap.size + 4, 1, none⟩ = some (Value.int .i64 0) := cell_of_heap b4 1
      have q2 : Q1.cell? ⟨w.heap.size + 4, 2, none⟩ = some (Value.string ⟨#[]⟩) := cell_of_heap b4 2
      have q3 : Q1.cell? ⟨w.heap.size + 4, 3, none⟩ = some (Value.bool false) := cell_of_heap b4 3
      go_region
      all_goals
        go_wp2_with fail
        obtain ⟨hf1, hf2⟩ := fill_ref (w := Q1) (y0 := Value.slice a n c) (y1 := Value.int .i64 (sk : Nat)) (y2 := Value.bool true) b2
        have h3 := (hf2.block (w.heap.size + 3) (Array.getElem?_eq_some_iff.1 b3).1 (by omega)).trans b3
        obtain ⟨hf3, hf4⟩ := fill_ans (y0 := Value.int .i64 0) (y1 := Value.int .i64 0) (y2 := Value.string ⟨#[]⟩) (y3 := Value.bool false) h3
        have h2 := (hf4.block (w.heap.size + 2) (Array.getElem?_eq_some_iff.1 hf1).1 (by omega)).trans hf1
        have i0 := cell_of_heap h2 0
        have i1 := cell_of_heap h2 1
        have i2 := cell_of_heap h2 2
        have j0 := cell_of_heap hf3 0
        have j1 := cell_of_heap hf3 1
        have j2 := cell_of_heap hf3 2
        have j3 := cell_of_heap hf3 3
        have hTf := refKeep (refKeep HTQ.out hf2 b2 (by decide)) hf4 h3 (by decide)
        have hbel : Ext w _ := belowBut (B := w.heap.size) (belowBut (B := w.heap.size) HE1.out (by omega) (Nat.le_refl _) hf2) (by omega) (Nat.le_refl _) hf4
        generalize (Q1.setCell ⟨w.heap.size + 2, 0, none⟩ (Value.slice a n c)).setCell ⟨w.heap.size + 2, 1, none⟩ (Value.int .i64 (sk : Nat)) = w7 at *
        generalize (w7.setCell ⟨w.heap.size + 2, 2, none⟩ (Value.bool true)).setCell ⟨w.heap.size + 3, 0, none⟩ (Value.int .i64 0) = w8 at *
        generalize (w8.setCell ⟨w.heap.size + 3, 1, none⟩ (Value.int .i64 0)).setCell ⟨w.heap.size + 3, 2, none⟩ (Value.string ⟨#[]⟩) = w9 at *
        generalize w9.setCell ⟨w.heap.size + 3, 3, none⟩ (Value.bool false) = w10 at *
        refine bodyPost_ret (v := .tuple #[.agg #[Value.slice a n c, Value.int .i64 (sk : Nat), Value.bool true], .agg #[Value.int .i64 0, Value.int .i64 0, Value.string ⟨#[]⟩, Value.bool false]]) (by simp [results, Try.results14, go_sem, i0, i1, i2, j0, j1, j2, j3]) rfl ?_
        exact ⟨.agg #[Value.slice a n c, Value.int .i64 (sk : Nat), Value.bool true], rfl, (show IsRef _ _ (⟨sl, sk, true⟩ : Page.St) from ⟨a, c, by show _ = refStoV a sl.length c (sk : Nat) true; rw [HN.out]; rfl, by show Txts _ (.slice a sl.length c) sl; rw [HN.out]; exact hTf.ext (Ext.drew _)⟩), hbel.trans (Ext.drew _)⟩

    | false =>
      go_enter Try.func14, Try.ntmps14
      go_wp2_with fail
      obtain ⟨W5, hW5, hE5, c0, c2, c3, c4⟩ := doChain w (.slice a n c) (.int .i64 (n : Nat)) (.bool false) (.int .i64 1) (.int .i64 kn) (.slice at' nt ct) (.bool ki)
      have HTX := Lib.hid (HT.out.ext hE5)
      have HBEL := Lib.hid hE5
      clear f0 f1 f2 f3 g0 g1 g2 z0 z1 z2
      rw [hW5]
      clear hW5
      have t0 : W5.cell? ⟨w.heap.size + 2, 0, none⟩ = some (.slice none 0 0) := cell_of_heap c2 0
      have t1 : W5.cell? ⟨w.heap.size + 2, 1, none⟩ = some (.int .i64 0) := cell_of_heap c2 1
      have t2 : W5.cell? ⟨w.heap.size + 2, 2, none⟩ = some (.bool false) := cell_of_heap c2 2
      have u0 := frozen_of_heap c2 0
      have u1 := frozen_of_heap c2 1
      have u2 := frozen_of_heap c2 2
      have r0 : W5.cell? ⟨w.heap.size + 3, 0, none⟩ = some (.int .i64 0) := cell_of_heap c3 0
      have r1 : W5.cell? ⟨w.heap.size + 3, 1, none⟩ = some (.int .i64 0) := cell_of_heap c3 1
      have r2 : W5.cell? ⟨w.heap.size + 3, 2, none⟩ = some (.string ⟨#[]⟩) := cell_of_heap c3 2
      have r3 : W5.cell? ⟨w.heap.size + 3, 3, none⟩ = some (.bool false) := cell_of_heap c3 3
      have v0 := frozen_of_heap c3 0
      have v1 := frozen_of_heap c3 1
      have v2 := frozen_of_heap c3 2
      have v3 := frozen_of_heap c3 3
      have p0 : W5.cell? ⟨w.heap.size, 0, none⟩ = some (Value.slice a n c) := cell_of_heap c0 0
      have p1 : W5.cell? ⟨w.heap.size, 1, none⟩ = some (Value.int .i64 (n : Nat)) := cell_of_heap c0 1
      have p2 : W5.cell? ⟨w.heap.size, 2, none⟩ = some (Value.bool false) := cell_of_heap c0 2
      have q0 : W5.cell? ⟨w.heap.size + 4, 0, none⟩ = some (Value.int .i64 0) := cell_of_heap c4 0
      have q1 : W5.cell? ⟨w.heap.size + 4, 1, none⟩ = some (Value.int .i64 0) := cell_of_heap c4 1
      have q2 : W5.cell? ⟨w.heap.size + 4, 2, none⟩ = some (Value.string ⟨#[]⟩) := cell_of_heap c4 2
      have q3 : W5.cell? ⟨w.heap.size + 4, 3, none⟩ = some (Value.bool false) := cell_of_heap c4 3
      go_region
      all_goals
        go_wp2_with fail
        obtain ⟨hf1, hf2⟩ := fill_ref (w := W5) (y0 := Value.slice a n c) (y1 := Value.int .i64 (n : Nat)) (y2 := Value.bool false) c2
        have h3 := (hf2.block (w.heap.size + 3) (Array.getElem?_eq_some_iff.1 c3).1 (by omega)).trans c3
        obtain ⟨hf3, hf4⟩ := fill_ans (y0 := Value.int .i64 0) (y1 := Value.int .i64 0) (y2 := Value.string ⟨#[]⟩) (y3 := Value.bool false) h3
        have h2 := (hf4.block (w.heap.size + 2) (Array.getElem?_eq_some_iff.1 hf1).1 (by omega)).trans hf1
        have i0 := cell_of_heap h2 0
        have i1 := cell_of_heap h2 1
        have i2 := cell_of_heap h2 2
        have j0 := cell_of_heap hf3 0
        have j1 := cell_of_heap hf3 1
        have j2 := cell_of_heap hf3 2
        have j3 := cell_of_heap hf3 3
        have hTf := refKeep (refKeep HTX.out hf2 c2 (by decide)) hf4 h3 (by decide)
        have hbel : Ext w _ := belowBut (B := w.heap.size) (belowBut (B := w.heap.size) HBEL.out (by omega) (Nat.le_refl _) hf2) (by omega) (Nat.le_refl _) hf4
        generalize (W5.setCell ⟨w.heap.size + 2, 0, none⟩ (Value.slice a n c)).setCell ⟨w.heap.size + 2, 1, none⟩ (Value.int .i64 (n : Nat)) = w7 at *
        generalize (w7.setCell ⟨w.heap.size + 2, 2, none⟩ (Value.bool false)).setCell ⟨w.heap.size + 3, 0, none⟩ (Value.int .i64 0) = w8 at *
        generalize (w8.setCell ⟨w.heap.size + 3, 1, none⟩ (Value.int .i64 0)).setCell ⟨w.heap.size + 3, 2, none⟩ (Value.string ⟨#[]⟩) = w9 at *
        generalize w9.setCell ⟨w.heap.size + 3, 3, none⟩ (Value.bool false) = w10 at *
        refine bodyPost_ret (v := .tuple #[.agg #[Value.slice a n c, Value.int .i64 (n : Nat), Value.bool false], .agg #[Value.int .i64 0, Value.int .i64 0, Value.string ⟨#[]⟩, Value.bool false]]) (by simp [results, Try.results14, go_sem, i0, i1, i2, j0, j1, j2, j3]) rfl ?_
        exact ⟨.agg #[Value.slice a n c, Value.int .i64 (n : Nat), Value.bool false], rfl, (show IsRef _ _ (⟨sl, sl.length, false⟩ : Page.St) from ⟨a, c, by show _ = refStoV a sl.length c (sl.length : Nat) false; rw [HN.out]; rfl, by show Txts _ (.slice a sl.length c) sl; rw [HN.out]; exact hTf.ext (Ext.drew _)⟩), hbel.trans (Ext.drew _)⟩

  by_cases hk2 : kd = 2
  · subst hk2
    go_enter Try.func14, Try.ntmps14
    go_wp2_with fail
    rw [HW1.out]
    refine (crashRef8_any _ kn Q1 HREF.out HS.out hf.1).mono ?_
    rintro e W2 ⟨v', rfl, hr, hE2⟩
    obtain ⟨U, hU⟩ : ∃ U, (⟨sl, sk, so⟩ : Page.St).crash kn = U := ⟨_, rfl⟩
    rw [hU] at hr
    obtain ⟨a2, c2, rfl, hT2⟩ := hr
    simp only [refStoV]
    obtain ⟨n2, hn2⟩ : ∃ n2, U.l.length = n2 := ⟨_, rfl⟩
    obtain ⟨s2, hs2⟩ : ∃ s2 : Int, ((U.k : Nat) : Int) = s2 := ⟨_, rfl⟩
    obtain ⟨o2, ho2⟩ : ∃ o2, U.off = o2 := ⟨_, rfl⟩
    rw [hn2] at hT2
    rw [hn2, hs2, ho2]
    have HUU := Lib.hid (And.intro hU (And.intro hn2 (And.intro hs2 ho2)))
    clear hU hn2 hs2 ho2
    have d0 := heap_ext b0 hE2
    have d2 := heap_ext b2 hE2
    have d3 := heap_ext b3 hE2
    have d4 := heap_ext b4 hE2
    have e0 := cell_of_heap d0 0
    have e1 := cell_of_heap d0 1
    have e2 := cell_of_heap d0 2
    have e3 := frozen_of_heap d0 0
    have e4 := frozen_of_heap d0 1
    have e5 := frozen_of_heap d0 2
    have k0 := cell_of_heap d4 0
    have k1 := cell_of_heap d4 1
    have k2 := cell_of_heap d4 2
    have k3 := cell_of_heap d4 3
    have l0 := frozen_of_heap d4 0
    have l1 := frozen_of_heap d4 1
    have l2 := frozen_of_heap d4 2
    have l3 := frozen_of_heap d4 3
    clear f0 f1 f2 f3 g0 g1 g2 z0 z1 z2
    go_wp2_with fail
    obtain ⟨m1, m2⟩ := fill_ref (y0 := .slice a2 n2 c2) (y1 := .int .i64 s2) (y2 := .bool o2) d0
    have n2' := (m2.block (w.heap.size + 2) (Array.getElem?_eq_some_iff.1 d2).1 (by omega)).trans d2
    have n3' := (m2.block (w.heap.size + 3) (Array.getElem?_eq_some_iff.1 d3).1 (by omega)).trans d3
    have n4 := (m2.block (w.heap.size + 4) (Array.getElem?_eq_some_iff.1 d4).1 (by omega)).trans d4
    have HTX := Lib.hid (refKeep hT2 m2 d0 (by decide))
    have HBEL := Lib.hid (show Ext w _ from belowBut (B := w.heap.size) (hE1.trans hE2) (Nat.le_refl _) (Nat.le_refl _) m2)
    clear e0 e1 e2 e3 e4 e5 k0 k1 k2 k3 l0 l1 l2 l3
    clear m2 hT2 d0 d2 d3 d4
    generalize (W2.setCell ⟨w.heap.size, 0, none⟩ (.slice a2 n2 c2)).setCell ⟨w.heap.size, 1, none⟩ (.int .i64 s2) = W3 at *
    generalize W3.setCell ⟨w.heap.size, 2, none⟩ (.bool o2) = W5 at *
    have t0 : W5.cell? ⟨w.heap.size + 2, 0, none⟩ = some (.slice none 0 0) := cell_of_heap n2' 0
    have t1 : W5.cell? ⟨w.heap.size + 2, 1, none⟩ = some (.int .i64 0) := cell_of_heap n2' 1
    have t2 : W5.cell? ⟨w.heap.size + 2, 2, none⟩ = some (.bool false) := cell_of_heap n2' 2
    have u0 := frozen_of_heap n2' 0
    have u1 := frozen_of_heap n2' 1
    have u2 := frozen_of_heap n2' 2
    have r0 : W5.cell? ⟨w.heap.size + 3, 0, none⟩ = some (.int .i64 0) := cell_of_heap n3' 0
    have r1 : W5.cell? ⟨w.heap.size + 3, 1, none⟩ = some (.int .i64 0) := cell_of_heap n3' 1
    have r2 : W5.cell? ⟨w.heap.size + 3, 2, none⟩ = some (.string ⟨#[]⟩) := cell_of_heap n3' 2
    have r3 : W5.cell? ⟨w.heap.size + 3, 3, none⟩ = some (.bool false) := cell_of_heap n3' 3
    have v0 := frozen_of_heap n3' 0
    have v1 := frozen_of_heap n3' 1
    have v2 := frozen_of_heap n3' 2
    have v3 := frozen_of_heap n3' 3
    have p0 : W5.cell? ⟨w.heap.size, 0, none⟩ = some (Value.slice a2 n2 c2) := cell_of_heap m1 0
    have p1 : W5.cell? ⟨w.heap.size, 1, none⟩ = some (Value.int .i64 s2) := cell_of_heap m1 1
    have p2 : W5.cell? ⟨w.heap.size, 2, none⟩ = some (Value.bool o2) := cell_of_heap m1 2
    have q0 : W5.cell? ⟨w.heap.size + 4, 0, none⟩ = some (Value.int .i64 0) := cell_of_heap n4 0
    have q1 : W5.cell? ⟨w.heap.size + 4, 1, none⟩ = some (Value.int .i64 0) := cell_of_heap n4 1
    have q2 : W5.cell? ⟨w.heap.size + 4, 2, none⟩ = some (Value.string ⟨#[]⟩) := cell_of_heap n4 2
    have q3 : W5.cell? ⟨w.heap.size + 4, 3, none⟩ = some (Value.bool false) := cell_of_heap n4 3
    go_wp2_with fail
    go_region
    all_goals
      go_wp2_with fail
      obtain ⟨hf1, hf2⟩ := fill_ref (w := W5) (y0 := Value.slice a2 n2 c2) (y1 := Value.int .i64 s2) (y2 := Value.bool o2) n2'
      have h3 := (hf2.block (w.heap.size + 3) (Array.getElem?_eq_some_iff.1 n3').1 (by omega)).trans n3'
      obtain ⟨hf3, hf4⟩ := fill_ans (y0 := Value.int .i64 0) (y1 := Value.int .i64 0) (y2 := Value.string ⟨#[]⟩) (y3 := Value.bool false) h3
      have h2 := (hf4.block (w.heap.size + 2) (Array.getElem?_eq_some_iff.1 hf1).1 (by omega)).trans hf1
      have i0 := cell_of_heap h2 0
      have i1 := cell_of_heap h2 1
      have i2 := cell_of_heap h2 2
      have j0 := cell_of_heap hf3 0
      have j1 := cell_of_heap hf3 1
      have j2 := cell_of_heap hf3 2
      have j3 := cell_of_heap hf3 3
      have hTf := refKeep (refKeep HTX.out hf2 n2' (by decide)) hf4 h3 (by decide)
      have hbel : Ext w _ := belowBut (B := w.heap.size) (belowBut (B := w.heap.size) HBEL.out (by omega) (Nat.le_refl _) hf2) (by omega) (Nat.le_refl _) hf4
      generalize (W5.setCell ⟨w.heap.size + 2, 0, none⟩ (Value.slice a2 n2 c2)).setCell ⟨w.heap.size + 2, 1, none⟩ (Value.int .i64 s2) = w7 at *
      generalize (w7.setCell ⟨w.heap.size + 2, 2, none⟩ (Value.bool o2)).setCell ⟨w.heap.size + 3, 0, none⟩ (Value.int .i64 0) = w8 at *
      generalize (w8.setCell ⟨w.heap.size + 3, 1, none⟩ (Value.int .i64 0)).setCell ⟨w.heap.size + 3, 2, none⟩ (Value.string ⟨#[]⟩) = w9 at *
      generalize w9.setCell ⟨w.heap.size + 3, 3, none⟩ (Value.bool false) = w10 at *
      refine bodyPost_ret (v := .tuple #[.agg #[Value.slice a2 n2 c2, Value.int .i64 s2, Value.bool o2], .agg #[Value.int .i64 0, Value.int .i64 0, Value.string ⟨#[]⟩, Value.bool false]]) (by simp [results, Try.results14, go_sem, i0, i1, i2, j0, j1, j2, j3]) rfl ?_
      exact ⟨.agg #[Value.slice a2 n2 c2, Value.int .i64 s2, Value.bool o2], rfl, (show IsRef _ _ ((⟨sl, sk, so⟩ : Page.St).crash kn) from by rw [HUU.out.1]; exact ⟨a2, c2, by rw [HUU.out.2.1, HUU.out.2.2.1, HUU.out.2.2.2]; rfl, by rw [HUU.out.2.1]; exact hTf.ext (Ext.drew _)⟩), hbel.trans (Ext.drew _)⟩
  by_cases hk3 : kd = 3
  · subst hk3
    go_enter Try.func14, Try.ntmps14
    go_wp2_with fail
    rw [HW1.out]
    refine (readRef8_any _ kn Q1 HREF.out HS.out).mono ?_
    rintro e W2 ⟨rfl, hE2⟩
    obtain ⟨x, hx⟩ : ∃ x, (Page.readAt sl kn).getD [] = x := ⟨_, rfl⟩
    obtain ⟨is, his⟩ : ∃ is, (Page.readAt sl kn).isSome = is := ⟨_, rfl⟩
    simp only [firstVal]
    rw [hx, his]
    have HY := Lib.hid (And.intro hx his)
    clear hx his
    have d0 := heap_ext b0 hE2
    have d2 := heap_ext b2 hE2
    have d3 := heap_ext b3 hE2
    have d4 := heap_ext b4 hE2
    have e0 := cell_of_heap d0 0
    have e1 := cell_of_heap d0 1
    have e2 := cell_of_heap d0 2
    have e3 := frozen_of_heap d0 0
    have e4 := frozen_of_heap d0 1
    have e5 := frozen_of_heap d0 2
    have k0 := cell_of_heap d4 0
    have k1 := cell_of_heap d4 1
    have k2 := cell_of_heap d4 2
    have k3 := cell_of_heap d4 3
    have l0 := frozen_of_heap d4 0
    have l1 := frozen_of_heap d4 1
    have l2 := frozen_of_heap d4 2
    have l3 := frozen_of_heap d4 3
    clear f0 f1 f2 f3 g0 g1 g2 z0 z1 z2
    go_wp2_with fail
    have m3 := heap_setCell (heap_setCell d4 2 (.string ⟨x.toArray⟩)) 3 (.bool is)
    have mb := ((But.refl (w.heap.size + 4) W2).setCell 2 none (.string ⟨x.toArray⟩)).setCell 3 none (.bool is)
    have n0 := (mb.block w.heap.size (Array.getElem?_eq_some_iff.1 d0).1 (by omega)).trans d0
    have n2' := (mb.block (w.heap.size + 2) (Array.getElem?_eq_some_iff.1 d2).1 (by omega)).trans d2
    have n3' := (mb.block (w.heap.size + 3) (Array.getElem?_eq_some_iff.1 d3).1 (by omega)).trans d3
    have HTX := Lib.hid (refKeep (HTQ.out.ext hE2) mb d4 (by decide))
    have HBEL := Lib.hid (show Ext w _ from belowBut (B := w.heap.size) (hE1.trans hE2) (by omega) (Nat.le_refl _) mb)
    clear e0 e1 e2 e3 e4 e5 k0 k1 k2 k3 l0 l1 l2 l3
    clear mb d0 d2 d3 d4
    generalize (W2.setCell ⟨w.heap.size + 4, 2, none⟩ (.string ⟨x.toArray⟩)).setCell ⟨w.heap.size + 4, 3, none⟩ (.bool is) = W5 at *
    have t0 : W5.cell? ⟨w.heap.size + 2, 0, none⟩ = some (.slice none 0 0) := cell_of_heap n2' 0
    have t1 : W5.cell? ⟨w.heap.size + 2, 1, none⟩ = some (.int .i64 0) := cell_of_heap n2' 1
    have t2 : W5.cell? ⟨w.heap.size + 2, 2, none⟩ = some (.bool false) := cell_of_heap n2' 2
    have u0 := frozen_of_heap n2' 0
    have u1 := frozen_of_heap n2' 1
    have u2 := frozen_of_heap n2' 2
    have r0 : W5.cell? ⟨w.heap.size + 3, 0, none⟩ = some (.int .i64 0) := cell_of_heap n3' 0
    have r1 : W5.cell? ⟨w.heap.size + 3, 1, none⟩ = some (.int .i64 0) := cell_of_heap n3' 1
    have r2 : W5.cell? ⟨w.heap.size + 3, 2, none⟩ = some (.string ⟨#[]⟩) := cell_of_heap n3' 2
    have r3 : W5.cell? ⟨w.heap.size + 3, 3, none⟩ = some (.bool false) := cell_of_heap n3' 3
    have v0 := frozen_of_heap n3' 0
    have v1 := frozen_of_heap n3' 1
    have v2 := frozen_of_heap n3' 2
    have v3 := frozen_of_heap n3' 3
    have p0 : W5.cell? ⟨w.heap.size, 0, none⟩ = some (Value.slice a n c) := cell_of_heap n0 0
    have p1 : W5.cell? ⟨w.heap.size, 1, none⟩ = some (Value.int .i64 (sk : Nat)) := cell_of_heap n0 1
    have p2 : W5.cell? ⟨w.heap.size, 2, none⟩ = some (Value.bool so) := cell_of_heap n0 2
    have q0 : W5.cell? ⟨w.heap.size + 4, 0, none⟩ = some (Value.int .i64 0) := cell_of_heap m3 0
    have q1 : W5.cell? ⟨w.heap.size + 4, 1, none⟩ = some (Value.int .i64 0) := cell_of_heap m3 1
    have q2 : W5.cell? ⟨w.heap.size + 4, 2, none⟩ = some (Value.string ⟨x.toArray⟩) := cell_of_heap m3 2
    have q3 : W5.cell? ⟨w.heap.size + 4, 3, none⟩ = some (Value.bool is) := cell_of_heap m3 3
    go_wp2_with fail
    go_region
    all_goals
      go_wp2_with fail
      obtain ⟨hf1, hf2⟩ := fill_ref (w := W5) (y0 := Value.slice a n c) (y1 := Value.int .i64 (sk : Nat)) (y2 := Value.bool so) n2'
      have h3 := (hf2.block (w.heap.size + 3) (Array.getElem?_eq_some_iff.1 n3').1 (by omega)).trans n3'
      obtain ⟨hf3, hf4⟩ := fill_ans (y0 := Value.int .i64 0) (y1 := Value.int .i64 0) (y2 := Value.string ⟨x.toArray⟩) (y3 := Value.bool is) h3
      have h2 := (hf4.block (w.heap.size + 2) (Array.getElem?_eq_some_iff.1 hf1).1 (by omega)).trans hf1
      have i0 := cell_of_heap h2 0
      have i1 := cell_of_heap h2 1
      have i2 := cell_of_heap h2 2
      have j0 := cell_of_heap hf3 0
      have j1 := cell_of_heap hf3 1
      have j2 := cell_of_heap hf3 2
      have j3 := cell_of_heap hf3 3
      have hTf := refKeep (refKeep HTX.out hf2 n2' (by decide)) hf4 h3 (by decide)
      have hbel : Ext w _ := belowBut (B := w.heap.size) (belowBut (B := w.heap.size) HBEL.out (by omega) (Nat.le_refl _) hf2) (by omega) (Nat.le_refl _) hf4
      generalize (W5.setCell ⟨w.heap.size + 2, 0, none⟩ (Value.slice a n c)).setCell ⟨w.heap.size + 2, 1, none⟩ (Value.int .i64 (sk : Nat)) = w7 at *
      generalize (w7.setCell ⟨w.heap.size + 2, 2, none⟩ (Value.bool so)).setCell ⟨w.heap.size + 3, 0, none⟩ (Value.int .i64 0) = w8 at *
      generalize (w8.setCell ⟨w.heap.size + 3, 1, none⟩ (Value.int .i64 0)).setCell ⟨w.heap.size + 3, 2, none⟩ (Value.string ⟨x.toArray⟩) = w9 at *
      generalize w9.setCell ⟨w.heap.size + 3, 3, none⟩ (Value.bool is) = w10 at *
      refine bodyPost_ret (v := .tuple #[.agg #[Value.slice a n c, Value.int .i64 (sk : Nat), Value.bool so], .agg #[Value.int .i64 0, Value.int .i64 0, Value.string ⟨x.toArray⟩, Value.bool is]]) (by simp [results, Try.results14, go_sem, i0, i1, i2, j0, j1, j2, j3]) rfl ?_
      exact ⟨.agg #[Value.slice a n c, Value.int .i64 (sk : Nat), Value.bool so], by rw [← HY.out.1, ← HY.out.2]; rfl, (show IsRef _ _ (⟨sl, sk, so⟩ : Page.St) from ⟨a, c, by show _ = refStoV a sl.length c (sk : Nat) so; rw [HN.out]; rfl, by show Txts _ (.slice a sl.length c) sl; rw [HN.out]; exact hTf.ext (Ext.drew _)⟩), hbel.trans (Ext.drew _)⟩
  by_cases hk4 : kd = 4
  · subst hk4
    go_enter Try.func14, Try.ntmps14
    go_wp2_with fail
    obtain ⟨W5, hW5, hE5, c0, c2, c3, c4⟩ := doChain w (.slice a n c) (.int .i64 (sk : Nat)) (.bool ki) (.int .i64 4) (.int .i64 kn) (.slice at' nt ct) (.bool ki)
    have HTX := Lib.hid (HT.out.ext hE5)
    have HBEL := Lib.hid hE5
    clear f0 f1 f2 f3 g0 g1 g2 z0 z1 z2
    rw [hW5]
    clear hW5
    have t0 : W5.cell? ⟨w.heap.size + 2, 0, none⟩ = some (.slice none 0 0) := cell_of_heap c2 0
    have t1 : W5.cell? ⟨w.heap.size + 2, 1, none⟩ = some (.int .i64 0) := cell_of_heap c2 1
    have t2 : W5.cell? ⟨w.heap.size + 2, 2, none⟩ = some (.bool false) := cell_of_heap c2 2
    have u0 := frozen_of_heap c2 0
    have u1 := frozen_of_heap c2 1
    have u2 := frozen_of_heap c2 2
    have r0 : W5.cell? ⟨w.heap.size + 3, 0, none⟩ = some (.int .i64 0) := cell_of_heap c3 0
    have r1 : W5.cell? ⟨w.heap.size + 3, 1, none⟩ = some (.int .i64 0) := cell_of_heap c3 1
    have r2 : W5.cell? ⟨w.heap.size + 3, 2, none⟩ = some (.string ⟨#[]⟩) := cell_of_heap c3 2
    have r3 : W5.cell? ⟨w.heap.size + 3, 3, none⟩ = some (.bool false) := cell_of_heap c3 3
    have v0 := frozen_of_heap c3 0
    have v1 := frozen_of_heap c3 1
    have v2 := frozen_of_heap c3 2
    have v3 := frozen_of_heap c3 3
    have p0 : W5.cell? ⟨w.heap.size, 0, none⟩ = some (Value.slice a n c) := cell_of_heap c0 0
    have p1 : W5.cell? ⟨w.heap.size, 1, none⟩ = some (Value.int .i64 (sk : Nat)) := cell_of_heap c0 1
    have p2 : W5.cell? ⟨w.heap.size, 2, none⟩ = some (Value.bool ki) := cell_of_heap c0 2
    have q0 : W5.cell? ⟨w.heap.size + 4, 0, none⟩ = some (Value.int .i64 0) := cell_of_heap c4 0
    have q1 : W5.cell? ⟨w.heap.size + 4, 1, none⟩ = some (Value.int .i64 0) := cell_of_heap c4 1
    have q2 : W5.cell? ⟨w.heap.size + 4, 2, none⟩ = some (Value.string ⟨#[]⟩) := cell_of_heap c4 2
    have q3 : W5.cell? ⟨w.heap.size + 4, 3, none⟩ = some (Value.bool false) := cell_of_heap c4 3
    go_region
    all_goals
      go_wp2_with fail
      obtain ⟨hf1, hf2⟩ := fill_ref (w := W5) (y0 := Value.slice a n c) (y1 := Value.int .i64 (sk : Nat)) (y2 := Value.bool ki) c2
      have h3 := (hf2.block (w.heap.size + 3) (Array.getElem?_eq_some_iff.1 c3).1 (by omega)).trans c3
      obtain ⟨hf3, hf4⟩ := fill_ans (y0 := Value.int .i64 0) (y1 := Value.int .i64 0) (y2 := Value.string ⟨#[]⟩) (y3 := Value.bool false) h3
      have h2 := (hf4.block (w.heap.size + 2) (Array.getElem?_eq_some_iff.1 hf1).1 (by omega)).trans hf1
      have i0 := cell_of_heap h2 0
      have i1 := cell_of_heap h2 1
      have i2 := cell_of_heap h2 2
      have j0 := cell_of_heap hf3 0
      have j1 := cell_of_heap hf3 1
      have j2 := cell_of_heap hf3 2
      have j3 := cell_of_heap hf3 3
      have hTf := refKeep (refKeep HTX.out hf2 c2 (by decide)) hf4 h3 (by decide)
      have hbel : Ext w _ := belowBut (B := w.heap.size) (belowBut (B := w.heap.size) HBEL.out (by omega) (Nat.le_refl _) hf2) (by omega) (Nat.le_refl _) hf4
      generalize (W5.setCell ⟨w.heap.size + 2, 0, none⟩ (Value.slice a n c)).setCell ⟨w.heap.size + 2, 1, none⟩ (Value.int .i64 (sk : Nat)) = w7 at *
      generalize (w7.setCell ⟨w.heap.size + 2, 2, none⟩ (Value.bool ki)).setCell ⟨w.heap.size + 3, 0, none⟩ (Value.int .i64 0) = w8 at *
      generalize (w8.setCell ⟨w.heap.size + 3, 1, none⟩ (Value.int .i64 0)).setCell ⟨w.heap.size + 3, 2, none⟩ (Value.string ⟨#[]⟩) = w9 at *
      generalize w9.setCell ⟨w.heap.size + 3, 3, none⟩ (Value.bool false) = w10 at *
      refine bodyPost_ret (v := .tuple #[.agg #[Value.slice a n c, Value.int .i64 (sk : Nat), Value.bool ki], .agg #[Value.int .i64 0, Value.int .i64 0, Value.string ⟨#[]⟩, Value.bool false]]) (by simp [results, Try.results14, go_sem, i0, i1, i2, j0, j1, j2, j3]) rfl ?_
      exact ⟨.agg #[Value.slice a n c, Value.int .i64 (sk : Nat), Value.bool ki], rfl, (show IsRef _ _ (⟨sl, sk, ki⟩ : Page.St) from ⟨a, c, by show _ = refStoV a sl.length c (sk : Nat) ki; rw [HN.out]; rfl, by show Txts _ (.slice a sl.length c) sl; rw [HN.out]; exact hTf.ext (Ext.drew _)⟩), hbel.trans (Ext.drew _)⟩
  by_cases hk5 : kd = 5
  · subst hk5
    go_enter Try.func14, Try.ntmps14
    go_wp2_with fail
    rw [HW1.out]
    have htake : (sl.take sk).length = sk := by rw [List.length_take, HN.out]; omega
    have HTK := Lib.hid htake
    clear htake f0 f1 f2 f3
    go_region
    obtain ⟨m1, m2⟩ := fill_ref (w := Q1) (y0 := .slice a sk c) (y1 := .int .i64 (sk : Nat)) (y2 := .bool false) b0
    have n2' := (m2.block (w.heap.size + 2) (Array.getElem?_eq_some_iff.1 b2).1 (by omega)).trans b2
    have n3' := (m2.block (w.heap.size + 3) (Array.getElem?_eq_some_iff.1 b3).1 (by omega)).trans b3
    have n4 := (m2.block (w.heap.size + 4) (Array.getElem?_eq_some_iff.1 b4).1 (by omega)).trans b4
    have hTX := refKeep (HTQ.out.take sk hkn) m2 b0 (by decide)
    have hBEL := (show Ext w _ from belowBut (B := w.heap.size) hE1 (Nat.le_refl _) (Nat.le_refl _) m2)
    clear g0 g1 g2 z0 z1 z2 m2
    generalize (Q1.setCell ⟨w.heap.size, 0, none⟩ (.slice a sk c)).setCell ⟨w.heap.size, 1, none⟩ (.int .i64 (sk : Nat)) = W3 at *
    generalize W3.setCell ⟨w.heap.size, 2, none⟩ (.bool false) = W4 at *
    have HTX := Lib.hid (hTX.ext (Ext.drew W4))
    have HBEL := Lib.hid (hBEL.trans (Ext.drew W4))
    have c0 : W4.drew.heap[w.heap.size]? = _ := m1
    have c2 : W4.drew.heap[w.heap.size + 2]? = _ := n2'
    have c3 : W4.drew.heap[w.heap.size + 3]? = _ := n3'
    have c4 : W4.drew.heap[w.heap.size + 4]? = _ := n4
    clear hTX hBEL m1 n2' n3' n4
    generalize W4.drew = W5 at *
    have t0 : W5.cell? ⟨w.heap.size + 2, 0, none⟩ = some (.slice none 0 0) := cell_of_heap c2 0
    have t1 : W5.cell? ⟨w.heap.size + 2, 1, none⟩ = some (.int .i64 0) := cell_of_heap c2 1
    have t2 : W5.cell? ⟨w.heap.size + 2, 2, none⟩ = some (.bool false) := cell_of_heap c2 2
    have u0 := frozen_of_heap c2 0
    have u1 := frozen_of_heap c2 1
    have u2 := frozen_of_heap c2 2
    have r0 : W5.cell? ⟨w.heap.size + 3, 0, none⟩ = some (.int .i64 0) := cell_of_heap c3 0
    have r1 : W5.cell? ⟨w.heap.size + 3, 1, none⟩ = some (.int .i64 0) := cell_of_heap c3 1
    have r2 : W5.cell? ⟨w.heap.size + 3, 2, none⟩ = some (.string ⟨#[]⟩) := cell_of_heap c3 2
    have r3 : W5.cell? ⟨w.heap.size + 3, 3, none⟩ = some (.bool false) := cell_of_heap c3 3
    have v0 := frozen_of_heap c3 0
    have v1 := frozen_of_heap c3 1
    have v2 := frozen_of_heap c3 2
    have v3 := frozen_of_heap c3 3
    have p0 : W5.cell? ⟨w.heap.size, 0, none⟩ = some (Value.slice a sk c) := cell_of_heap c0 0
    have p1 : W5.cell? ⟨w.heap.size, 1, none⟩ = some (Value.int .i64 (sk : Nat)) := cell_of_heap c0 1
    have p2 : W5.cell? ⟨w.heap.size, 2, none⟩ = some (Value.bool false) := cell_of_heap c0 2
    have q0 : W5.cell? ⟨w.heap.size + 4, 0, none⟩ = some (Value.int .i64 0) := cell_of_heap c4 0
    have q1 : W5.cell? ⟨w.heap.size + 4, 1, none⟩ = some (Value.int .i64 0) := cell_of_heap c4 1
    have q2 : W5.cell? ⟨w.heap.size + 4, 2, none⟩ = some (Value.string ⟨#[]⟩) := cell_of_heap c4 2
    have q3 : W5.cell? ⟨w.heap.size + 4, 3, none⟩ = some (Value.bool false) := cell_of_heap c4 3
    go_wp2_with fail
    go_region
    all_goals
      go_wp2_with fail
      obtain ⟨hf1, hf2⟩ := fill_ref (w := W5) (y0 := Value.slice a sk c) (y1 := Value.int .i64 (sk : Nat)) (y2 := Value.bool false) c2
      have h3 := (hf2.block (w.heap.size + 3) (Array.getElem?_eq_some_iff.1 c3).1 (by omega)).trans c3
      obtain ⟨hf3, hf4⟩ := fill_ans (y0 := Value.int .i64 0) (y1 := Value.int .i64 0) (y2 := Value.string ⟨#[]⟩) (y3 := Value.bool false) h3
      have h2 := (hf4.block (w.heap.size + 2) (Array.getElem?_eq_some_iff.1 hf1).1 (by omega)).trans hf1
      have i0 := cell_of_heap h2 0
      have i1 := cell_of_heap h2 1
      have i2 := cell_of_heap h2 2
      have j0 := cell_of_heap hf3 0
      have j1 := cell_of_heap hf3 1
      have j2 := cell_of_heap hf3 2
      have j3 := cell_of_heap hf3 3
      have hTf := refKeep (refKeep HTX.out hf2 c2 (by decide)) hf4 h3 (by decide)
      have hbel : Ext w _ := belowBut (B := w.heap.size) (belowBut (B := w.heap.size) HBEL.out (by omega) (Nat.le_refl _) hf2) (by omega) (Nat.le_refl _) hf4
      generalize (W5.setCell ⟨w.heap.size + 2, 0, none⟩ (Value.slice a sk c)).setCell ⟨w.heap.size + 2, 1, none⟩ (Value.int .i64 (sk : Nat)) = w7 at *
      generalize (w7.setCell ⟨w.heap.size + 2, 2, none⟩ (Value.bool false)).setCell ⟨w.heap.size + 3, 0, none⟩ (Value.int .i64 0) = w8 at *
      generalize (w8.setCell ⟨w.heap.size + 3, 1, none⟩ (Value.int .i64 0)).setCell ⟨w.heap.size + 3, 2, none⟩ (Value.string ⟨#[]⟩) = w9 at *
      generalize w9.setCell ⟨w.heap.size + 3, 3, none⟩ (Value.bool false) = w10 at *
      refine bodyPost_ret (v := .tuple #[.agg #[Value.slice a sk c, Value.int .i64 (sk : Nat), Value.bool false], .agg #[Value.int .i64 0, Value.int .i64 0, Value.string ⟨#[]⟩, Value.bool false]]) (by simp [results, Try.results14, go_sem, i0, i1, i2, j0, j1, j2, j3]) rfl ?_
      exact ⟨.agg #[Value.slice a sk c, Value.int .i64 (sk : Nat), Value.bool false], rfl, (show IsRef _ _ (⟨sl.take sk, sk, false⟩ : Page.St) from ⟨a, c, by show _ = refStoV a (sl.take sk).length c (sk : Nat) false; rw [HTK.out]; rfl, by show Txts _ (.slice a (sl.take sk).length c) (sl.take sk); rw [HTK.out]; exact hTf.ext (Ext.drew _)⟩), hbel.trans (Ext.drew _)⟩
  have hstep : Page.step ⟨sl, sk, so⟩ ⟨kd, kn, kb, ki⟩ = (⟨sl, sk, so⟩, Page.zero) := by unfold Page.step; simp [hk0, hk1, hk2, hk3, hk4, hk5]
  rw [hstep]
  clear hstep
  go_enter Try.func14, Try.ntmps14
  go_wp2_with fail
  rw [HW1.out]
  have t0 : Q1.cell? ⟨w.heap.size + 2, 0, none⟩ = some (.slice none 0 0) := cell_of_heap b2 0
  have t1 : Q1.cell? ⟨w.heap.size + 2, 1, none⟩ = some (.int .i64 0) := cell_of_heap b2 1
  have t2 : Q1.cell? ⟨w.heap.size + 2, 2, none⟩ = some (.bool false) := cell_of_heap b2 2
  have u0 := frozen_of_heap b2 0
  have u1 := frozen_of_heap b2 1
  have u2 := frozen_of_heap b2 2
  have r0 : Q1.cell? ⟨w.heap.size + 3, 0, none⟩ = some (.int .i64 0) := cell_of_heap b3 0
  have r1 : Q1.cell? ⟨w.heap.size + 3, 1, none⟩ = some (.int .i64 0) := cell_of_heap b3 1
  have r2 : Q1.cell? ⟨w.heap.size + 3, 2, none⟩ = some (.string ⟨#[]⟩) := cell_of_heap b3 2
  have r3 : Q1.cell? ⟨w.heap.size + 3, 3, none⟩ = some (.bool false) := cell_of_heap b3 3
  have v0 := frozen_of_heap b3 0
  have v1 := frozen_of_heap b3 1
  have v2 := frozen_of_heap b3 2
  have v3 := frozen_of_heap b3 3
  have p0 : Q1.cell? ⟨w.heap.size, 0, none⟩ = some (Value.slice a n c) := cell_of_heap b0 0
  have p1 : Q1.cell? ⟨w.heap.size, 1, none⟩ = some (Value.int .i64 (sk : Nat)) := cell_of_heap b0 1
  have p2 : Q1.cell? ⟨w.heap.size, 2, none⟩ = some (Value.bool so) := cell_of_heap b0 2
  have q0 : Q1.cell? ⟨w.heap.size + 4, 0, none⟩ = some (Value.int .i64 0) := cell_of_heap b4 0
  have q1 : Q1.cell? ⟨w.heap.size + 4, 1, none⟩ = some (Value.int .i64 0) := cell_of_heap b4 1
  have q2 : Q1.cell? ⟨w.heap.size + 4, 2, none⟩ = some (Value.string ⟨#[]⟩) := cell_of_heap b4 2
  have q3 : Q1.cell? ⟨w.heap.size + 4, 3, none⟩ = some (Value.bool false) := cell_of_heap b4 3
  go_region
  all_goals
    go_wp2_with fail
    obtain ⟨hf1, hf2⟩ := fill_ref (w := Q1) (y0 := Value.slice a n c) (y1 := Value.int .i64 (sk : Nat)) (y2 := Value.bool so) b2
    have h3 := (hf2.block (w.heap.size + 3) (Array.getElem?_eq_some_iff.1 b3).1 (by omega)).trans b3
    obtain ⟨hf3, hf4⟩ := fill_ans (y0 := Value.int .i64 0) (y1 := Value.int .i64 0) (y2 := Value.string ⟨#[]⟩) (y3 := Value.bool false) h3
    have h2 := (hf4.block (w.heap.size + 2) (Array.getElem?_eq_some_iff.1 hf1).1 (by omega)).trans hf1
    have i0 := cell_of_heap h2 0
    have i1 := cell_of_heap h2 1
    have i2 := cell_of_heap h2 2
    have j0 := cell_of_heap hf3 0
    have j1 := cell_of_heap hf3 1
    have j2 := cell_of_heap hf3 2
    have j3 := cell_of_heap hf3 3
    have hTf := refKeep (refKeep HTQ.out hf2 b2 (by decide)) hf4 h3 (by decide)
    have hbel : Ext w _ := belowBut (B := w.heap.size) (belowBut (B := w.heap.size) HE1.out (by omega) (Nat.le_refl _) hf2) (by omega) (Nat.le_refl _) hf4
    generalize (Q1.setCell ⟨w.heap.size + 2, 0, none⟩ (Value.slice a n c)).setCell ⟨w.heap.size + 2, 1, none⟩ (Value.int .i64 (sk : Nat)) = w7 at *
    generalize (w7.setCell ⟨w.heap.size + 2, 2, none⟩ (Value.bool so)).setCell ⟨w.heap.size + 3, 0, none⟩ (Value.int .i64 0) = w8 at *
    generalize (w8.setCell ⟨w.heap.size + 3, 1, none⟩ (Value.int .i64 0)).setCell ⟨w.heap.size + 3, 2, none⟩ (Value.string ⟨#[]⟩) = w9 at *
    generalize w9.setCell ⟨w.heap.size + 3, 3, none⟩ (Value.bool false) = w10 at *
    refine bodyPost_ret (v := .tuple #[.agg #[Value.slice a n c, Value.int .i64 (sk : Nat), Value.bool so], .agg #[Value.int .i64 0, Value.int .i64 0, Value.string ⟨#[]⟩, Value.bool false]]) (by simp [results, Try.results14, go_sem, i0, i1, i2, j0, j1, j2, j3]) rfl ?_
    exact ⟨.agg #[Value.slice a n c, Value.int .i64 (sk : Nat), Value.bool so], rfl, ⟨a, c, by rw [HN.out]; rfl, by rw [HN.out]; exact hTf.ext (Ext.drew _)⟩, hbel.trans (Ext.drew _)⟩
end Go.Proofs.Ytpefengjpedifaa
