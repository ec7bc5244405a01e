/-
  Merged: Layer 14, the program: Find, of all rows.
-/
import Derived.Test.YtkpcmedmiiohnaaBsRgG

namespace Go.Proofs.Ytkpcmedmiiohnaa
set_option linter.unusedSimpArgs false
set_option linter.unusedVariables false
set_option maxRecDepth 100000
open Go.RowKit Go.Shelf
/- Layer 14, the program: Find, of all rows. -/
attribute [local go_sem] Oper.semAt_some

/-- What Find tells. -/
def Reg.FindIs (R : List Reg.Row) (pos t x code : Int) : Prop :=
  (pos < 0 ∧ t = 0 ∧ x = 0 ∧ code = 1) ∨ (code = 0 ∧ ∃ i, ∃ hi : i < R.length, R[i].start ≤ pos ∧ (∀ j (hj : j < R.length), i < j → pos < R[j].start) ∧ t = R[i].c.term ∧ x = pos - R[i].start)
/-- Within the range. -/
structure InFind (w : World) (pos : Int) (q : Nat) (t x code : Int) (W : World) : Prop where
  bl : Below w.heap.size w W
  posAt : W.heap[q]? = some (.cells #[.int .i64 pos] 3 (0, 0))
  res : W.heap[q + 1]? = some (.cells #[.int .i64 t, .int .i64 x] 49 (0, 0))
  err : W.heap[q + 2]? = some (.cells #[.int .i64 code] 30 (0, 0))
theorem InFind.grown {w W W' : World} {pos t x code : Int} {q B : Nat} {row : Option Nat} (hB : w.heap.size ≤ B) (h : InFind w pos q t x code W) (hg : W.grownBy W' row) (hr : ∀ r, row = some r → B ≤ r ∧ ∃ o : Obj, W.heap[r]? = some o ∧ o.isCells = false) : InFind w pos q t x code W' :=
  ⟨h.bl.grown hg (by have := h.bl.size; omega) (fun k e => by have := (hr k e).1; omega), cellsKept14 hg (fun r e => (hr r e).2) h.posAt, cellsKept14 hg (fun r e => (hr r e).2) h.res, cellsKept14 hg (fun r e => (hr r e).2) h.err⟩
theorem find14_shape {w : World} {B p : Nat} {R : List Reg.Row} (h : IsReg w B p R) : ∃ (g n c : Nat) (X : List RowX), w.heap[p]? = some (.cells #[.slice (some ⟨g, 0, none⟩) n c] 71 (0, 0)) ∧ X.length = n ∧ n ≤ c ∧ c ≤ 9223372036854775807 ∧
    (∀ i (hi : i < X.length), X[i].At w g i) ∧ X.length = R.length ∧ ∀ i (hi : i < X.length) (hj : i < R.length), X[i].T = R[i].c.term ∧ X[i].S = R[i].start := by
  obtain ⟨g, c, L, h1, h2, h3, h4, hl, hat, hR, hc⟩ := h.open
  have each : ∀ i, ∃ x : RowX, ∀ (hi : i < L.length), x.At w g i ∧ x.T = L[i].x.c.term ∧ x.S = L[i].x.start := by
    intro i
    by_cases hi : i < L.length
    · obtain ⟨k0, k1, k2, k3, k4⟩ := hc i hi
      obtain ⟨r1, r2, r3⟩ := hat _ (List.getElem_mem hi)
      obtain ⟨a1, n1, c1, e1⟩ := ownSlice r1
      obtain ⟨a2, n2, c2, e2⟩ := r2.slice
      obtain ⟨a3, n3, c3, e3⟩ := r3.shape
      rw [e1] at k1
      rw [e2] at k2
      rw [e3] at k3
      exact ⟨⟨i, _, a1, n1, c1, a2, n2, c2, a3, n3, c3, _⟩, fun _ => ⟨⟨rfl, k0, k1, k2, k3, k4⟩, rfl, rfl⟩⟩
    · exact ⟨⟨0, 0, none, 0, 0, none, 0, 0, none, 0, 0, 0⟩, fun h => absurd h hi⟩
  obtain ⟨f, hf⟩ : ∃ f : Nat → RowX, ∀ i (hi : i < L.length), (f i).At w g i ∧ (f i).T = L[i].x.c.term ∧ (f i).S = L[i].x.start := ⟨fun i => (each i).choose, fun i => (each i).choose_spec⟩
  refine ⟨g, R.length, c, (List.range L.length).map f, h1, by simp [hl], h2, h3, fun i hi => ?_, by simp [hl], fun i hi hj => ?_⟩
  · have hi' : i < L.length := by simpa using hi
    simp only [List.getElem_map, List.getElem_range]
    exact (hf i hi').1
  · have hi' : i < L.length := by simpa using hi
    simp only [List.getElem_map, List.getElem_range]
    subst hR
    simp only [List.getElem_map]
    exact (hf i hi').2
set_option maxHeartbeats 4000000 in
theorem find14_any {w : World} {B p : Nat} {R : List Reg.Row} (pos : Int) (h : IsReg w B p R) (hpos : pos ≤ 9223372036854775807) :
    Calls Try.prog 15 #[.pointer (some ⟨p, 0, none⟩), .int .i64 pos] w (fun e w' => ∃ t x code, e = .returned (.tuple #[.agg #[.int .i64 t, .int .i64 x], .int .i64 code]) ∧ Reg.FindIs R pos t x code ∧ Ext w w') := by
  have HOK := Lib.hid h.ok
  obtain ⟨q, hq⟩ : ∃ q, w.heap.size = q := ⟨_, rfl⟩
  obtain ⟨w1, hw1⟩ : ∃ z, w.alloc (.cells #[.int .i64 pos] 3) = z := ⟨_, rfl⟩
  obtain ⟨w2, hw2⟩ : ∃ z, w1.alloc (.cells #[.int .i64 0, .int .i64 0] 49) = z := ⟨_, rfl⟩
  obtain ⟨w3, hw3⟩ : ∃ z, w2.alloc (.cells #[.int .i64 0] 30) = z := ⟨_, rfl⟩
  have hE1 : Ext w w1 := by rw [← hw1]; exact Ext.alloc _ _
  have hE2 : Ext w1 w2 := by rw [← hw2]; exact Ext.alloc _ _
  have hE3 : Ext w2 w3 := by rw [← hw3]; exact Ext.alloc _ _
  have hs1 : w1.heap.size = q + 1 := by rw [← hw1, World.size_alloc, hq]
  have hs2 : w2.heap.size = q + 1 + 1 := by rw [← hw2, World.size_alloc, hs1]
  have hB1 : w1.heap[q]? = some (.cells #[.int .i64 pos] 3 (0, 0)) := by rw [← hw1, ← hq]; exact heap_alloc_new _ _
  have hB2 : w2.heap[q + 1]? = some (.cells #[.int .i64 0, .int .i64 0] 49 (0, 0)) := by rw [← hw2, ← hs1]; exact heap_alloc_new _ _
  have hB3 : w3.heap[q + 1 + 1]? = some (.cells #[.int .i64 0] 30 (0, 0)) := by rw [← hw3, ← hs2]; exact heap_alloc_new _ _
  have HQ := Lib.hid (And.intro hq (And.intro hw1 (And.intro hs1 (And.intro hw2 (And.intro hs2 hw3)))))
  have HX := Lib.hid (And.intro (hE1.trans (hE2.trans hE3)) (And.intro (heap_ext hB1 (hE2.trans hE3)) (And.intro (heap_ext hB2 hE3) hB3)))
  obtain ⟨g, n, c, X, hp0, hL, hnc, hmc, hc, hXR, hR⟩ := find14_shape (h.ext HX.out.1)
  have HC := Lib.hid hc
  have HL := Lib.hid (And.intro hL (And.intro hXR hR))
  have HNC := Lib.hid (And.intro hnc hmc)
  have hrow := HOK.out.start_bound
  have HST := Lib.hid hrow
  have HPOS := Lib.hid hpos
  have hpc := cell_of_heap hp0 0
  simp only [List.getElem?_toArray, List.getElem?_cons_zero] at hpc
  clear hq hw1 hw2 hw3 hE1 hE2 hE3 hs1 hs2 hB1 hB2 hB3 h hL hR hnc hmc hc hrow hpos hp0 hXR
  refine (callsIn_wide (n := 3)).1 ?_
  refine callsIn_of_wp_marks Try.func15 rfl trivial ?_ rfl
  refine wpIn_wide.2 ?_
  simp only [Try.ntmps15, List.size_toArray, List.length_cons, List.length_nil, Nat.reduceAdd, Nat.reduceSub, Array.replicate_succ, Array.replicate_zero, List.push_toArray, List.append_toArray, List.nil_append, List.cons_append]
  go_upto_region 1 with fail
  rw [HQ.out.1, HQ.out.2.1]
  try rw [HQ.out.2.2.2.1]
  try rw [HQ.out.2.2.2.2.2]
  go_wp2_with fail
  refine (backward14_any (.slice (some ⟨g, 0, none⟩) n c) w3 ⟨_, _, _, rfl⟩).mono ?_
  rintro e w4 ⟨b, rfl, hE4, hb4⟩
  have HE4 := Lib.hid (HX.out.1.trans hE4)
  have HB4 := Lib.hid (And.intro (heap_ext HX.out.2.1 hE4) (And.intro (heap_ext HX.out.2.2.1 hE4) (heap_ext HX.out.2.2.2 hE4)))
  have HSQ := Lib.hid (back14_stops (3 - 1) (by omega) b g n c X w4 HL.out.1 HNC.out (fun i hi => (HC.out i hi).below hE4) hb4)
  have hqb : q + 1 + 1 < w4.heap.size := (Array.getElem?_eq_some_iff.1 HB4.out.2.2).1
  clear hE4 hb4 hpc
  go_wp2_with fail
  refine (wpIn_wide (n := 3)).1 ?_
  have hsz4 : w.heap.size ≤ w4.heap.size := HE4.out.size
  refine wpIn_rangeAlloc (n := 3) rfl (by omega) (gf := 57) (lb := #[.pointer (some ⟨b, 0, none⟩)]) rfl trivial (enters_of Try.func57 (by kernel_rfl) rfl)
    HSQ.out (fun _ _ _ h k => h.trans k) (fun W l o o' h1 h2 h3 h4 => belowK_b (w := w4) (Nat.le_refl _) W l o o' h1 h2 h3 h4) (Below.refl _ _) (fun _ => rfl)
    (fun pre W => InFind w pos q 0 0 0 W ∧ Below w4.heap.size w4 W ∧ ∀ t ∈ pre, pos < t.S)
    (fun c pre W => c = .ret ∧ ∃ pre0 x, pre = pre0 ++ [x] ∧ x.S ≤ pos ∧ (∀ t ∈ pre0, pos < t.S) ∧ ∃ d, d = wrap64 (pos - x.S) ∧ InFind w pos q x.T d 0 W)
    (fun s W W' row h hg hr => ⟨h.1.grown hsz4 hg hr, h.2.1.grown hg h.2.1.size (fun k e => (hr k e).1), h.2.2⟩)
    (fun c s W W' row hs hg hr => by
      obtain ⟨e, pre0, x, h1, h2, h3, d, h4, h5⟩ := hs
      exact ⟨e, pre0, x, h1, h2, h3, d, h4, h5.grown hsz4 hg hr⟩)
    ⟨⟨HE4.out, HB4.out.1, HB4.out.2.1, HB4.out.2.2⟩, Below.refl _ _, by simp⟩
    (fun x W => W.alloc (.cells x.cells 68))
    (fun x q2 => { tmps := #[.pointer (some ⟨p, 0, none⟩), .int .i64 pos, undef, .pointer (some ⟨q, 0, none⟩), .pointer (some ⟨q + 1, 0, none⟩), .pointer (some ⟨q + 1 + 1, 0, none⟩), undef, .pointer (some ⟨q2, 0, none⟩), .pointer (some ⟨p, 0, none⟩), .pointer (some ⟨p, 0, none⟩), .pointer (some ⟨p, 0, none⟩), .slice (some ⟨g, 0, none⟩) n c, .func (.func 57) #[] #[.pointer (some ⟨b, 0, none⟩)], .int .i64 (x.i : Int), .agg x.cells, undef, undef, undef, undef, undef, undef, undef, undef, undef, undef, undef, undef, undef], defers := [] })
    (fun pre x q2 W => (InFind w pos q 0 0 0 W ∧ Below w4.heap.size w4 W ∧ ∀ t ∈ pre, pos < t.S) ∧ W.heap[q2]? = some (.cells x.cells 68 (0, 0)) ∧ q + 1 + 1 < q2)
    ?assign ?gx ?ownb ?body ?done ?stop
  case assign =>
    intro l x W K hK
    obtain ⟨xi, T, a1, n1, c1, a2, n2, c2, a3, n3, c3, S⟩ := x
    unfold RowX.cells at hK
    dsimp only [RowX.encs] at hK ⊢
    gi_wp2
    exact hK
  case gx =>
    rintro pre x W ⟨h1, h2, h3⟩
    have hE := Ext.alloc W (.cells x.cells 68)
    exact ⟨⟨⟨⟨h1.bl.trans (hE.mono h1.bl.size), heap_ext h1.posAt hE, heap_ext h1.res hE, heap_ext h1.err hE⟩, h2.trans (hE.mono h2.size), h3⟩, heap_alloc_new _ _, (Array.getElem?_eq_some_iff.1 h1.err).1⟩, (KeepsOthers.alloc W _).from _, hE.mono h2.size⟩
  case ownb =>
    rintro x q2 pre W W' row ⟨⟨h1, h2, h3⟩, h4, h5⟩ hg hr
    exact ⟨⟨h1.grown hsz4 hg hr, h2.grown hg h2.size (fun k e => (hr k e).1), h3⟩, cellsKept14 hg (fun r e => (hr r e).2) h4, h5⟩
  case body =>
    rintro l pre x q2 V ⟨⟨h1, h2, h3⟩, h4, h5⟩ hlen
    have H1 := Lib.hid h1
    have H2 := Lib.hid h2
    have H3 := Lib.hid h3
    have H4 := Lib.hid h4
    obtain ⟨xi, T, a1, n1, c1, a2, n2, c2, a3, n3, c3, S⟩ := x
    unfold RowX.cells at h4 ⊢
    simp only at h4 ⊢
    have c0 := cell_of_heap h1.posAt 0
    have c1' := cell_of_heap h4 0
    have c2' := cell_of_heap h4 4
    have c3' := cell_of_heap h1.res 0
    have c4' := cell_of_heap h1.res 1
    have c5' := cell_of_heap h1.err 0
    have f3 := frozen_of_heap h1.res 0
    have f4 := frozen_of_heap h1.res 1
    have f5 := frozen_of_heap h1.err 0
    simp only [List.getElem?_toArray, List.getElem?_cons_zero, List.getElem?_cons_succ] at c0 c1' c2' c3' c4' c5'
    clear h1 h2 h3 h4
    by_cases hgt : S ≤ pos
    · gi_wp2
      obtain ⟨D, hD⟩ : ∃ z, wrap64 (pos - S) = z := ⟨_, rfl⟩
      rw [hD]
      have e1 := heap_setCell H1.out.res 0 (.int .i64 T)
      have e2 := heap_setCell e1 1 (.int .i64 D)
      have e3 := (Below.heap_setCell V ⟨q + 1, 0, none⟩ (.int .i64 T) (q + 1 + 1) (by simp)).trans H1.out.err
      have e4 := (Below.heap_setCell (V.setCell ⟨q + 1, 0, none⟩ (.int .i64 T)) ⟨q + 1, 1, none⟩ (.int .i64 D) (q + 1 + 1) (by simp)).trans e3
      have e5 := heap_setCell e4 0 (.int .i64 0)
      have hq : w.heap.size = q := HQ.out.1
      refine ⟨((KeepsOthers.setCell _ _ _).trans ((KeepsOthers.setCell _ _ _).trans (KeepsOthers.setCell _ _ _))).from _, rfl, pre, _, rfl, hgt, H3.out, D, hD.symm, ?_, ?_, ?_, e5⟩
      · exact ((H1.out.bl.setCell (by dsimp only; omega) _).setCell (by dsimp only; omega) _).setCell (by dsimp only; omega) _
      · exact (Below.heap_setCell _ _ _ _ (by simp; omega)).trans ((Below.heap_setCell _ _ _ _ (by simp)).trans ((Below.heap_setCell _ _ _ _ (by simp)).trans H1.out.posAt))
      · exact (Below.heap_setCell _ _ _ _ (by simp)).trans e2
    · gi_wp2
      exact ⟨KeepsFrom.refl _ _, Below.refl _ _, H1.out, H2.out, fun t ht => by
        rcases List.mem_append.1 ht with ht | ht
        · exact H3.out t ht
        · rw [List.mem_singleton.1 ht]; simp only; omega⟩
  case done =>
    rintro D xs W hD rfl ⟨h1, h2, h3⟩ hK
    have hneg : pos < 0 := by
      have h0 := HOK.out.ne
      have hx := HL.out.2.2 0 (by rw [HL.out.2.1]; exact h0) h0
      have hz := HOK.out.zero
      have hX0 : 0 < X.length := by rw [HL.out.2.1]; exact h0
      have hm := h3 (X[0]'hX0) (List.mem_reverse.2 (List.getElem_mem _))
      rw [hx.2] at hm
      omega
    have d0 := cell_of_heap h1.res 0
    have d1 := cell_of_heap h1.res 1
    have d2 := cell_of_heap h1.err 0
    have f0 := frozen_of_heap h1.res 0
    have f1 := frozen_of_heap h1.res 1
    have f2 := frozen_of_heap h1.err 0
    simp only [List.getElem?_toArray, List.getElem?_cons_zero, List.getElem?_cons_succ] at d0 d1 d2
    have HI1 := Lib.hid h1
    clear h1 h2 h3
    go_wp2_with fail
    have hq : w.heap.size = q := HQ.out.1
    have e1 := heap_setCell HI1.out.res 0 (.int .i64 0)
    have e2 := heap_setCell e1 1 (.int .i64 0)
    have e3 := (Below.heap_setCell W ⟨q + 1, 0, none⟩ (.int .i64 0) (q + 1 + 1) (by simp)).trans HI1.out.err
    have e4 := (Below.heap_setCell (W.setCell ⟨q + 1, 0, none⟩ (.int .i64 0)) ⟨q + 1, 1, none⟩ (.int .i64 0) (q + 1 + 1) (by simp)).trans e3
    have e5 := heap_setCell e4 0 (.int .i64 1)
    have e6 := (Below.heap_setCell ((W.setCell ⟨q + 1, 0, none⟩ (.int .i64 0)).setCell ⟨q + 1, 1, none⟩ (.int .i64 0)) ⟨q + 1 + 1, 0, none⟩ (.int .i64 1) (q + 1) (by simp)).trans e2
    have hDq : D ≠ q + 1 := by omega
    have hDq2 : D ≠ q + 1 + 1 := by omega
    have hK2 := (Below.heap_setCell ((W.setCell ⟨q + 1, 0, none⟩ (.int .i64 0)).setCell ⟨q + 1, 1, none⟩ (.int .i64 0)) ⟨q + 1 + 1, 0, none⟩ (.int .i64 1) D (by simpa using hDq2)).trans ((Below.heap_setCell (W.setCell ⟨q + 1, 0, none⟩ (.int .i64 0)) ⟨q + 1, 1, none⟩ (.int .i64 0) D (by simpa using hDq)).trans ((Below.heap_setCell W ⟨q + 1, 0, none⟩ (.int .i64 0) D (by simpa using hDq)).trans hK))
    have hBz : Below w.heap.size w (((W.setCell ⟨q + 1, 0, none⟩ (.int .i64 0)).setCell ⟨q + 1, 1, none⟩ (.int .i64 0)).setCell ⟨q + 1 + 1, 0, none⟩ (.int .i64 1)) := ((HI1.out.bl.setCell (by dsimp only; omega) _).setCell (by dsimp only; omega) _).setCell (by dsimp only; omega) _
    obtain ⟨Z, hZ⟩ : ∃ z, ((W.setCell ⟨q + 1, 0, none⟩ (.int .i64 0)).setCell ⟨q + 1, 1, none⟩ (.int .i64 0)).setCell ⟨q + 1 + 1, 0, none⟩ (.int .i64 1) = z := ⟨_, rfl⟩
    rw [hZ] at e5 e6 hK2 hBz ⊢
    have m1 : (Z.putObj D (.deferred none)).heap[q + 1]? = _ := (World.putObj_heap_other (Ne.symm hDq)).trans e6
    have m2 : (Z.putObj D (.deferred none)).heap[q + 1 + 1]? = _ := (World.putObj_heap_other (Ne.symm hDq2)).trans e5
    have g1 := cell_of_heap m1 0
    have g2 := cell_of_heap m1 1
    have g3 := cell_of_heap m2 0
    simp only [List.setIfInBounds_toArray, List.set_cons_zero, List.set_cons_succ, List.getElem?_toArray, List.getElem?_cons_zero, List.getElem?_cons_succ] at g1 g2 g3
    refine ⟨by simp, .inl ⟨D, _, rfl, run_takeDeferred hK2, ?_⟩⟩
    refine ⟨.tuple #[.agg #[.int .i64 0, .int .i64 0], .int .i64 1], by simp [results, Try.results15, go_sem, g1, g2, g3], 0, 0, 1, rfl, .inl ⟨hneg, rfl, rfl, rfl⟩, hBz.trans (belowK_b (w := w) (Nat.le_refl _) Z D _ _ (by omega) hK2 rfl rfl)⟩
  case stop =>
    rintro D c pre W hD ⟨k, hk, rfl⟩ ⟨rfl, pre0, x, h0, h1, h2, d, hd, h3⟩ hK
    have hkX : k < X.length := by rw [HL.out.1]; exact hk
    have hkR : k < R.length := by rw [← HL.out.2.1]; exact hkX
    have hh : pre0 = (X.drop (k + 1)).reverse ∧ x = X[k] := by
      rw [List.drop_eq_getElem_cons hkX, List.reverse_cons] at h0
      have := List.append_inj' h0 rfl
      exact ⟨this.1.symm, by simpa using this.2.symm⟩
    obtain ⟨rfl, rfl⟩ := hh
    obtain ⟨hT, hS⟩ := HL.out.2.2 k hkX hkR
    have hst := HST.out k hkR
    have hlen := HOK.out.len
    have hp := HPOS.out
    rw [hS] at h1 hd
    have hd' : d = pos - R[k].start := by rw [hd]; unfold wrap64; omega
    rw [hT] at h3
    have HF := Lib.hid (show Reg.FindIs R pos R[k].c.term d 0 from .inr ⟨rfl, k, hkR, h1, fun j hj hkj => by
      obtain ⟨_, hSj⟩ := HL.out.2.2 j (by rw [HL.out.2.1]; exact hj) hj
      rw [← hSj]
      refine h2 _ (List.mem_reverse.2 ?_)
      rw [List.mem_drop_iff_getElem]
      exact ⟨j - (k + 1), by rw [HL.out.2.1]; omega, by congr 1; omega⟩, rfl, hd'⟩)
    obtain ⟨TT, hTT⟩ : ∃ z, R[k].c.term = z := ⟨_, rfl⟩
    rw [hTT] at h3 HF
    have HI1 := Lib.hid h3
    clear h0 h1 h2 hd hd' hst h3 hT hS hTT hp
    refine wpIn_wide.2 ?_
    go_wp2_with fail
    have hq : w.heap.size = q := HQ.out.1
    have hDq : D ≠ q + 1 := by omega
    have hDq2 : D ≠ q + 1 + 1 := by omega
    have m1 : (W.putObj D (.deferred none)).heap[q + 1]? = _ := (World.putObj_heap_other (Ne.symm hDq)).trans HI1.out.res
    have m2 : (W.putObj D (.deferred none)).heap[q + 1 + 1]? = _ := (World.putObj_heap_other (Ne.symm hDq2)).trans HI1.out.err
    have g1 := cell_of_heap m1 0
    have g2 := cell_of_heap m1 1
    have g3 := cell_of_heap m2 0
    simp only [List.getElem?_toArray, List.getElem?_cons_zero, List.getElem?_cons_succ] at g1 g2 g3
    refine ⟨by simp, .inl ⟨D, _, rfl, run_takeDeferred hK, ?_⟩⟩
    refine ⟨.tuple #[.agg #[.int .i64 TT, .int .i64 d], .int .i64 0], by simp [results, Try.results15, go_sem, g1, g2, g3], TT, d, 0, rfl, HF.out, HI1.out.bl.trans (belowK_b (w := w) (Nat.le_refl _) W D _ _ (by omega) hK rfl rfl)⟩
end Go.Proofs.Ytkpcmedmiiohnaa
