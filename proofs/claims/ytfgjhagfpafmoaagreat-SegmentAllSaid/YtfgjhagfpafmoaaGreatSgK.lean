/-
  Merged: Layer 9, the statements' opened.
-/
import Derived.Test.YtfgjhagfpafmoaaGreatSgI
import Derived.Test.YtfgjhagfpafmoaaGreatSgRow

namespace Go.Proofs.YtfgjhagfpafmoaaGreat
set_option linter.unusedSimpArgs false
set_option linter.unusedVariables false
set_option maxRecDepth 100000
open Go.RowKit
/- Layer 9, the statements' opened. -/
theorem IsSto.butQ {w w' : World} {B p q : Nat} {va vp : Value} {S : Page.St} {cs : Array Value} {t : TypeId} {fr : Nat × Nat} (h : IsSto w B p va vp S) (hq : w.heap[q]? = some (.cells cs t fr)) (h1 : t ≠ 141) (h2 : t ≠ 5) (h3 : t ≠ 3) (hb : But q w w') : IsSto w' B p va vp S :=
  ⟨(hb.block p h.lt (fun e => by subst e; rw [h.heap] at hq; injection hq with hq; injection hq with _ e _; exact h1 e.symm)).trans h.heap, rowBut h.all (rowBeside h.all hq h2) hb, rowBut h.places (rowBeside h.places hq h3) hb, h.ok⟩
theorem IsSeg.butT {w w' : World} {B U g p q : Nat} {G : Seg.Sg} {cs : Array Value} {t : TypeId} {fr : Nat × Nat} (h : IsSeg w B U g p G) (hq : w.heap[q]? = some (.cells cs t fr)) (h1 : t ≠ 141) (h2 : t ≠ 5) (h3 : t ≠ 3) (h4 : t ≠ 144) (h5 : t ≠ 44) (hb : But q w w') : IsSeg w' B U g p G := by
  obtain ⟨va, vp, lv, ps, h⟩ := h
  exact ⟨va, vp, lv, ps, h.g1, h.g2, h.p1, h.p2, h.ua, h.up, h.ul, h.sto.butQ hq h1 h2 h3 hb, h.seg.butT hq h4 h5 h3 hb⟩
theorem build_seat (w : World) (p g : Nat) : (Instr.build 29 #[(0, .pointer (some ⟨p, 0, none⟩)), (1, .pointer (some ⟨g, 0, none⟩))]).run Tryz.prog w = .ok (.agg #[.pointer (some ⟨p, 0, none⟩), .pointer (some ⟨g, 0, none⟩)]) w := by kernel_rfl

set_option maxHeartbeats 4000000 in
theorem opened9_any (v : Value) (bs : List UInt8) (w : World) (hv : Bytes w v bs) :
    Calls Tryz.prog 10 #[v] w fun e w' => ∃ p g, e = .returned (.tuple #[.agg #[.pointer (some ⟨p, 0, none⟩), .pointer (some ⟨g, 0, none⟩)], .bool true]) ∧ IsSeg w' w.heap.size w'.heap.size g p (Seg.ofStore (Page.fromBytes bs)) ∧ Ext w w' := by
  have HV := Lib.hid hv
  obtain ⟨a, n, c, rfl⟩ := hv.isSlice
  have hbs := build_seat
  obtain ⟨w1, hw1⟩ : ∃ w1, w.alloc (.cells #[.pointer none, .pointer none] 29) = w1 := ⟨_, rfl⟩
  have hE1 : Ext w w1 := by rw [← hw1]; exact Ext.alloc _ _
  have hx1 : w1.heap[w.heap.size]? = some (.cells #[.pointer none, .pointer none] 29 (0, 0)) := by rw [← hw1]; exact heap_alloc_new _ _
  have HW1 := Lib.hid hw1
  have HE1 := Lib.hid (And.intro hE1 hx1)
  clear hv hw1 hE1 hx1
  go_enter Tryz.func10, Tryz.ntmps10
  go_upto_region 1 with fail
  rw [HW1.out]
  obtain ⟨X, hX⟩ : ∃ X, w.heap.size = X := ⟨_, rfl⟩
  have HX := Lib.hid hX
  rw [hX]
  go_wp2_with fail
  refine (new8_any _ bs w1 (HV.out.below HE1.out.1)).mono ?_
  rintro e w2 ⟨va, vp, rfl, hs2, hE2⟩
  have HS2 := Lib.hid (And.intro hs2 (HE1.out.1.trans hE2))
  have HX2 := Lib.hid (heap_ext HE1.out.2 hE2)
  have hpsz : X ≤ w1.heap.size := by rw [← HX.out]; exact HE1.out.1.size
  obtain ⟨p, hp⟩ : ∃ p, w1.heap.size = p := ⟨_, rfl⟩
  rw [hp] at HS2 hpsz ⊢
  clear hs2 hE2 hp
  go_wp2_with fail
  refine (open9_any HS2.out.1).mono ?_
  rintro e w3 ⟨rfl, ⟨lv, ps, hs3⟩, hE3⟩
  have hgsz : X ≤ w2.heap.size := by rw [← HX.out]; exact HS2.out.2.size
  obtain ⟨g, hg⟩ : ∃ g, w2.heap.size = g := ⟨_, rfl⟩
  rw [hg] at hs3 hgsz ⊢
  have hseg : IsSeg w3 X w3.heap.size g p (Seg.ofStore (Page.fromBytes bs)) := IsSeg.of hgsz hpsz ((HS2.out.1.lower hpsz).ext hE3) (lv := lv) (ps := ps) (hs3.lower hgsz)
  have hx3 := heap_ext HX2.out hE3
  rw [HX.out] at hx3
  have x0 : w3.cell? ⟨X, 0, none⟩ = some (.pointer none) := cell_of_heap hx3 0
  have x1 : w3.cell? ⟨X, 1, none⟩ = some (.pointer none) := cell_of_heap hx3 1
  have f0 := frozen_of_heap hx3 0
  have f1 := frozen_of_heap hx3 1
  have hset := heap_setCell (heap_setCell hx3 0 (.pointer (some ⟨p, 0, none⟩))) 1 (.pointer (some ⟨g, 0, none⟩))
  have hb3 := (butSet w3 X 0 (.pointer (some ⟨p, 0, none⟩))).trans (butSet (w3.setCell ⟨X, 0, none⟩ (.pointer (some ⟨p, 0, none⟩))) X 1 (.pointer (some ⟨g, 0, none⟩)))
  have HFIN := Lib.hid (And.intro hset (And.intro hb3 (And.intro hseg (And.intro hx3 (HS2.out.2.trans hE3)))))
  clear hset hb3 hseg hx3 hE3 hs3 hg
  go_wp2_with fail
  have hXw : w.heap.size ≤ X := by rw [HX.out]; exact Nat.le_refl _
  have hsg := (HFIN.out.2.2.1.butT HFIN.out.2.2.2.1 (by decide) (by decide) (by decide) (by decide) (by decide) HFIN.out.2.1).full
  rw [← HX.out] at hsg ⊢
  have hset := HFIN.out.1
  rw [← HX.out] at hset
  refine bodyPost_ret (v := .tuple #[.agg #[.pointer (some ⟨p, 0, none⟩), .pointer (some ⟨g, 0, none⟩)], .bool true]) (by simp [results, Tryz.results10, go_sem, cell_of_heap hset 0, cell_of_heap hset 1]) rfl ⟨p, g, rfl, hsg, ?_⟩
  rw [HX.out]
  exact Below.trans (B := w.heap.size) HFIN.out.2.2.2.2 (HFIN.out.2.1.below hXw HFIN.out.2.2.2.2.size)
end Go.Proofs.YtfgjhagfpafmoaaGreat
