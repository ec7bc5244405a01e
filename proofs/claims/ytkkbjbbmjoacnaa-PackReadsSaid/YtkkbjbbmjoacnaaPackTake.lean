/-
  Layer 2: a part is read by the program.
-/
import Derived.Test.YtkkbjbbmjoacnaaPackParts
namespace Go.Proofs.Ytkkbjbbmjoacnaa
open Go.RowKit

/-- A part, by value. -/
def partVal (p : Pack.Part) : Value := .agg #[.int .i64 p.kind, .int .i64 p.n, .int .i64 p.most, .string ⟨p.s.toArray⟩, .bool p.is]
theorem heap_frozen {w w' : World} {p q : Nat} {cs : Array Value} {T : TypeId} (h : w.heap[q]? = some (.cells cs T (0, 0))) (hb : But p w w') (hne : q ≠ p) : w'.heap[q]? = some (.cells cs T (0, 0)) := by
  rw [hb.block q (Array.getElem?_eq_some_iff.1 h).1 hne]; exact h

theorem But.low {p : Nat} {a b c : World} (h : But p a b) (k : Below a.heap.size b c) : But p a c :=
  ⟨k.os.trans h.os, k.tape.trans h.tape, k.output.trans h.output, Nat.le_trans h.size k.size, fun i hi hp => (k.block i hi).trans (h.block i hi hp)⟩
/-- A reader lies beside blocks of other things. -/
theorem RD.off {w w' : World} {p q : Nat} {s : Pack.St} {cs : Array Value} {T : TypeId} {fr : Nat × Nat} (h : RD w p s) (hq : w.heap[q]? = some (.cells cs T fr)) (hx : ∀ n, Value.int .u8 n ∉ cs.toList) (hne : p ≠ q) (hb : But q w w') : RD w' p s := by
  have hlt := h.lt
  obtain ⟨a, n, c, h1, h2⟩ := h
  exact ⟨a, n, c, by rw [hb.block p hlt hne]; exact h1, h2.off hq hx hb⟩
/-- What is stored into the two new parts. -/
theorem part_stores {w w4 : World} {p : Nat} {s : Pack.St} {s0 : ByteArray} {cs : Array Value} (hlt : p < w.heap.size) (hB : But p w w4) (hr : RD w4 p s)
    (g1 : w4.heap[w.heap.size + 1]? = some (.cells #[.int .i64 0, .int .i64 0, .int .i64 0, .string s0, .bool false] 46 (0, 0))) (g2 : w4.heap[w.heap.size + 2]? = some (.cells cs 46 (0, 0))) (hcs : ∀ n, Value.int .u8 n ∉ cs.toList)
    (o : Nat) (v a0 a1 a2 a3 a4 : Value) :
    But p w ((((((w4.setCell ⟨w.heap.size + 1 + 1, o, none⟩ v).setCell ⟨w.heap.size + 1, 0, none⟩ a0).setCell ⟨w.heap.size + 1, 1, none⟩ a1).setCell ⟨w.heap.size + 1, 2, none⟩ a2).setCell ⟨w.heap.size + 1, 3, none⟩ a3).setCell ⟨w.heap.size + 1, 4, none⟩ a4) ∧
    RD ((((((w4.setCell ⟨w.heap.size + 1 + 1, o, none⟩ v).setCell ⟨w.heap.size + 1, 0, none⟩ a0).setCell ⟨w.heap.size + 1, 1, none⟩ a1).setCell ⟨w.heap.size + 1, 2, none⟩ a2).setCell ⟨w.heap.size + 1, 3, none⟩ a3).setCell ⟨w.heap.size + 1, 4, none⟩ a4) p s := by
  have h1 : But (w.heap.size + 1 + 1) w4 (w4.setCell ⟨w.heap.size + 1 + 1, o, none⟩ v) := (But.refl _ _).setCell o none v
  have h2 : But (w.heap.size + 1) (w4.setCell ⟨w.heap.size + 1 + 1, o, none⟩ v) ((((((w4.setCell ⟨w.heap.size + 1 + 1, o, none⟩ v).setCell ⟨w.heap.size + 1, 0, none⟩ a0).setCell ⟨w.heap.size + 1, 1, none⟩ a1).setCell ⟨w.heap.size + 1, 2, none⟩ a2).setCell ⟨w.heap.size + 1, 3, none⟩ a3).setCell ⟨w.heap.size + 1, 4, none⟩ a4) :=
    (((((But.refl _ _).setCell 0 none a0).setCell 1 none a1).setCell 2 none a2).setCell 3 none a3).setCell 4 none a4
  have g3 := heap_frozen g1 h1 (by omega)
  refine ⟨hB.low (Below.trans (B := w.heap.size) (h1.below (by omega) hB.size) (h2.below (by omega) (by have := h1.size; have := hB.size; omega))), (hr.off g2 hcs (by omega) h1).off g3 (by intro n hn; simp at hn) (by omega) h2⟩
set_option maxRecDepth 100000 in
set_option maxHeartbeats 4000000 in
theorem read_any (p : Nat) (s : Pack.St) (P : Pack.Part) (w : World) (h : RD w p s) :
    Calls Try.prog 34 #[.pointer (some ⟨p, 0, none⟩), partVal P] w (Turns p w (partVal (s.part P).2) (s.part P).1) := by
  have HR := Lib.hid h
  have hplt := h.lt
  clear h
  unfold partVal
  have e3 : ∀ K : Int, Ext w (((w.alloc (.cells #[.int .i64 K, .int .i64 P.n, .int .i64 P.most, .string ⟨P.s.toArray⟩, .bool P.is] 46)).alloc (.cells #[.int .i64 0, .int .i64 0, .int .i64 0, .string ⟨#[]⟩, .bool false] 46)).alloc (.cells #[.int .i64 K, .int .i64 0, .int .i64 P.most, .string ⟨#[]⟩, .bool false] 46)) := fun K => ((Ext.alloc _ _).trans (Ext.alloc _ _)).trans (Ext.alloc _ _)
  have hh := fun K : Int => heap_three w (.cells #[.int .i64 K, .int .i64 P.n, .int .i64 P.most, .string ⟨P.s.toArray⟩, .bool P.is] 46) (.cells #[.int .i64 0, .int .i64 0, .int .i64 0, .string ⟨#[]⟩, .bool false] 46) (.cells #[.int .i64 K, .int .i64 0, .int .i64 P.most, .string ⟨#[]⟩, .bool false] 46)
  by_cases k0 : P.kind = 0
  · have e : s.part P = ((s.num P.most).1, { kind := 0, n := ((s.num P.most).2 : Nat), most := P.most, s := [], is := false }) := by unfold Pack.St.part; rw [if_pos k0, k0]
    rw [e, k0]
    obtain ⟨b0, b1, b2⟩ := hh 0
    have hE3 := e3 0
    clear e k0
    clear hh e3
    go_enter Try.func34, Try.ntmps34
    go_wp2_with fail
    refine (num_any p s P.most _ (HR.out.ext hE3)).mono ?_
    rintro e w4 ⟨rfl, hB4, hr4⟩
    have g1 := heap_frozen b1 hB4 (by omega)
    have g2 := heap_frozen b2 hB4 (by omega)
    have x0 := cell_of_heap g2 0
    have x1 := cell_of_heap g2 1
    have x2 := cell_of_heap g2 2
    have x3 := cell_of_heap g2 3
    have x4 := cell_of_heap g2 4
    have y0 := cell_of_heap g1 0
    have y1 := cell_of_heap g1 1
    have y2 := cell_of_heap g1 2
    have y3 := cell_of_heap g1 3
    have y4 := cell_of_heap g1 4
    have fx := fun i => frozen_of_heap g2 i
    have fy := fun i => frozen_of_heap g1 i
    simp at x0 x1 x2 x3 x4 y0 y1 y2 y3 y4
    clear b0 b1 b2
    have hB : But p w w4 := (Ext.but hE3 p).trans hB4
    go_wp2
    have hfin := part_stores hplt hB hr4 g1 g2 (by intro n hn; simp at hn) 1 (.int .i64 ((s.num P.most).2 : Nat)) (.int .i64 0) (.int .i64 ((s.num P.most).2 : Nat)) (.int .i64 P.most) (.string ⟨#[]⟩) (.bool false)
    exact bodyPost_ret (v := .agg #[.int .i64 0, .int .i64 ((s.num P.most).2 : Nat), .int .i64 P.most, .string ⟨#[]⟩, .bool false]) (by simp [results, Try.results34, go_sem, x0, x1, x2, x3, x4, y0, y1, y2, y3, y4, fx, fy]) rfl ⟨rfl, hfin.1, hfin.2⟩
  have q0 : (P.kind == 0) = false := by simp [k0]
  by_cases k1 : P.kind = 1
  · have e : s.part P = ((s.text P.most).1, { kind := 1, n := 0, most := P.most, s := (s.text P.most).2, is := false }) := by unfold Pack.St.part; rw [if_neg k0, if_pos k1, k1]
    rw [e, k1]
    obtain ⟨b0, b1, b2⟩ := hh 1
    have hE3 := e3 1
    clear e k0 k1 q0
    clear hh e3
    go_enter Try.func34, Try.ntmps34
    go_wp2_with fail
    refine (text_any p s P.most _ (HR.out.ext hE3)).mono ?_
    rintro e w4 ⟨rfl, hB4, hr4⟩
    have g1 := heap_frozen b1 hB4 (by omega)
    have g2 := heap_frozen b2 hB4 (by omega)
    have x0 := cell_of_heap g2 0
    have x1 := cell_of_heap g2 1
    have x2 := cell_of_heap g2 2
    have x3 := cell_of_heap g2 3
    have x4 := cell_of_heap g2 4
    have y0 := cell_of_heap g1 0
    have y1 := cell_of_heap g1 1
    have y2 := cell_of_heap g1 2
    have y3 := cell_of_heap g1 3
    have y4 := cell_of_heap g1 4
    have fx := fun i => frozen_of_heap g2 i
    have fy := fun i => frozen_of_heap g1 i
    simp at x0 x1 x2 x3 x4 y0 y1 y2 y3 y4
    clear b0 b1 b2
    have hB : But p w w4 := (Ext.but hE3 p).trans hB4
    go_wp2
    have hfin := part_stores hplt hB hr4 g1 g2 (by intro n hn; simp at hn) 3 (.string ⟨(s.text P.most).2.toArray⟩) (.int .i64 1) (.int .i64 0) (.int .i64 P.most) (.string ⟨(s.text P.most).2.toArray⟩) (.bool false)
    exact bodyPost_ret (v := .agg #[.int .i64 1, .int .i64 0, .int .i64 P.most, .string ⟨(s.text P.most).2.toArray⟩, .bool false]) (by simp [results, Try.results34, go_sem, x0, x1, x2, x3, x4, y0, y1, y2, y3, y4, fx, fy]) rfl ⟨rfl, hfin.1, hfin.2⟩
  have q1 : (P.kind == 1) = false := by simp [k1]
  by_cases k2 : P.kind = 2
  · have e : s.part P = (s.bool.1, { kind := 2, n := 0, most := P.most, s := [], is := s.bool.2 }) := by unfold Pack.St.part; rw [if_neg k0, if_neg k1, if_pos k2, k2]
    rw [e, k2]
    obtain ⟨b0, b1, b2⟩ := hh 2
    have hE3 := e3 2
    clear e k0 k1 k2 q0 q1
    clear hh e3
    go_enter Try.func34, Try.ntmps34
    go_wp2_with fail
    refine (bool_any p s _ (HR.out.ext hE3)).mono ?_
    rintro e w4 ⟨rfl, hB4, hr4⟩
    have g1 := heap_frozen b1 hB4 (by omega)
    have g2 := heap_frozen b2 hB4 (by omega)
    have x0 := cell_of_heap g2 0
    have x1 := cell_of_heap g2 1
    have x2 := cell_of_heap g2 2
    have x3 := cell_of_heap g2 3
    have x4 := cell_of_heap g2 4
    have y0 := cell_of_heap g1 0
    have y1 := cell_of_heap g1 1
    have y2 := cell_of_heap g1 2
    have y3 := cell_of_heap g1 3
    have y4 := cell_of_heap g1 4
    have fx := fun i => frozen_of_heap g2 i
    have fy := fun i => frozen_of_heap g1 i
    simp at x0 x1 x2 x3 x4 y0 y1 y2 y3 y4
    clear b0 b1 b2
    have hB : But p w w4 := (Ext.but hE3 p).trans hB4
    go_wp2
    have hfin := part_stores hplt hB hr4 g1 g2 (by intro n hn; simp at hn) 4 (.bool s.bool.2) (.int .i64 2) (.int .i64 0) (.int .i64 P.most) (.string ⟨#[]⟩) (.bool s.bool.2)
    exact bodyPost_ret (v := .agg #[.int .i64 2, .int .i64 0, .int .i64 P.most, .string ⟨#[]⟩, .bool s.bool.2]) (by simp [results, Try.results34, go_sem, x0, x1, x2, x3, x4, y0, y1, y2, y3, y4, fx, fy]) rfl ⟨rfl, hfin.1, hfin.2⟩
  have q2 : (P.kind == 2) = false := by simp [k2]
  have e : s.part P = (s, { kind := P.kind, n := 0, most := P.most, s := [], is := false }) := by unfold Pack.St.part; rw [if_neg k0, if_neg k1, if_neg k2]
  rw [e]
  clear e k0 k1 k2 hh e3
  go_enter Try.func34, Try.ntmps34
  go_wp2
  have hE : Ext w (((w.alloc (.cells #[.int .i64 P.kind, .int .i64 P.n, .int .i64 P.most, .string ⟨P.s.toArray⟩, .bool P.is] 46)).alloc (.cells #[.int .i64 P.kind, .int .i64 0, .int .i64 P.most, .string ⟨#[]⟩, .bool false] 46)).alloc (.cells #[.int .i64 P.kind, .int .i64 0, .int .i64 P.most, .string ⟨#[]⟩, .bool false] 46)) := ((Ext.alloc _ _).trans (Ext.alloc _ _)).trans (Ext.alloc _ _)
  have g1 := (heap_three w (.cells #[.int .i64 P.kind, .int .i64 P.n, .int .i64 P.most, .string ⟨P.s.toArray⟩, .bool P.is] 46) (.cells #[.int .i64 P.kind, .int .i64 0, .int .i64 P.most, .string ⟨#[]⟩, .bool false] 46) (.cells #[.int .i64 P.kind, .int .i64 0, .int .i64 P.most, .string ⟨#[]⟩, .bool false] 46)).2.1
  have y0 := cell_of_heap g1 0
  have y1 := cell_of_heap g1 1
  have y2 := cell_of_heap g1 2
  have y3 := cell_of_heap g1 3
  have y4 := cell_of_heap g1 4
  exact bodyPost_ret (v := .agg #[.int .i64 P.kind, .int .i64 0, .int .i64 P.most, .string ⟨#[]⟩, .bool false]) (by simp [results, Try.results34, go_sem, y0, y1, y2, y3, y4]) rfl ⟨rfl, Ext.but hE p, HR.out.ext hE⟩
end Go.Proofs.Ytkkbjbbmjoacnaa
