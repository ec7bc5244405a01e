/-
  Layer 2, the document's own answers: a part is read, parts are written.
-/
import Derived.Test.YtkkbjbbmjoacnaaPackRefPart
import Derived.RegionTactic
namespace Go.Proofs.Ytkkbjbbmjoacnaa
open Go.RowKit

theorem heap_five (w : World) (a b c d e : Obj) : (((((w.alloc a).alloc b).alloc c).alloc d).alloc e).heap[w.heap.size]? = some a ∧ (((((w.alloc a).alloc b).alloc c).alloc d).alloc e).heap[w.heap.size + 1]? = some b ∧ (((((w.alloc a).alloc b).alloc c).alloc d).alloc e).heap[w.heap.size + 2]? = some c ∧
    (((((w.alloc a).alloc b).alloc c).alloc d).alloc e).heap[w.heap.size + 3]? = some d ∧ (((((w.alloc a).alloc b).alloc c).alloc d).alloc e).heap[w.heap.size + 4]? = some e := by
  obtain ⟨h0, h1, h2⟩ := heap_three w a b c
  have s3 : (((w.alloc a).alloc b).alloc c).heap.size = w.heap.size + 3 := by rw [World.size_alloc, World.size_alloc, World.size_alloc]
  obtain ⟨h3, h4⟩ := heap_two (((w.alloc a).alloc b).alloc c) d e
  rw [s3] at h3 h4
  have hx := ext_two (((w.alloc a).alloc b).alloc c) d e
  exact ⟨heap_ext h0 hx, heap_ext h1 hx, heap_ext h2 hx, h3, h4⟩
theorem ext_five (w : World) (a b c d e : Obj) : Ext w (((((w.alloc a).alloc b).alloc c).alloc d).alloc e) := (((ext_two w a b).trans (Ext.alloc _ c)).trans (Ext.alloc _ d)).trans (Ext.alloc _ e)

/-- Stores into the new blocks. -/
theorem ext_set {w w1 : World} (h : Ext w w1) (k o : Nat) (v : Value) : Ext w (w1.setCell ⟨w.heap.size + k, o, none⟩ v) := Below.setCell (p := ⟨w.heap.size + k, o, none⟩) h (Nat.le_add_right _ _) v
theorem ext_ten {w w1 : World} (h : Ext w w1) (o : Nat) (a0 a1 v b0 b1 c0 c1 c2 c3 c4 : Value) :
    Ext w ((((((((((w1.setCell ⟨w.heap.size, 0, none⟩ a0).setCell ⟨w.heap.size, 1, none⟩ a1).setCell ⟨w.heap.size + 1 + 1 + 1 + 1, o, none⟩ v).setCell ⟨w.heap.size + 1 + 1, 0, none⟩ b0).setCell ⟨w.heap.size + 1 + 1, 1, none⟩ b1).setCell ⟨w.heap.size + 1 + 1 + 1, 0, none⟩ c0).setCell ⟨w.heap.size + 1 + 1 + 1, 1, none⟩ c1).setCell ⟨w.heap.size + 1 + 1 + 1, 2, none⟩ c2).setCell ⟨w.heap.size + 1 + 1 + 1, 3, none⟩ c3).setCell ⟨w.heap.size + 1 + 1 + 1, 4, none⟩ c4).drew :=
  Below.drew (ext_set (ext_set (ext_set (ext_set (ext_set (ext_set (ext_set (ext_set (ext_set (ext_set h 0 0 a0) 0 1 a1) 4 o v) 2 0 b0) 2 1 b1) 3 0 c0) 3 1 c1) 3 2 c2) 3 3 c3) 3 4 c4)
theorem ext_seven {w w1 : World} (h : Ext w w1) (b0 b1 c0 c1 c2 c3 c4 : Value) :
    Ext w (((((((w1.setCell ⟨w.heap.size + 1 + 1, 0, none⟩ b0).setCell ⟨w.heap.size + 1 + 1, 1, none⟩ b1).setCell ⟨w.heap.size + 1 + 1 + 1, 0, none⟩ c0).setCell ⟨w.heap.size + 1 + 1 + 1, 1, none⟩ c1).setCell ⟨w.heap.size + 1 + 1 + 1, 2, none⟩ c2).setCell ⟨w.heap.size + 1 + 1 + 1, 3, none⟩ c3).setCell ⟨w.heap.size + 1 + 1 + 1, 4, none⟩ c4).drew :=
  Below.drew (ext_set (ext_set (ext_set (ext_set (ext_set (ext_set (ext_set h 2 0 b0) 2 1 b1) 3 0 c0) 3 1 c1) 3 2 c2) 3 3 c3) 3 4 c4)

set_option maxRecDepth 100000 in
set_option maxHeartbeats 4000000 in
theorem readRef_num (l : List UInt8) (s : Pack.St) (N M : Int) (S : List UInt8) (I : Bool) (w : World) (hs : Sim l s) (hl : l.length ≤ 140737488355328) :
    Calls Try.prog 33 #[refVal l s.err, .agg #[.int .i64 0, .int .i64 N, .int .i64 M, .string ⟨S.toArray⟩, .bool I]] w fun e w' => ∃ l', e = .returned (.tuple #[refVal l' ((s.num M).1).err, .agg #[.int .i64 0, .int .i64 ((s.num M).2 : Nat), .int .i64 M, .string ⟨#[]⟩, .bool false]]) ∧ Sim l' ((s.num M).1) ∧ l'.length ≤ l.length ∧ Ext w w' := by
  have hnum := fun w' => readNumRef_any l M s w' hs hl
  generalize s.num M = r at hnum ⊢
  obtain ⟨t, n⟩ := r
  simp only at hnum ⊢
  unfold refVal at hnum ⊢
  obtain ⟨h0, h1, h2, h3, h4⟩ := heap_five w (.cells #[.string ⟨l.toArray⟩, .int .i64 s.err] 52) (.cells #[.int .i64 0, .int .i64 N, .int .i64 M, .string ⟨S.toArray⟩, .bool I] 46) (.cells #[.string ⟨#[]⟩, .int .i64 0] 52) (.cells #[.int .i64 0, .int .i64 0, .int .i64 0, .string ⟨#[]⟩, .bool false] 46) (.cells #[.int .i64 0, .int .i64 0, .int .i64 M, .string ⟨#[]⟩, .bool false] 46)
  have hE5 := ext_five w (.cells #[.string ⟨l.toArray⟩, .int .i64 s.err] 52) (.cells #[.int .i64 0, .int .i64 N, .int .i64 M, .string ⟨S.toArray⟩, .bool I] 46) (.cells #[.string ⟨#[]⟩, .int .i64 0] 52) (.cells #[.int .i64 0, .int .i64 0, .int .i64 0, .string ⟨#[]⟩, .bool false] 46) (.cells #[.int .i64 0, .int .i64 0, .int .i64 M, .string ⟨#[]⟩, .bool false] 46)
  go_enter Try.func33, Try.ntmps33
  go_wp2_with fail
  refine (hnum _).mono ?_
  rintro e w1 ⟨l1, rfl, hs1, hl1, hb1⟩
  have g0 := heap_ext h0 hb1
  have g2 := heap_ext h2 hb1
  have g3 := heap_ext h3 hb1
  have g4 := heap_ext h4 hb1
  have x0 := cell_of_heap g0 0
  have x1 := cell_of_heap g0 1
  have y0 := cell_of_heap g2 0
  have y1 := cell_of_heap g2 1
  have u0 := cell_of_heap g3 0
  have u1 := cell_of_heap g3 1
  have u2 := cell_of_heap g3 2
  have u3 := cell_of_heap g3 3
  have u4 := cell_of_heap g3 4
  have z0 := cell_of_heap g4 0
  have z1 := cell_of_heap g4 1
  have z2 := cell_of_heap g4 2
  have z3 := cell_of_heap g4 3
  have z4 := cell_of_heap g4 4
  have fx := fun i => frozen_of_heap g0 i
  have fy := fun i => frozen_of_heap g2 i
  have fu := fun i => frozen_of_heap g3 i
  have fz := fun i => frozen_of_heap g4 i
  simp at x0 x1 y0 y1 u0 u1 u2 u3 u4 z0 z1 z2 z3 z4
  have hE := hE5.trans hb1
  clear h0 h1 h2 h3 h4 hnum g0 g2 g3 g4
  go_wp2
  go_region
  go_wp2
  exact bodyPost_ret (v := .tuple #[.agg #[.string ⟨l1.toArray⟩, .int .i64 t.err], .agg #[.int .i64 0, .int .i64 (n : Int), .int .i64 M, .string ⟨#[]⟩, .bool false]]) (by simp [results, Try.results33, go_sem, x0, x1, y0, y1, u0, u1, u2, u3, u4, z0, z1, z2, z3, z4, fx, fy, fu, fz]) rfl ⟨l1, rfl, hs1, hl1, ext_ten hE _ _ _ _ _ _ _ _ _ _ _⟩

set_option maxRecDepth 100000 in
set_option maxHeartbeats 4000000 in
theorem readRef_text (l : List UInt8) (s : Pack.St) (N M : Int) (S : List UInt8) (I : Bool) (w : World) (hs : Sim l s) (hl : l.length ≤ 140737488355328) :
    Calls Try.prog 33 #[refVal l s.err, .agg #[.int .i64 1, .int .i64 N, .int .i64 M, .string ⟨S.toArray⟩, .bool I]] w fun e w' => ∃ l', e = .returned (.tuple #[refVal l' ((s.text M).1).err, .agg #[.int .i64 1, .int .i64 0, .int .i64 M, .string ⟨(s.text M).2.toArray⟩, .bool false]]) ∧ Sim l' ((s.text M).1) ∧ l'.length ≤ l.length ∧ Ext w w' := by
  have hnum := fun w' => readTextRef_any l M s w' hs hl
  generalize s.text M = r at hnum ⊢
  obtain ⟨t, n⟩ := r
  simp only at hnum ⊢
  unfold refVal at hnum ⊢
  obtain ⟨h0, h1, h2, h3, h4⟩ := heap_five w (.cells #[.string ⟨l.toArray⟩, .int .i64 s.err] 52) (.cells #[.int .i64 1, .int .i64 N, .int .i64 M, .string ⟨S.toArray⟩, .bool I] 46) (.cells #[.string ⟨#[]⟩, .int .i64 0] 52) (.cells #[.int .i64 0, .int .i64 0, .int .i64 0, .string ⟨#[]⟩, .bool false] 46) (.cells #[.int .i64 1, .int .i64 0, .int .i64 M, .string ⟨#[]⟩, .bool false] 46)
  have hE5 := ext_five w (.cells #[.string ⟨l.toArray⟩, .int .i64 s.err] 52) (.cells #[.int .i64 1, .int .i64 N, .int .i64 M, .string ⟨S.toArray⟩, .bool I] 46) (.cells #[.string ⟨#[]⟩, .int .i64 0] 52) (.cells #[.int .i64 0, .int .i64 0, .int .i64 0, .string ⟨#[]⟩, .bool false] 46) (.cells #[.int .i64 1, .int .i64 0, .int .i64 M, .string ⟨#[]⟩, .bool false] 46)
  go_enter Try.func33, Try.ntmps33
  go_wp2_with fail
  refine (hnum _).mono ?_
  rintro e w1 ⟨l1, rfl, hs1, hl1, hb1⟩
  have g0 := heap_ext h0 hb1
  have g2 := heap_ext h2 hb1
  have g3 := heap_ext h3 hb1
  have g4 := heap_ext h4 hb1
  have x0 := cell_of_heap g0 0
  have x1 := cell_of_heap g0 1
  have y0 := cell_of_heap g2 0
  have y1 := cell_of_heap g2 1
  have u0 := cell_of_heap g3 0
  have u1 := cell_of_heap g3 1
  have u2 := cell_of_heap g3 2
  have u3 := cell_of_heap g3 3
  have u4 := cell_of_heap g3 4
  have z0 := cell_of_heap g4 0
  have z1 := cell_of_heap g4 1
  have z2 := cell_of_heap g4 2
  have z3 := cell_of_heap g4 3
  have z4 := cell_of_heap g4 4
  have fx := fun i => frozen_of_heap g0 i
  have fy := fun i => frozen_of_heap g2 i
  have fu := fun i => frozen_of_heap g3 i
  have fz := fun i => frozen_of_heap g4 i
  simp at x0 x1 y0 y1 u0 u1 u2 u3 u4 z0 z1 z2 z3 z4
  have hE := hE5.trans hb1
  clear h0 h1 h2 h3 h4 hnum g0 g2 g3 g4
  go_wp2
  go_region
  go_wp2
  exact bodyPost_ret (v := .tuple #[.agg #[.string ⟨l1.toArray⟩, .int .i64 t.err], .agg #[.int .i64 1, .int .i64 0, .int .i64 M, .string ⟨n.toArray⟩, .bool false]]) (by simp [results, Try.results33, go_sem, x0, x1, y0, y1, u0, u1, u2, u3, u4, z0, z1, z2, z3, z4, fx, fy, fu, fz]) rfl ⟨l1, rfl, hs1, hl1, ext_ten hE _ _ _ _ _ _ _ _ _ _ _⟩

set_option maxRecDepth 100000 in
set_option maxHeartbeats 4000000 in
theorem readRef_bool (l : List UInt8) (s : Pack.St) (N M : Int) (S : List UInt8) (I : Bool) (w : World) (hs : Sim l s) (hl : l.length ≤ 140737488355328) :
    Calls Try.prog 33 #[refVal l s.err, .agg #[.int .i64 2, .int .i64 N, .int .i64 M, .string ⟨S.toArray⟩, .bool I]] w fun e w' => ∃ l', e = .returned (.tuple #[refVal l' (s.bool.1).err, .agg #[.int .i64 2, .int .i64 0, .int .i64 M, .string ⟨#[]⟩, .bool s.bool.2]]) ∧ Sim l' (s.bool.1) ∧ l'.length ≤ l.length ∧ Ext w w' := by
  have hnum := fun w' => readBoolRef_any l s w' hs hl
  generalize s.bool = r at hnum ⊢
  obtain ⟨t, n⟩ := r
  simp only at hnum ⊢
  unfold refVal at hnum ⊢
  obtain ⟨h0, h1, h2, h3, h4⟩ := heap_five w (.cells #[.string ⟨l.toArray⟩, .int .i64 s.err] 52) (.cells #[.int .i64 2, .int .i64 N, .int .i64 M, .string ⟨S.toArray⟩, .bool I] 46) (.cells #[.string ⟨#[]⟩, .int .i64 0] 52) (.cells #[.int .i64 0, .int .i64 0, .int .i64 0, .string ⟨#[]⟩, .bool false] 46) (.cells #[.int .i64 2, .int .i64 0, .int .i64 M, .string ⟨#[]⟩, .bool false] 46)
  have hE5 := ext_five w (.cells #[.string ⟨l.toArray⟩, .int .i64 s.err] 52) (.cells #[.int .i64 2, .int .i64 N, .int .i64 M, .string ⟨S.toArray⟩, .bool I] 46) (.cells #[.string ⟨#[]⟩, .int .i64 0] 52) (.cells #[.int .i64 0, .int .i64 0, .int .i64 0, .string ⟨#[]⟩, .bool false] 46) (.cells #[.int .i64 2, .int .i64 0, .int .i64 M, .string ⟨#[]⟩, .bool false] 46)
  go_enter Try.func33, Try.ntmps33
  go_wp2_with fail
  refine (hnum _).mono ?_
  rintro e w1 ⟨l1, rfl, hs1, hl1, hb1⟩
  have g0 := heap_ext h0 hb1
  have g2 := heap_ext h2 hb1
  have g3 := heap_ext h3 hb1
  have g4 := heap_ext h4 hb1
  have x0 := cell_of_heap g0 0
  have x1 := cell_of_heap g0 1
  have y0 := cell_of_heap g2 0
  have y1 := cell_of_heap g2 1
  have u0 := cell_of_heap g3 0
  have u1 := cell_of_heap g3 1
  have u2 := cell_of_heap g3 2
  have u3 := cell_of_heap g3 3
  have u4 := cell_of_heap g3 4
  have z0 := cell_of_heap g4 0
  have z1 := cell_of_heap g4 1
  have z2 := cell_of_heap g4 2
  have z3 := cell_of_heap g4 3
  have z4 := cell_of_heap g4 4
  have fx := fun i => frozen_of_heap g0 i
  have fy := fun i => frozen_of_heap g2 i
  have fu := fun i => frozen_of_heap g3 i
  have fz := fun i => frozen_of_heap g4 i
  simp at x0 x1 y0 y1 u0 u1 u2 u3 u4 z0 z1 z2 z3 z4
  have hE := hE5.trans hb1
  clear h0 h1 h2 h3 h4 hnum g0 g2 g3 g4
  go_wp2
  go_region
  go_wp2
  exact bodyPost_ret (v := .tuple #[.agg #[.string ⟨l1.toArray⟩, .int .i64 t.err], .agg #[.int .i64 2, .int .i64 0, .int .i64 M, .string ⟨#[]⟩, .bool n]]) (by simp [results, Try.results33, go_sem, x0, x1, y0, y1, u0, u1, u2, u3, u4, z0, z1, z2, z3, z4, fx, fy, fu, fz]) rfl ⟨l1, rfl, hs1, hl1, ext_ten hE _ _ _ _ _ _ _ _ _ _ _⟩

set_option maxRecDepth 100000 in
set_option maxHeartbeats 4000000 in
theorem readRef_none (K : Int) (l : List UInt8) (s : Pack.St) (N M : Int) (S : List UInt8) (I : Bool) (w : World) (hs : Sim l s) (k0 : K ≠ 0) (k1 : K ≠ 1) (k2 : K ≠ 2) :
    Calls Try.prog 33 #[refVal l s.err, .agg #[.int .i64 K, .int .i64 N, .int .i64 M, .string ⟨S.toArray⟩, .bool I]] w fun e w' => ∃ l', e = .returned (.tuple #[refVal l' s.err, .agg #[.int .i64 K, .int .i64 0, .int .i64 M, .string ⟨#[]⟩, .bool false]]) ∧ Sim l' s ∧ l'.length ≤ l.length ∧ Ext w w' := by
  unfold refVal
  have q0 : (K == 0) = false := by simp [k0]
  have q1 : (K == 1) = false := by simp [k1]
  have q2 : (K == 2) = false := by simp [k2]
  obtain ⟨g0, g1, g2, g3, g4⟩ := heap_five w (.cells #[.string ⟨l.toArray⟩, .int .i64 s.err] 52) (.cells #[.int .i64 K, .int .i64 N, .int .i64 M, .string ⟨S.toArray⟩, .bool I] 46) (.cells #[.string ⟨#[]⟩, .int .i64 0] 52) (.cells #[.int .i64 0, .int .i64 0, .int .i64 0, .string ⟨#[]⟩, .bool false] 46) (.cells #[.int .i64 K, .int .i64 0, .int .i64 M, .string ⟨#[]⟩, .bool false] 46)
  have hE := ext_five w (.cells #[.string ⟨l.toArray⟩, .int .i64 s.err] 52) (.cells #[.int .i64 K, .int .i64 N, .int .i64 M, .string ⟨S.toArray⟩, .bool I] 46) (.cells #[.string ⟨#[]⟩, .int .i64 0] 52) (.cells #[.int .i64 0, .int .i64 0, .int .i64 0, .string ⟨#[]⟩, .bool false] 46) (.cells #[.int .i64 K, .int .i64 0, .int .i64 M, .string ⟨#[]⟩, .bool false] 46)
  clear k0 k1 k2 g1
  go_enter Try.func33, Try.ntmps33
  go_wp2_with fail
  generalize (((((w.alloc _).alloc _).alloc _).alloc _).alloc _) = w1 at *
  have x0 := cell_of_heap g0 0
  have x1 := cell_of_heap g0 1
  have y0 := cell_of_heap g2 0
  have y1 := cell_of_heap g2 1
  have u0 := cell_of_heap g3 0
  have u1 := cell_of_heap g3 1
  have u2 := cell_of_heap g3 2
  have u3 := cell_of_heap g3 3
  have u4 := cell_of_heap g3 4
  have z0 := cell_of_heap g4 0
  have z1 := cell_of_heap g4 1
  have z2 := cell_of_heap g4 2
  have z3 := cell_of_heap g4 3
  have z4 := cell_of_heap g4 4
  have fx := fun i => frozen_of_heap g0 i
  have fy := fun i => frozen_of_heap g2 i
  have fu := fun i => frozen_of_heap g3 i
  have fz := fun i => frozen_of_heap g4 i
  simp at x0 x1 y0 y1 u0 u1 u2 u3 u4 z0 z1 z2 z3 z4
  clear g0 g2 g3 g4
  go_region
  go_wp2
  exact bodyPost_ret (v := .tuple #[.agg #[.string ⟨l.toArray⟩, .int .i64 s.err], .agg #[.int .i64 K, .int .i64 0, .int .i64 M, .string ⟨#[]⟩, .bool false]]) (by simp [results, Try.results33, go_sem, x0, x1, y0, y1, u0, u1, u2, u3, u4, z0, z1, z2, z3, z4, fx, fy, fu, fz]) rfl ⟨l, rfl, hs, Nat.le_refl _, ext_seven hE _ _ _ _ _ _ _⟩

/-- A part is read by the document's own reader as by the program's. -/
theorem readRef_any (l : List UInt8) (s : Pack.St) (P : Pack.Part) (w : World) (hs : Sim l s) (hl : l.length ≤ 140737488355328) :
    Calls Try.prog 33 #[refVal l s.err, partVal P] w fun e w' => ∃ l', e = .returned (.tuple #[refVal l' (s.part P).1.err, partVal (s.part P).2]) ∧ Sim l' (s.part P).1 ∧ l'.length ≤ l.length ∧ Ext w w' := by
  obtain ⟨K, N, M, S, I⟩ := P
  unfold Pack.St.part partVal
  simp only []
  by_cases k0 : K = 0
  · subst k0
    rw [if_pos rfl]
    exact readRef_num l s N M S I w hs hl
  · by_cases k1 : K = 1
    · subst k1
      rw [if_neg (by decide), if_pos rfl]
      exact readRef_text l s N M S I w hs hl
    · by_cases k2 : K = 2
      · subst k2
        rw [if_neg (by decide), if_neg (by decide), if_pos rfl]
        exact readRef_bool l s N M S I w hs hl
      · rw [if_neg k0, if_neg k1, if_neg k2]
        exact readRef_none K l s N M S I w hs k0 k1 k2
end Go.Proofs.Ytkkbjbbmjoacnaa
