/-
  Layer 3: the statements' own small call.
-/
import Derived.Test.YthafmjckkobfcabVecD
import Derived.Test.YthafmjckkobfcabVecQ
import Derived.Test.YthafmjckkobfcabVecE
namespace Go.Proofs.Ythafmjckkobfcab
open Go.RowKit

theorem ints_lit2 (w : World) (x y : Int) : Ints (w.alloc (.cells #[.int .i64 x, .int .i64 y] 3)) (.slice (some ⟨w.heap.size, 0, none⟩) 2 2) [x, y] :=
  Sl.made w (i64s [x, y]) 3 2 (by simp) (by simp [maxLen]) (fr := (0, 0))
theorem alive_rows : quorOk [[1, 9], [2, 4], [3, 3]] 2 = true ∧ quor [[1, 9], [2, 4], [3, 3]] 2 = [2, 4] := by decide
theorem alive_max : Vec.kind [1, 5] [3, 2] = true ∧ Vec.max [1, 5] [3, 2] = [3, 5] := by decide
theorem alive_covers : Vec.covers [3, 5] [1, 5] = true := by decide
theorem alive_right : Vec.right [3, 5] = true := by decide
theorem alive_enc : (Vec.enc [3, 5]).length = 3 := by
  unfold Vec.enc nums
  rw [Pack.num_low (by decide)]
  simp only [List.map_cons, List.map_nil, List.flatten_cons, List.flatten_nil]
  rw [Pack.num_low (by decide), Pack.num_low (by decide)]
  rfl

theorem rows_lit3 (w : World) : IRows ((((w.alloc (.cells #[.int .i64 1, .int .i64 9] 3)).alloc (.cells #[.int .i64 2, .int .i64 4] 3)).alloc (.cells #[.int .i64 3, .int .i64 3] 3)).alloc
    (.cells #[.slice (some ⟨w.heap.size, 0, none⟩) 2 2, .slice (some ⟨w.heap.size + 1, 0, none⟩) 2 2, .slice (some ⟨w.heap.size + 1 + 1, 0, none⟩) 2 2] 32)) (.slice (some ⟨w.heap.size + 1 + 1 + 1, 0, none⟩) 3 3) [[1, 9], [2, 4], [3, 3]] := by
  have h1 := ints_lit2 w 1 9
  have h2 := ints_lit2 (w.alloc (.cells #[.int .i64 1, .int .i64 9] 3)) 2 4
  have h3 := ints_lit2 ((w.alloc (.cells #[.int .i64 1, .int .i64 9] 3)).alloc (.cells #[.int .i64 2, .int .i64 4] 3)) 3 3
  have h := IRows.mk (w := ((w.alloc (.cells #[.int .i64 1, .int .i64 9] 3)).alloc (.cells #[.int .i64 2, .int .i64 4] 3)).alloc (.cells #[.int .i64 3, .int .i64 3] 3))
    [.slice (some ⟨w.heap.size, 0, none⟩) 2 2, .slice (some ⟨w.heap.size + 1, 0, none⟩) 2 2, .slice (some ⟨w.heap.size + 1 + 1, 0, none⟩) 2 2] [[1, 9], [2, 4], [3, 3]] 32 3 rfl rfl (by simp [maxLen]) (by
      intro i hi hi'
      match i, hi with
      | 0, _ => exact (h1.below (Ext.alloc _ _)).below (Ext.alloc _ _)
      | 1, _ => exact (show Ints _ (.slice (some ⟨w.heap.size + 1, 0, none⟩) 2 2) [2, 4] by simpa using h2).below (Ext.alloc _ _)
      | 2, _ => exact (show Ints _ (.slice (some ⟨w.heap.size + 1 + 1, 0, none⟩) 2 2) [3, 3] by simpa using h3))
  simpa using h

set_option maxRecDepth 100000 in
set_option maxHeartbeats 4000000 in
theorem vecAlive_any (w : World) : Calls Try.prog 26 #[] w fun e w' => e = .returned (.bool true) ∧ Ext w w' := by
  go_enter Try.func26, Try.ntmps26
  go_wp2_with fail
  refine (max_any _ _ [1, 5] [3, 2] _ ((ints_lit2 w 1 5).below (Ext.alloc _ _)) (by simpa using ints_lit2 (w.alloc (.cells #[.int .i64 1, .int .i64 5] 3)) 3 2)).mono ?_
  rw [alive_max.1, alive_max.2]
  rintro e w1 ⟨v1, rfl, hi1, hE1⟩
  have hE01 : Ext w w1 := ((Ext.alloc _ _).trans (Ext.alloc _ _)).trans hE1
  go_wp2_with fail
  refine (quorum_any _ _ 2 _ (rows_lit3 w1) (by simp)).mono ?_
  rw [alive_rows.1, alive_rows.2]
  rintro e w2 ⟨v2, rfl, hi2, hE2⟩
  have hE12 : Ext w1 w2 := ((((Ext.alloc _ _).trans (Ext.alloc _ _)).trans (Ext.alloc _ _)).trans (Ext.alloc _ _)).trans hE2
  go_wp2_with fail
  refine (encode_any _ [3, 5] _ (ints_lit2 w2 3 5)).mono ?_
  rw [alive_right]
  rintro e w3 ⟨v3, rfl, hb3, hE3⟩
  have hE23 : Ext w2 w3 := (Ext.alloc _ _).trans hE3
  rw [bytesOr_true] at hb3
  obtain ⟨a3, n3, c3, rfl⟩ := hb3.isSlice
  have hn3 := hb3.len.1
  rw [alive_enc] at hn3
  subst hn3
  rw [formErr_true]
  go_wp2_with fail
  have hm := hi1.below (hE12.trans hE23)
  refine (equal3_any _ _ [3, 5] [3, 5] _ (hm.below (Ext.alloc _ _)) (ints_lit2 w3 3 5)).mono ?_
  rintro e w4 ⟨rfl, hE4⟩
  have hE34 : Ext w3 w4 := (Ext.alloc _ _).trans hE4
  rw [show (([3, 5] : List Int) == [3, 5]) = true from by decide]
  go_wp2_with fail
  have hq := hi2.below (hE23.trans hE34)
  refine (equal3_any _ _ [2, 4] [2, 4] _ (hq.below (Ext.alloc _ _)) (ints_lit2 w4 2 4)).mono ?_
  rintro e w5 ⟨rfl, hE5⟩
  have hE45 : Ext w4 w5 := (Ext.alloc _ _).trans hE5
  rw [show (([2, 4] : List Int) == [2, 4]) = true from by decide]
  go_wp2_with fail
  refine (covers_any _ _ [3, 5] [1, 5] _ ((ints_lit2 w5 3 5).below (Ext.alloc _ _)) (by simpa using ints_lit2 (w5.alloc (.cells #[.int .i64 3, .int .i64 5] 3)) 1 5)).mono ?_
  rw [alive_covers]
  rintro e w6 ⟨rfl, rfl⟩
  go_wp2_with fail
  refine (zero_any 2 _).mono ?_
  rintro e w7 ⟨v7, rfl, ho7, hE7⟩
  have hz := ho7.ints
  rw [show zeros 2 = [0, 0] from by decide] at hz
  obtain ⟨a7, n7, c7, rfl⟩ := hz.isSlice
  have hn7 := hz.len.1
  subst hn7
  go_wp2_with fail
  go_ret
  exact ⟨rfl, ((((hE01.trans hE12).trans hE23).trans hE34).trans hE45).trans (((Ext.alloc _ _).trans (Ext.alloc _ _)).trans hE7)⟩
end Go.Proofs.Ythafmjckkobfcab
