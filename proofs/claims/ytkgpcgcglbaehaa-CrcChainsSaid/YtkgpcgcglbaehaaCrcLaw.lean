/-
  Layer 1, the statements' own small call: a sum that the document fixes.
-/
import Derived.Test.YtkgpcgcglbaehaaCrcPut
import Derived.Lib.SlBytesConst
namespace Go.Proofs.Ytkgpcgcglbaehaa
open Go.RowKit

theorem cut_ab : Crc.cutOf ([97, 98] ++ Crc.low (Crc.sum [97, 98])) = some [97, 98] := by decide +kernel
theorem sum_digits : Crc.sum [49, 50, 51, 52, 53, 54, 55, 56, 57] = 3421780262 := by decide +kernel
theorem Rows.nil (w : World) : Rows w (.slice none 0 0) [] := ⟨[], ⟨none, 0, rfl, Nat.le_refl _, by simp [maxLen], fun _ => rfl, fun i hi => absurd hi (by simp)⟩, rfl, fun i h => absurd h (by simp)⟩
theorem Tab.ext {w w' : World} {p d : Nat} {c : Int} (h : Tab w p d c) (hb : Ext w w') : Tab w' p d c := by
  have hp : p < w.heap.size := World.block_lt_of_cell? w _ h.done
  unfold Tab at h ⊢
  rw [hb.block p hp]; exact h
theorem Tab.lt {w : World} {p d : Nat} {c : Int} (h : Tab w p d c) : p < w.heap.size := World.block_lt_of_cell? w _ h.done

theorem rows_digits (w : World) : Rows ((w.alloc (.cells #[.int .u8 49, .int .u8 50, .int .u8 51, .int .u8 52, .int .u8 53, .int .u8 54, .int .u8 55, .int .u8 56, .int .u8 57] 5 (9, 10))).alloc (.cells #[.slice (some ⟨w.heap.size, 0, none⟩) 9 9] 22)) (.slice (some ⟨w.heap.size + 1, 0, none⟩) 1 1) [[49, 50, 51, 52, 53, 54, 55, 56, 57]] := by
  have h := Sl.made w (u8s [49, 50, 51, 52, 53, 54, 55, 56, 57]) 5 9 rfl (by simp [maxLen]) (fr := (9, 10))
  have h2 := Rows.made 22 (l := [49, 50, 51, 52, 53, 54, 55, 56, 57]) h
  simp only [World.size_alloc] at h2
  exact h2
theorem bytes_ab (w : World) : Bytes (w.alloc (.cells #[.int .u8 97, .int .u8 98] 5 (2, 3))) (.slice (some ⟨w.heap.size, 0, none⟩) 2 2) [97, 98] :=
  Sl.made w (u8s [97, 98]) 5 2 rfl (by simp [maxLen]) (fr := (2, 3))
theorem two_of (l : List UInt8) (w : World) (p d : Nat) (hl : 4 ≤ l.length) (h : Tab w p d (if l.length < 4 then 1 else bump 1)) : Tab w p d 2 := by
  rw [if_neg (by omega)] at h; exact h

set_option maxRecDepth 100000 in
set_option maxHeartbeats 1000000 in
theorem alive_any (w : World) : Calls Try.prog 11 #[] w fun e w' => e = .returned (.bool true) ∧ Ext w w' := by
  have kc := fun (w : World) (C : Array Value) (n c : Nat) => Lib.run_convert_bytes_const (P := Try.prog) w 22 5 C n c Try.underlying22 Try.underlying5
  go_enter Try.func11, Try.ntmps11
  go_wp2_with (first | (go_at_call 10; refine (new_any _).mono ?_; rintro e w1 ⟨rfl, ht1, hb1⟩; have hby := bytes_ab w1) | (go_at_call 18; refine (put_any w.heap.size 0 0 _ [97, 98] _ (ht1.ext (Ext.alloc _ _)) (Or.inl rfl) hby (by simp)).mono ?_; rintro e w2 ⟨v2, d2, rfl, hv2, hb2, hd2, ht2⟩) | (go_at_call 16; refine (cut_any w.heap.size d2 1 v2 _ w2 ht2 hd2 hv2 (by simp [Crc.low])).mono ?_; rintro e w3 ⟨⟨d3, hd3, ht3⟩, hb3, hr3⟩; rw [cut_ab] at hr3; obtain ⟨v3, rfl, hv3⟩ := hr3; have ht3' := two_of _ _ _ _ (by simp [Crc.low]) ht3; have hrow := rows_digits w3))
  refine (sum_any w.heap.size d3 2 _ [[49, 50, 51, 52, 53, 54, 55, 56, 57]] _ (ht3'.ext ((Ext.alloc _ _).trans (Ext.alloc _ _))) hd3 hrow).mono ?_
  rintro e w4 ⟨rfl, hb4, d4, hd4, ht4⟩
  rw [List.flatten_singleton, sum_digits]
  have hs4 := hb4.size
  clear hrow
  go_wp2_with fail
  refine (sum_any w.heap.size d4 3 _ [] _ ht4 hd4 (Rows.nil _)).mono ?_
  rintro e w5 ⟨rfl, hb5, d5, hd5, ht5⟩
  rw [List.flatten_nil, Crc.sum_nil]
  have hv5 : Bytes w5 v3 [97, 98] := ((hv3.below ((Ext.alloc _ _).trans (Ext.alloc _ _))).but (ht3'.ext ((Ext.alloc _ _).trans (Ext.alloc _ _))) hb4).but ht4 hb5
  have hcv := run_str (P := Try.prog) 22 9 5 Try.underlying22 Try.underlying5 Try.underlying9 hv5

  go_wp2_with (go_at_call 20; refine (count_any w.heap.size d5 4 _ ht5).mono ?_; rintro e w6 ⟨rfl, rfl⟩)

  go_ret
  refine ⟨rfl, ?_⟩
  have h1 : But w.heap.size w w1 := hb1.but _
  have h5 : But w.heap.size w w5 := ((((((h1.alloc _).trans hb2).trans hb3).alloc _).alloc _).trans hb4).trans hb5
  exact h5.below (Nat.le_refl _) (Nat.le_refl _)
end Go.Proofs.Ytkgpcgcglbaehaa
