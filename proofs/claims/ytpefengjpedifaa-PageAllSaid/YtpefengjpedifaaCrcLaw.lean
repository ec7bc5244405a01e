/-
  Layer 1, the statements' own small call: a sum that the document fixes.
-/
import Derived.Test.YtpefengjpedifaaCrcPut
import Derived.Lib.SlBytesConst
namespace Go.Proofs.Ytpefengjpedifaa
set_option maxRecDepth 100000
open Go.RowKit

theorem cut_ab : Crc.cutOf ([97, 98] ++ Crc.low (Crc.sum [97, 98])) = some [97, 98] := by decide +kernel
theorem sum_digits : Crc.sum [49, 50, 51, 52, 53, 54, 55, 56, 57] = 3421780262 := by decide +kernel
theorem Rows.nil (w : World) : Rows w (.slice none 0 0) [] := ⟨[], ⟨none, 0, rfl, Nat.le_refl _, by simp [maxLen], fun _ => rfl, fun i hi => absurd hi (by simp)⟩, rfl, fun i h => absurd h (by simp)⟩
theorem Tab.ext {w w' : World} {p d : Nat} {c : Int} (h : Tab w p d c) (hb : Ext w w') : Tab w' p d c := by
  have hp : p < w.heap.size := World.block_lt_of_cell? w _ h.done
  unfold Tab at h ⊢
  rw [hb.block p hp]; exact h
theorem Tab.lt {w : World} {p d : Nat} {c : Int} (h : Tab w p d c) : p < w.heap.size := World.block_lt_of_cell? w _ h.done

theorem rows_digits (w : World) : Rows ((w.alloc (.cells #[.int .u8 49, .int .u8 50, .int .u8 51, .int .u8 52, .int .u8 53, .int .u8 54, .int .u8 55, .int .u8 56, .int .u8 57] 5 (9, 10))).alloc (.cells #[.slice (some ⟨w.heap.size, 0, none⟩) 9 9] 22)) (.slice (some ⟨w.heap.size + 1, 0, none⟩) 1 1) [[49, 50, 51, 52, 53, 54, 55, 56, 57]] := by
  have h := Sl.made w (u8s [49, 50, 51, 52, 53, 54, 55, 56, 57]) 5 9 rfl (by simp [maxLen]) (fr := (9, 10))
  have h2 := Rows.made 22 (l := [49, 50, 51, 52, 53, 54, 55, 56, 57]) h
  simp only [World.size_alloc] at h2
  exact h2
theorem bytes_ab (w : World) : Bytes (w.alloc (.cells #[.int .u8 97, .int .u8 98] 5 (2, 3))) (.slice (some ⟨w.heap.size, 0, none⟩) 2 2) [97, 98] :=
  Sl.made w (u8s [97, 98]) 5 2 rfl (by simp [maxLen]) (fr := (2, 3))
theorem two_of (l : List UInt8) (w : World) (p d : Nat) (hl : 4 ≤ l.length) (h : Tab w p d (if l.length < 4 then 1 else bump 1)) : Tab w p d 2 := by
  rw [if_neg (by omega)] at h; exact h

end Go.Proofs.Ytpefengjpedifaa
