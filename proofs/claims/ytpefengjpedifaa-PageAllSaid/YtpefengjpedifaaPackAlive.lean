/-
  Layer 2: the statements' own small call.
-/
import Derived.Test.YtpefengjpedifaaPackNum
import Derived.Lib.SlBytesConst
namespace Go.Proofs.Ytpefengjpedifaa
open Go.RowKit

theorem num_300 : Pack.num 300 = [172, 2] := by
  rw [Pack.num_high (by decide), Pack.num_low (by decide)]; rfl
theorem num_2 : Pack.num 2 = [2] := by rw [Pack.num_low (by decide)]; rfl
theorem nums_one (n : Nat) : nums [(n : Int)] = Pack.num n := by simp [nums]
theorem all_one (n : Int) : [n].all okNum = okNum n := by simp
theorem ok_300 : [(300 : Int)].all okNum = true := by decide
theorem ab_first : Pack.St.num ⟨Pack.num 300 ++ (Pack.num 2 ++ [97, 98]), 0⟩ 1000 = (⟨Pack.num 2 ++ [97, 98], 0⟩, 300) := Pack.read_num 300 _ 0 1000 (by decide) (by decide)
theorem ab_second : Pack.St.text ⟨Pack.num 2 ++ [97, 98], 0⟩ 9 = (⟨[], 0⟩, [97, 98]) := by
  unfold Pack.St.text
  rw [Pack.read_num 2 [97, 98] 0 9 (by decide) (by decide)]
  rfl
theorem long_zero : Pack.St.num ⟨[128, 0], 0⟩ 1000 = (⟨[], 21⟩, 0) := by
  simp [Pack.St.num, Pack.lead, Pack.wrong, Pack.St.fail]
theorem bytes_two (w : World) : Bytes (w.alloc (.cells #[.int .u8 128, .int .u8 0] 5)) (.slice (some ⟨w.heap.size, 0, none⟩) 2 2) [128, 0] :=
  Sl.made w (u8s [128, 0]) 5 2 rfl (by simp [maxLen]) (fr := (0, 0))

/-- One number alone, as it is written. -/
def oneNum (n : Int) : List UInt8 := if okNum n then Pack.num n.toNat else []
theorem oneNum_le (n : Int) : (oneNum n).length ≤ 9 := by
  unfold oneNum
  split
  · rename_i h
    unfold okNum at h
    simp only [decide_eq_true_eq] at h
    exact Pack.num_nine (by omega)
  · simp
theorem numOne_any (n : Int) (w : World) : Calls Try.prog 52 #[.slice none 0 0, .slice (some ⟨w.heap.size, 0, none⟩) 1 1] (w.alloc (.cells #[.int .i64 n] 3)) fun e w' =>
    ∃ a k c, e = .returned (.tuple #[.slice a k c, .bool (okNum n)]) ∧ Bytes w' (.slice a k c) (oneNum n) ∧ k = (oneNum n).length ∧ Ext w w' := by
  refine (packNum_any (.slice none 0 0) _ [] [n] _ (bytes_none _) (Ints.one w n) (by simp) (by simp)).mono ?_
  rintro e w1 ⟨v1, rfl, ho1, hb1⟩
  rw [all_one] at ho1 ⊢
  have e1 : (if okNum n = true then [] ++ nums [n] else []) = oneNum n := by
    unfold oneNum
    simp [nums]
  rw [e1] at ho1
  obtain ⟨a, k, c, rfl⟩ := ho1.isSlice
  exact ⟨a, k, c, rfl, ho1.bytes, ho1.bytes.len.1, (Ext.alloc _ _).trans hb1⟩
end Go.Proofs.Ytpefengjpedifaa
