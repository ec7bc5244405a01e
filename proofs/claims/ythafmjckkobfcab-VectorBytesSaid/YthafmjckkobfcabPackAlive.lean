/-
  Layer 2: the statements' own small call.
-/
import Derived.Test.YthafmjckkobfcabPackNum
import Derived.Lib.SlBytesConst
namespace Go.Proofs.Ythafmjckkobfcab
open Go.RowKit

theorem num_300 : Pack.num 300 = [172, 2] := by
  rw [Pack.num_high (by decide), Pack.num_low (by decide)]; rfl
theorem num_2 : Pack.num 2 = [2] := by rw [Pack.num_low (by decide)]; rfl
theorem nums_one (n : Nat) : nums [(n : Int)] = Pack.num n := by simp [nums]
theorem all_one (n : Int) : [n].all okNum = okNum n := by simp
theorem ok_300 : [(300 : Int)].all okNum = true := by decide
theorem ab_first : Pack.St.num ⟨Pack.num 300 ++ (Pack.num 2 ++ [97, 98]), 0⟩ 1000 = (⟨Pack.num 2 ++ [97, 98], 0⟩, 300) := Pack.read_num 300 _ 0 1000 (by decide) (by decide)
theorem ab_second : Pack.St.text ⟨Pack.num 2 ++ [97, 98], 0⟩ 9 = (⟨[], 0⟩, [97, 98]) := by
  unfold Pack.St.text
  rw [Pack.read_num 2 [97, 98] 0 9 (by decide) (by decide)]
  rfl
theorem long_zero : Pack.St.num ⟨[128, 0], 0⟩ 1000 = (⟨[], 21⟩, 0) := by
  simp [Pack.St.num, Pack.lead, Pack.wrong, Pack.St.fail]
theorem bytes_two (w : World) : Bytes (w.alloc (.cells #[.int .u8 128, .int .u8 0] 5)) (.slice (some ⟨w.heap.size, 0, none⟩) 2 2) [128, 0] :=
  Sl.made w (u8s [128, 0]) 5 2 rfl (by simp [maxLen]) (fr := (0, 0))

set_option maxRecDepth 100000 in
set_option maxHeartbeats 2000000 in
theorem packAlive_any (w : World) : Calls Try.prog 16 #[] w fun e w' => e = .returned (.bool true) ∧ Ext w w' := by
  go_enter Try.func16, Try.ntmps16
  go_wp2_with fail
  refine (packNum_any _ _ [] [300] _ (bytes_none _) (Ints.one _ _) (by simp) (by simp)).mono ?_
  rintro e w1 ⟨v1, rfl, ho1, hb1⟩
  rw [ok_300] at ho1
  rw [ok_300]
  simp only [if_true, List.nil_append] at ho1
  have hE1 : Ext w w1 := (Ext.alloc _ _).trans hb1
  rw [show nums [300] = Pack.num 300 from nums_one 300] at ho1
  have hl300 : (Pack.num 300).length = 2 := by rw [num_300]; rfl
  have hl2 : (Pack.num 2).length = 1 := by rw [num_2]; rfl
  obtain ⟨a1, n1, c1, rfl⟩ := ho1.isSlice
  go_wp2_with fail
  refine (packText_any _ _ [97, 98] _ ho1.bytes (by omega) (by decide)).mono ?_
  rintro e w2 ⟨v2, rfl, ho2, hb2⟩
  rw [if_pos (by decide)] at ho2
  have hE2 : Ext w w2 := hE1.trans hb2
  rw [show decide (([97, 98] : List UInt8).length ≤ 65536) = true from by decide]
  rw [show ([97, 98] : List UInt8).length = 2 from rfl] at ho2
  obtain ⟨a2, n2, c2, rfl⟩ := ho2.isSlice
  have hB2 := ho2.bytes
  go_wp2_with fail
  refine (newReader_any _ _ _ hB2 (by simp; omega)).mono ?_
  rintro e w3 ⟨p, rfl, hp, hr3, hb3⟩
  have hB3 := hB2.below hb3
  go_wp2_with fail
  refine (num_any p _ 1000 _ hr3).mono ?_
  rw [ab_first]
  rintro e w4 ⟨rfl, hB4, hr4⟩
  have hB4' := hr3.bytes hB3 hB4
  go_wp2_with fail
  refine (text_any p _ 9 _ hr4).mono ?_
  rw [ab_second]
  rintro e w5 ⟨rfl, hB5, hr5⟩
  have hB5' := hr4.bytes hB4' hB5
  go_wp2_with fail
  refine (newReader_any _ _ _ (bytes_two w5) (by simp)).mono ?_
  rintro e w6 ⟨q, rfl, hq, hr6, hb6⟩
  have hE56 : Ext w5 w6 := (Ext.alloc _ _).trans hb6
  have hrp6 := hr5.ext hE56
  have hB6 := hB5'.below hE56
  have hne : p ≠ q := by have := hr5.lt; simp only [World.size_alloc] at hq; omega
  go_wp2_with fail
  refine (num_any q _ 1000 _ hr6).mono ?_
  rw [long_zero]
  rintro e w7 ⟨rfl, hB7, hr7⟩
  have hrp7 := hr6.other hrp6 hne hB7
  have hB7' := hr6.bytes hB6 hB7
  have hst := run_str (P := Try.prog) 22 9 5 Try.underlying22 Try.underlying5 Try.underlying9 hB7'
  rw [num_300, num_2] at hst
  go_wp2_with fail
  refine (end_any p _ _ hrp7).mono ?_
  rintro e w8 ⟨rfl, rfl⟩
  go_wp2_with fail
  refine (err_any q _ _ hr7).mono ?_
  rintro e w9 ⟨rfl, rfl⟩
  go_wp2_with fail
  go_ret
  refine ⟨rfl, ?_⟩
  have hp' : w.heap.size ≤ p := Nat.le_trans hE2.size hp
  have hq' : w5.heap.size + 1 ≤ q := by simpa using hq
  have h3 : Ext w w3 := hE2.trans hb3
  have hb5 : But p w3 w5 := hB4.trans hB5
  have h5 : Ext w w5 := Below.trans (B := w.heap.size) h3 (hb5.below hp' h3.size)
  have h6 : Ext w w6 := h5.trans hE56
  exact Below.trans (B := w.heap.size) h6 (hB7.below (by have := h5.size; omega) h6.size)
/-- One number alone, as it is written. -/
def oneNum (n : Int) : List UInt8 := if okNum n then Pack.num n.toNat else []
theorem oneNum_le (n : Int) : (oneNum n).length ≤ 9 := by
  unfold oneNum
  split
  · rename_i h
    unfold okNum at h
    simp only [decide_eq_true_eq] at h
    exact Pack.num_nine (by omega)
  · simp
theorem numOne_any (n : Int) (w : World) : Calls Try.prog 14 #[.slice none 0 0, .slice (some ⟨w.heap.size, 0, none⟩) 1 1] (w.alloc (.cells #[.int .i64 n] 3)) fun e w' =>
    ∃ a k c, e = .returned (.tuple #[.slice a k c, .bool (okNum n)]) ∧ Bytes w' (.slice a k c) (oneNum n) ∧ k = (oneNum n).length ∧ Ext w w' := by
  refine (packNum_any (.slice none 0 0) _ [] [n] _ (bytes_none _) (Ints.one w n) (by simp) (by simp)).mono ?_
  rintro e w1 ⟨v1, rfl, ho1, hb1⟩
  rw [all_one] at ho1 ⊢
  have e1 : (if okNum n = true then [] ++ nums [n] else []) = oneNum n := by
    unfold oneNum
    simp [nums]
  rw [e1] at ho1
  obtain ⟨a, k, c, rfl⟩ := ho1.isSlice
  exact ⟨a, k, c, rfl, ho1.bytes, ho1.bytes.len.1, (Ext.alloc _ _).trans hb1⟩
end Go.Proofs.Ythafmjckkobfcab
