/-
  Layer 2, the document's own answers: what reads.
-/
import Derived.Test.YtpfodkgncachiaaPackRef
import Derived.Laws.DeepStrings4
import Derived.Lib.Strings
namespace Go.Proofs.Ytpfodkgncachiaa
set_option linter.unusedSimpArgs false
set_option linter.unusedVariables false
open Go.RowKit

theorem heap_ext {w w' : World} {q : Nat} {o : Obj} (h : w.heap[q]? = some o) (hb : Ext w w') : w'.heap[q]? = some o := by
  rw [hb.block q (Array.getElem?_eq_some_iff.1 h).1]; exact h
theorem heap_two (w : World) (x y : Obj) : ((w.alloc x).alloc y).heap[w.heap.size]? = some x ∧ ((w.alloc x).alloc y).heap[w.heap.size + 1]? = some y := by
  have s1 : (w.alloc x).heap.size = w.heap.size + 1 := World.size_alloc _ _
  refine ⟨?_, ?_⟩
  · rw [Below.heap_alloc _ _ _ (by rw [s1]; omega)]; exact heap_alloc_new _ _
  · rw [← s1]; exact heap_alloc_new _ _
theorem ext_two (w : World) (x y : Obj) : Ext w ((w.alloc x).alloc y) := (Ext.alloc _ _).trans (Ext.alloc _ _)
theorem str_to (w : World) (l : List UInt8) (k : Nat) (hk : k ≤ l.length) : (Instr.slice 9 (.string ⟨l.toArray⟩) none (some (.int .i64 (k : Int))) none).run Try.prog w = .ok (.string ⟨(l.take k).toArray⟩) w := by
  have hs := str_len l
  rw [run_slice_string_h (P := Try.prog) (w := w) (t := 9) (s := ⟨l.toArray⟩) Try.underlying9 .i64 (k : Int) (by omega) (by rw [hs]; omega), Lib.extract_eq]
  simp
theorem str_from (w : World) (l : List UInt8) (k : Nat) (hk : k ≤ l.length) : (Instr.slice 9 (.string ⟨l.toArray⟩) (some (.int .i64 (k : Int))) none none).run Try.prog w = .ok (.string ⟨(l.drop k).toArray⟩) w := by
  have hs := str_len l
  rw [run_slice_string_l (P := Try.prog) (w := w) (t := 9) (s := ⟨l.toArray⟩) Try.underlying9 .i64 (k : Int) (by omega) (by rw [hs]; omega), Lib.extract_eq, hs]
  simp
  rw [List.take_of_length_le (by simp)]

/-- What the document's reading of a number hands back. -/
def NumRef (w : World) (n : Nat) (e : Int) (s : Pack.St) (v : Pack.St → Value) (r : Ending) (w' : World) : Prop := ∃ l', r = .returned (.tuple #[refVal l' s.err, v s]) ∧ Sim l' s ∧ l'.length ≤ n ∧ Ext w w'

theorem val_digit (l : List UInt8) (k j : Nat) (hk : k < l.length) (hj : j ≤ k) : Pack.val ((l.take (k + 1)).drop j) = l[j].toNat % 128 + 128 * Pack.val ((l.take (k + 1)).drop (j + 1)) := by
  have hlen : j < (l.take (k + 1)).length := by rw [List.length_take]; omega
  rw [List.drop_eq_getElem_cons hlen]
  simp [Pack.val]
theorem val_drop_lt (l : List UInt8) (k j : Nat) (hk : k < l.length) (hk8 : k ≤ 8) (hj : 1 ≤ j) : Pack.val ((l.take (k + 1)).drop j) < 72057594037927936 := by
  have h1 := Pack.val_lt ((l.take (k + 1)).drop j)
  have h2 : ((l.take (k + 1)).drop j).length ≤ 8 := by rw [List.length_drop, List.length_take]; omega
  have h3 : 128 ^ ((l.take (k + 1)).drop j).length ≤ 128 ^ 8 := Nat.pow_le_pow_right (by decide) h2
  have h4 : (128 : Nat) ^ 8 = 72057594037927936 := by decide
  omega

def prevI (j : Nat) : Int := (j : Int) - 1
end Go.Proofs.Ytpfodkgncachiaa
