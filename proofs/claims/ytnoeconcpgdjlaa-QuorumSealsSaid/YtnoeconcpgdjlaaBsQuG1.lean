/-
  Merged: The document's entries in blocks of their own: new, loaded, stored whole.
-/
import Derived.Test.YtnoeconcpgdjlaaBsQuG0

namespace Go.Proofs.Ytnoeconcpgdjlaa
set_option linter.unusedSimpArgs false
set_option linter.unusedVariables false
set_option maxRecDepth 100000
open Go.RowKit
/- The document's entries in blocks of their own: new, loaded, stored whole. -/
/-- An entry's block. -/
def EAtR12 (w : World) (q : Nat) (t : Value) (e : Ent.E) : Prop := w.heap[q]? = some (.cells (entCells12 t e) 64 (0, 0))
section
variable {w w' : World} {q : Nat} {t : Value} {e : Ent.E}
theorem EAtR12.lt (h : EAtR12 w q t e) : q < w.heap.size := (Array.getElem?_eq_some_iff.1 h).1
theorem EAtR12.ext (h : EAtR12 w q t e) (hE : Ext w w') : EAtR12 w' q t e := heap_ext h hE
theorem EAtR12.but {p : Nat} (h : EAtR12 w q t e) (hb : But p w w') (hq : q ≠ p) : EAtR12 w' q t e := (hb.block q h.lt hq).trans h
theorem EAtR12.block (h : EAtR12 w q t e) (hb : w'.heap[q]? = w.heap[q]?) : EAtR12 w' q t e := hb.trans h
theorem EAtR12.range (h : EAtR12 w q t e) : w.rangeAt q 0 (entCells12 t e).toList := fun j v hj => by
  rw [cell_of_heap h, ← Array.getElem?_toList]
  simpa using hj
theorem EAtR12.ld (h : EAtR12 w q t e) (ht : ∃ a n c, t = .slice a n c) : (Instr.loadAt 64 (.pointer (some ⟨q, 0, none⟩))).run Try.prog w = .ok (.agg (entCells12 t e)) w := by
  obtain ⟨a, n, c, rfl⟩ := ht
  exact run_loadAt_mid w q 0 64 (entCells12 (.slice a n c) e).toList _ h.range Try.underlying64 rfl (by kernel_rfl)
theorem EAtR12.ldVar (h : EAtR12 w q t e) (ht : ∃ a n c, t = .slice a n c) : (loadVar 64 ⟨q, 0, none⟩).run Try.prog w = .ok (.agg (entCells12 t e)) w := by
  obtain ⟨a, n, c, rfl⟩ := ht
  exact run_loadVar_mid w q 0 64 (entCells12 (.slice a n c) e).toList _ h.range Try.underlying64 rfl (by kernel_rfl)
theorem thereR12 (h : EAtR12 w q t e) : w.there q 0 6 := fun j hj => by
  refine ⟨?_, frozen_of_heap h _⟩
  rw [cell_of_heap h]
  have : 0 + j < (entCells12 t e).size := by show _ < 6; omega
  rw [Array.getElem?_eq_getElem this]
  rfl
theorem EAtR12.number (h : EAtR12 w q t e) (n : Int) : EAtR12 (w.setCell ⟨q, 0, none⟩ (.int .i64 n)) q t ⟨n, e.kind, e.cut, e.tag, e.term, e.pos⟩ := heap_setCell h 0 (.int .i64 n)
end
section
variable {ops : Array Oper} {rest : List Oper} {op : Oper} {a : Act} {w : World} {Q : Exit → Act → World → Prop}
theorem allocER12 (hw : Region.wanted op (yielded ops a.tmps) = true) (ho : op.op = .alloc 64)
    (h : ∀ W b, Hid (EAtR12 W b (.slice none 0 0) Msg.ent0) → Hid (Ext w W) → Hid (b = w.heap.size) → wpList Try.prog ops Q rest (a.put op.dst (.pointer (some ⟨b, 0, none⟩))) W) : wpList Try.prog ops Q (op :: rest) a w :=
  BigFrame.wpList_want hw fun K hK => by
    have hr : (execOp a.eval op).run Try.prog w = .ok (.value (.pointer (some ⟨w.heap.size, 0, none⟩))) (w.alloc (.cells (entCells12 (.slice none 0 0) Msg.ent0) 64)) := by
      unfold execOp
      simp only [ho]
      kernel_rfl
    unfold Oper.wp
    rw [hr]
    exact hK _ _ (h _ _ (Lib.hid (heap_alloc_new w _)) (Lib.hid (Ext.alloc _ _)) (Lib.hid rfl))
theorem putER12 {q : Nat} {t t2 : Value} {e e2 : Ent.E} (hw : Region.wanted op (yielded ops a.tmps) = true) (x y : Operand) (ho : op.op = .store 64 x y)
    (hx : a.eval x = .pointer (some ⟨q, 0, none⟩)) (hy : a.eval y = .agg (entCells12 t2 e2)) (hat : EAtR12 w q t e) (h1 : ∃ a n c, t2 = .slice a n c)
    (h : ∀ W, Hid (EAtR12 W q t2 e2) → Hid (But q w W) → wpList Try.prog ops Q rest (a.put op.dst undef) W) : wpList Try.prog ops Q (op :: rest) a w :=
  BigFrame.wpList_want hw fun K hK => by
    have hs : (Instr.storeAt 64 (.pointer (some ⟨q, 0, none⟩)) (.agg (entCells12 t2 e2))).run Try.prog w = .ok () (w.setCells q 0 (entCells12 t2 e2).toList) := by
      obtain ⟨_, _, _, rfl⟩ := h1
      exact run_storeAt_mid w q 0 64 _ (thereR12 hat) (by kernel_rfl) (by simp [entCells12, Value.oneCell'])
    have k1 : EAtR12 (w.setCells q 0 (entCells12 t2 e2).toList) q t2 e2 := heap_setCells q _ (0, 0) (entCells12 t2 e2).toList [] (entCells12 t e).toList 0 w hat rfl rfl
    have k2 : But q w (w.setCells q 0 (entCells12 t2 e2).toList) := but_setCells q _ _ _
    unfold Oper.wp execOp
    simp only [ho, hx, hy]
    rw [Sem.run_bind, hs]
    exact hK _ _ (h _ (Lib.hid k1) (Lib.hid k2))
end
end Go.Proofs.Ytnoeconcpgdjlaa
