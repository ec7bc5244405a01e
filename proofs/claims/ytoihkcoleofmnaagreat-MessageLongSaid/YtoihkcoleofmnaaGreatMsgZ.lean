/-
  Merged: Layer 7: one field of a message stored in its block.
-/
import Derived.Test.YtoihkcoleofmnaaGreatMsgY

set_option linter.unusedSimpArgs false
set_option linter.unusedVariables false

/- Layer 7: one field of a message stored in its block. -/
namespace Go.Proofs.YtoihkcoleofmnaaGreat
set_option linter.unusedSimpArgs false
set_option linter.unusedVariables false
set_option maxRecDepth 100000
open Go.RowKit

section
variable {ops : Array Oper} {rest : List Oper} {op : Oper} {a : Act} {w : World} {Q : Exit → Act → World → Prop}
theorem putMR_kind {q : Nat} {m : Msg.M} {rt et sv dv : Value} {n : Int} (hw : Region.wanted op (yielded ops a.tmps) = true) (x y : Operand) (ho : op.op = .store 3 x y) (hx : a.eval x = .pointer (some ⟨q, 0, none⟩)) (hy : a.eval y = .int .i64 n) (hat : MsgAt 35 w q m rt et sv dv)
    (h : ∀ W, Hid (MsgAt 35 W q { m with kind := n } rt et sv dv) → Hid (But q w W) → wpList Tryz.prog ops Q rest (a.put op.dst undef) W) : wpList Tryz.prog ops Q (op :: rest) a w :=
  BigFrame.wpList_want hw fun K hK => by
    have c := cell_of_heap hat 0
    have f := frozen_of_heap hat 0
    have hs : (Instr.storeAt 3 (.pointer (some ⟨q, 0, none⟩)) (.int .i64 n)).run Tryz.prog w = .ok () (w.setCell ⟨q, 0, none⟩ (.int .i64 n)) := by simp [msgCells] at c; simp [go_sem, c, f]
    have hh := heap_setCell hat 0 (.int .i64 n)
    unfold Oper.wp execOp
    simp only [ho, hx, hy]
    rw [Sem.run_bind, hs]
    exact hK _ _ (h _ (Lib.hid hh) (Lib.hid (butSet w q 0 _)))
theorem putMR_old {q : Nat} {m : Msg.M} {rt et sv dv : Value} {n : Int} (hw : Region.wanted op (yielded ops a.tmps) = true) (x y : Operand) (ho : op.op = .store 3 x y) (hx : a.eval x = .pointer (some ⟨q, 18, none⟩)) (hy : a.eval y = .int .i64 n) (hat : MsgAt 35 w q m rt et sv dv)
    (h : ∀ W, Hid (MsgAt 35 W q { m with old := n } rt et sv dv) → Hid (But q w W) → wpList Tryz.prog ops Q rest (a.put op.dst undef) W) : wpList Tryz.prog ops Q (op :: rest) a w :=
  BigFrame.wpList_want hw fun K hK => by
    have c := cell_of_heap hat 18
    have f := frozen_of_heap hat 18
    have hs : (Instr.storeAt 3 (.pointer (some ⟨q, 18, none⟩)) (.int .i64 n)).run Tryz.prog w = .ok () (w.setCell ⟨q, 18, none⟩ (.int .i64 n)) := by simp [msgCells] at c; simp [go_sem, c, f]
    have hh := heap_setCell hat 18 (.int .i64 n)
    unfold Oper.wp execOp
    simp only [ho, hx, hy]
    rw [Sem.run_bind, hs]
    exact hK _ _ (h _ (Lib.hid hh) (Lib.hid (butSet w q 18 _)))
theorem putMR_is {q : Nat} {m : Msg.M} {rt et sv dv : Value} {n : Bool} (hw : Region.wanted op (yielded ops a.tmps) = true) (x y : Operand) (ho : op.op = .store 4 x y) (hx : a.eval x = .pointer (some ⟨q, 6, none⟩)) (hy : a.eval y = .bool n) (hat : MsgAt 35 w q m rt et sv dv)
    (h : ∀ W, Hid (MsgAt 35 W q { m with is := n } rt et sv dv) → Hid (But q w W) → wpList Tryz.prog ops Q rest (a.put op.dst undef) W) : wpList Tryz.prog ops Q (op :: rest) a w :=
  BigFrame.wpList_want hw fun K hK => by
    have c := cell_of_heap hat 6
    have f := frozen_of_heap hat 6
    have hs : (Instr.storeAt 4 (.pointer (some ⟨q, 6, none⟩)) (.bool n)).run Tryz.prog w = .ok () (w.setCell ⟨q, 6, none⟩ (.bool n)) := by simp [msgCells] at c; simp [go_sem, c, f]
    have hh := heap_setCell hat 6 (.bool n)
    unfold Oper.wp execOp
    simp only [ho, hx, hy]
    rw [Sem.run_bind, hs]
    exact hK _ _ (h _ (Lib.hid hh) (Lib.hid (butSet w q 6 _)))
theorem putMR_data {q : Nat} {m : Msg.M} {rt et sv dv : Value} {n : List UInt8} (hw : Region.wanted op (yielded ops a.tmps) = true) (x y : Operand) (ho : op.op = .store 9 x y) (hx : a.eval x = .pointer (some ⟨q, 10, none⟩)) (hy : a.eval y = .string ⟨n.toArray⟩) (hat : MsgAt 35 w q m rt et sv dv)
    (h : ∀ W, Hid (MsgAt 35 W q { m with reco := { m.reco with data := n } } rt et sv dv) → Hid (But q w W) → wpList Tryz.prog ops Q rest (a.put op.dst undef) W) : wpList Tryz.prog ops Q (op :: rest) a w :=
  BigFrame.wpList_want hw fun K hK => by
    have c := cell_of_heap hat 10
    have f := frozen_of_heap hat 10
    have hs : (Instr.storeAt 9 (.pointer (some ⟨q, 10, none⟩)) (.string ⟨n.toArray⟩)).run Tryz.prog w = .ok () (w.setCell ⟨q, 10, none⟩ (.string ⟨n.toArray⟩)) := by simp [msgCells] at c; simp [go_sem, c, f]
    have hh := heap_setCell hat 10 (.string ⟨n.toArray⟩)
    unfold Oper.wp execOp
    simp only [ho, hx, hy]
    rw [Sem.run_bind, hs]
    exact hK _ _ (h _ (Lib.hid hh) (Lib.hid (butSet w q 10 _)))
theorem putMR_entn {q : Nat} {m : Msg.M} {rt et sv dv : Value} {n : Int} (hw : Region.wanted op (yielded ops a.tmps) = true) (x y : Operand) (ho : op.op = .store 3 x y) (hx : a.eval x = .pointer (some ⟨q, 11, none⟩)) (hy : a.eval y = .int .i64 n) (hat : MsgAt 35 w q m rt et sv dv)
    (h : ∀ W, Hid (MsgAt 35 W q { m with ent := { m.ent with number := n } } rt et sv dv) → Hid (But q w W) → wpList Tryz.prog ops Q rest (a.put op.dst undef) W) : wpList Tryz.prog ops Q (op :: rest) a w :=
  BigFrame.wpList_want hw fun K hK => by
    have c := cell_of_heap hat 11
    have f := frozen_of_heap hat 11
    have hs : (Instr.storeAt 3 (.pointer (some ⟨q, 11, none⟩)) (.int .i64 n)).run Tryz.prog w = .ok () (w.setCell ⟨q, 11, none⟩ (.int .i64 n)) := by simp [msgCells] at c; simp [go_sem, c, f]
    have hh := heap_setCell hat 11 (.int .i64 n)
    unfold Oper.wp execOp
    simp only [ho, hx, hy]
    rw [Sem.run_bind, hs]
    exact hK _ _ (h _ (Lib.hid hh) (Lib.hid (butSet w q 11 _)))
end
end Go.Proofs.YtoihkcoleofmnaaGreat
