/-
 Merged: Layer 7: a message of the document's type, allocated and stored whole.
-/
import Derived.Test.YtldfpklgbedgjaaGreatMsgR
namespace Go.Proofs.YtldfpklgbedgjaaGreat
set_option linter.unusedSimpArgs false
set_option linter.unusedVariables false
set_option maxRecDepth 100000
open Go.RowKit
theorem stMR {W : World} {T : TypeId} {q : Nat} {m m2 : Msg.M} {rt et sv dv r2 e2 s2 d2 : Value} (h : MsgAt T W q m rt et sv dv) (h1 : ∃ a n c, r2 = .slice a n c) (h2 : ∃ a n c, e2 = .slice a n c) (h3 : ∃ a n c, s2 = .slice a n c) (h4 : ∃ a n c, d2 = .slice a n c) :
 (Instr.storeAt 35 (.pointer (some ⟨q, 0, none⟩)) (.agg (msgCells m2 r2 e2 s2 d2))).run Tryz.prog W = .ok () (W.setCells q 0 (msgCells m2 r2 e2 s2 d2).toList) := by
 obtain ⟨_, _, _, rfl⟩ := h1
 obtain ⟨_, _, _, rfl⟩ := h2
 obtain ⟨_, _, _, rfl⟩ := h3
 obtain ⟨_, _, _, rfl⟩ := h4
 exact run_storeAt_mid W q 0 35 _ (there7 h 0 22 (by omega)) (by kernel_rfl) (by simp [msgCells, Value.oneCell'])
section
variable {ops : Array Oper} {rest : List Oper} {op : Oper} {a : Act} {w : World} {Q : Exit → Act → World → Prop}
theorem allocMR (hw : Region.wanted op (yielded ops a.tmps) = true) (ho : op.op = .alloc 35)
 (h : ∀ W b, Hid (MsgAt 35 W b Msg.none0 (.slice none 0 0) (.slice none 0 0) (.slice none 0 0) (.slice none 0 0)) → Hid (Ext w W) → Hid (b = w.heap.size) → wpList Tryz.prog ops Q rest (a.put op.dst (.pointer (some ⟨b, 0, none⟩))) W) : wpList Tryz.prog ops Q (op :: rest) a w :=
 BigFrame.wpList_want hw fun K hK => by
  have hr : (execOp a.eval op).run Tryz.prog w = .ok (.value (.pointer (some ⟨w.heap.size, 0, none⟩))) (w.alloc (.cells (msgCells Msg.none0 (.slice none 0 0) (.slice none 0 0) (.slice none 0 0) (.slice none 0 0)) 35)) := by
   unfold execOp
   simp only [ho]
   kernel_rfl
  unfold Oper.wp
  rw [hr]
  exact hK _ _ (h _ _ (Lib.hid (MsgAt.new _ w _ _ _ _ _)) (Lib.hid (Ext.alloc _ _)) (Lib.hid rfl))
theorem putMR {q : Nat} {m m2 : Msg.M} {rt et sv dv r2 e2 s2 d2 : Value} (hw : Region.wanted op (yielded ops a.tmps) = true) (x y : Operand) (ho : op.op = .store 35 x y)
 (hx : a.eval x = .pointer (some ⟨q, 0, none⟩)) (hy : a.eval y = .agg (msgCells m2 r2 e2 s2 d2)) (hat : MsgAt 35 w q m rt et sv dv) (h1 : ∃ a n c, r2 = .slice a n c) (h2 : ∃ a n c, e2 = .slice a n c) (h3 : ∃ a n c, s2 = .slice a n c) (h4 : ∃ a n c, d2 = .slice a n c)
 (h : ∀ W, Hid (MsgAt 35 W q m2 r2 e2 s2 d2) → Hid (But q w W) → wpList Tryz.prog ops Q rest (a.put op.dst undef) W) : wpList Tryz.prog ops Q (op :: rest) a w :=
 BigFrame.wpList_want hw fun K hK => by
  have hs := stMR (m2 := m2) hat h1 h2 h3 h4
  obtain ⟨k1, k2⟩ := storeAll (m2 := m2) (r2 := r2) (e2 := e2) (s2 := s2) (d2 := d2) hat
  unfold Oper.wp execOp
  simp only [ho, hx, hy]
  rw [Sem.run_bind, hs]
  exact hK _ _ (h _ (Lib.hid k1) (Lib.hid k2))
end
end Go.Proofs.YtldfpklgbedgjaaGreat
