/-
  Merged: Entries in blocks of their own: new, loaded, stored whole.
-/
import Derived.Test.YtnoeconcpgdjlaaBsEnt
import Derived.Test.YtnoeconcpgdjlaaBsLib
import Derived.Test.YtnoeconcpgdjlaaBsMsg

namespace Go.Proofs.Ytnoeconcpgdjlaa
set_option linter.unusedSimpArgs false
set_option linter.unusedVariables false
set_option maxRecDepth 100000
open Go.RowKit
/- Entries in blocks of their own: new, loaded, stored whole. -/
def entCells12 (t : Value) (e : Ent.E) : Array Value := #[.int .i64 e.number, .int .i64 e.kind, t, .int .i64 e.tag, .int .i64 e.term, .int .i64 e.pos]
/-- An entry's block. -/
def EAt12 (w : World) (q : Nat) (t : Value) (e : Ent.E) : Prop := w.heap[q]? = some (.cells (entCells12 t e) 74 (0, 0))
section
variable {w w' : World} {q : Nat} {t : Value} {e : Ent.E}
theorem EAt12.lt (h : EAt12 w q t e) : q < w.heap.size := (Array.getElem?_eq_some_iff.1 h).1
theorem EAt12.ext (h : EAt12 w q t e) (hE : Ext w w') : EAt12 w' q t e := heap_ext h hE
theorem EAt12.but {p : Nat} (h : EAt12 w q t e) (hb : But p w w') (hq : q ≠ p) : EAt12 w' q t e := (hb.block q h.lt hq).trans h
theorem EAt12.block (h : EAt12 w q t e) (hb : w'.heap[q]? = w.heap[q]?) : EAt12 w' q t e := hb.trans h
theorem EAt12.range (h : EAt12 w q t e) : w.rangeAt q 0 (entCells12 t e).toList := fun j v hj => by
  rw [cell_of_heap h, ← Array.getElem?_toList]
  simpa using hj
theorem EAt12.ld (h : EAt12 w q t e) (ht : ∃ a n c, t = .slice a n c) : (Instr.loadAt 74 (.pointer (some ⟨q, 0, none⟩))).run Try.prog w = .ok (.agg (entCells12 t e)) w := by
  obtain ⟨a, n, c, rfl⟩ := ht
  exact run_loadAt_mid w q 0 74 (entCells12 (.slice a n c) e).toList _ h.range Try.underlying74 rfl (by kernel_rfl)
theorem EAt12.ldVar (h : EAt12 w q t e) (ht : ∃ a n c, t = .slice a n c) : (loadVar 74 ⟨q, 0, none⟩).run Try.prog w = .ok (.agg (entCells12 t e)) w := by
  obtain ⟨a, n, c, rfl⟩ := ht
  exact run_loadVar_mid w q 0 74 (entCells12 (.slice a n c) e).toList _ h.range Try.underlying74 rfl (by kernel_rfl)
theorem there12 (h : EAt12 w q t e) : w.there q 0 6 := fun j hj => by
  refine ⟨?_, frozen_of_heap h _⟩
  rw [cell_of_heap h]
  have : 0 + j < (entCells12 t e).size := by show _ < 6; omega
  rw [Array.getElem?_eq_getElem this]
  rfl
theorem EAt12.number (h : EAt12 w q t e) (n : Int) : EAt12 (w.setCell ⟨q, 0, none⟩ (.int .i64 n)) q t ⟨n, e.kind, e.cut, e.tag, e.term, e.pos⟩ := heap_setCell h 0 (.int .i64 n)
end
section
variable {ops : Array Oper} {rest : List Oper} {op : Oper} {a : Act} {w : World} {Q : Exit → Act → World → Prop}
theorem allocE12 (hw : Region.wanted op (yielded ops a.tmps) = true) (ho : op.op = .alloc 74)
    (h : ∀ W b, Hid (EAt12 W b (.slice none 0 0) Msg.ent0) → Hid (Ext w W) → Hid (b = w.heap.size) → wpList Try.prog ops Q rest (a.put op.dst (.pointer (some ⟨b, 0, none⟩))) W) : wpList Try.prog ops Q (op :: rest) a w :=
  BigFrame.wpList_want hw fun K hK => by
    have hr : (execOp a.eval op).run Try.prog w = .ok (.value (.pointer (some ⟨w.heap.size, 0, none⟩))) (w.alloc (.cells (entCells12 (.slice none 0 0) Msg.ent0) 74)) := by
      unfold execOp
      simp only [ho]
      kernel_rfl
    unfold Oper.wp
    rw [hr]
    exact hK _ _ (h _ _ (Lib.hid (heap_alloc_new w _)) (Lib.hid (Ext.alloc _ _)) (Lib.hid rfl))
theorem putE12 {q : Nat} {t t2 : Value} {e e2 : Ent.E} (hw : Region.wanted op (yielded ops a.tmps) = true) (x y : Operand) (ho : op.op = .store 74 x y)
    (hx : a.eval x = .pointer (some ⟨q, 0, none⟩)) (hy : a.eval y = .agg (entCells12 t2 e2)) (hat : EAt12 w q t e) (h1 : ∃ a n c, t2 = .slice a n c)
    (h : ∀ W, Hid (EAt12 W q t2 e2) → Hid (But q w W) → wpList Try.prog ops Q rest (a.put op.dst undef) W) : wpList Try.prog ops Q (op :: rest) a w :=
  BigFrame.wpList_want hw fun K hK => by
    have hs : (Instr.storeAt 74 (.pointer (some ⟨q, 0, none⟩)) (.agg (entCells12 t2 e2))).run Try.prog w = .ok () (w.setCells q 0 (entCells12 t2 e2).toList) := by
      obtain ⟨_, _, _, rfl⟩ := h1
      exact run_storeAt_mid w q 0 74 _ (there12 hat) (by kernel_rfl) (by simp [entCells12, Value.oneCell'])
    have k1 : EAt12 (w.setCells q 0 (entCells12 t2 e2).toList) q t2 e2 := heap_setCells q _ (0, 0) (entCells12 t2 e2).toList [] (entCells12 t e).toList 0 w hat rfl rfl
    have k2 : But q w (w.setCells q 0 (entCells12 t2 e2).toList) := but_setCells q _ _ _
    unfold Oper.wp execOp
    simp only [ho, hx, hy]
    rw [Sem.run_bind, hs]
    exact hK _ _ (h _ (Lib.hid k1) (Lib.hid k2))
/-- append, where the new row lies told too. -/
theorem wpList_appN_at {P : Program} {t e : TypeId} {z : Value} {size bytes : Nat} (hgd : op.guard = none) (s x : Operand) (E : ElemN P t e z size bytes)
    (ho : op.op = .call { callee := .builtin .append, args := #[s, x], argTypes := #[t, t] }) {base : Nat} {v u : Value} {n m : Nat} {xs ys : List Value} (hs : a.eval s = v) (hx : a.eval x = u)
    (hown : w.ownsRow base e size v n xs) (hu : SlN size w u m ys) (hm : 0 < m) (h1 : ∀ y ∈ ys, y.oneCell' = true) (hsz : n + m ≤ maxLen) (hby : (n + m) * bytes ≤ 140737488355328) (hb : base ≤ w.heap.size)
    (h : ∀ v' w', w'.ownsRow base e size v' (n + m) (xs ++ ys) → w.grownBy w' v.ownBlock → (v'.ownBlock = v.ownBlock ∨ v'.ownBlock = some w.heap.size) → wpList P ops Q rest (a.put op.dst v') w') : wpList P ops Q (op :: rest) a w :=
  wpList_plain hgd fun _ hK => by
    obtain ⟨v', w', hr, h2, h3, h4⟩ := run_appN_at (P := P) (ty := op.type) E hown hu hm h1 hsz hby hb
    unfold Oper.wp execOp
    simp only [ho, resolve, invoke, builtin, Sem.run_bind, Sem.run_pure, Result.andThen_ok, List.map_toArray, List.map_cons, List.map_nil, hs, hx, hr]
    exact hK _ _ (h v' w' h2 h3 h4)
/-- An operation whose run is known, whatever it is. -/
theorem opAny12 {P : Program} {w' : World} (v : Value) {o : Op} (ho : op.op = o) (hw : Region.wanted op (yielded ops a.tmps) = true) (hr : (execOp a.eval op).run P w = .ok (.value v) w') (hk : wpList P ops Q rest (a.put op.dst v) w') : wpList P ops Q (op :: rest) a w :=
  BigFrame.wpList_want hw fun K hK => by
    unfold Oper.wp
    rw [hr]
    exact hK _ _ hk
end
end Go.Proofs.Ytnoeconcpgdjlaa
