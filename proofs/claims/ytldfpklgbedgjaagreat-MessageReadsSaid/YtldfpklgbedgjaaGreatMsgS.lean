/-
 Merged: Layer 7, the document: its reader's state, and what its helpers read.
-/
import Derived.Test.YtldfpklgbedgjaaGreatBrPack
import Derived.Test.YtldfpklgbedgjaaGreatMsgR
namespace Go.Proofs.YtldfpklgbedgjaaGreat
set_option linter.unusedSimpArgs false
set_option linter.unusedVariables false
set_option maxRecDepth 100000
open Go.RowKit
def stCells (l : List UInt8) (e : Int) (m : Msg.M) (rt et sv dv : Value) : Array Value := (Value.string ⟨l.toArray⟩ :: Value.int .i64 e :: (msgCells m rt et sv dv).toList).toArray
def StAt (w : World) (q : Nat) (l : List UInt8) (e : Int) (m : Msg.M) (rt et sv dv : Value) : Prop := w.heap[q]? = some (.cells (stCells l e m rt et sv dv) 90 (0, 0))
section
variable {w w' : World} {q : Nat} {l : List UInt8} {e : Int} {m : Msg.M} {rt et sv dv : Value}
theorem StAt.lt (h : StAt w q l e m rt et sv dv) : q < w.heap.size := (Array.getElem?_eq_some_iff.1 h).1
theorem StAt.ext (h : StAt w q l e m rt et sv dv) (hE : Ext w w') : StAt w' q l e m rt et sv dv := (hE.block q h.lt).trans h
theorem StAt.but {p : Nat} (h : StAt w q l e m rt et sv dv) (hB : But p w w') (hne : q ≠ p) : StAt w' q l e m rt et sv dv := (hB.block q h.lt hne).trans h
theorem StAt.rd (h : StAt w q l e m rt et sv dv) : w.cell? ⟨q, 0, none⟩ = some (.string ⟨l.toArray⟩) ∧ w.cell? ⟨q, 1, none⟩ = some (.int .i64 e) := ⟨cell_of_heap h 0, cell_of_heap h 1⟩
theorem StAt.kind (h : StAt w q l e m rt et sv dv) : w.cell? ⟨q, 2, none⟩ = some (.int .i64 m.kind) := cell_of_heap h 2
theorem StAt.old (h : StAt w q l e m rt et sv dv) : w.cell? ⟨q, 20, none⟩ = some (.int .i64 m.old) := cell_of_heap h 20
theorem StAt.range (h : StAt w q l e m rt et sv dv) : w.rangeAt q 0 (stCells l e m rt et sv dv).toList := by
 have := World.rangeAt_of_block h 0 (stCells l e m rt et sv dv).size
 rwa [Nat.zero_add, Array.extract_size] at this
theorem StAt.rangeM (h : StAt w q l e m rt et sv dv) : w.rangeAt q 2 (msgCells m rt et sv dv).toList := fun j v hj => by
 rw [cell_of_heap h, ← hj]
 unfold stCells
 rw [List.getElem?_toArray, Nat.add_comm]
 rfl
theorem thereS (h : StAt w q l e m rt et sv dv) (o n : Nat) (hn : o + n ≤ 24) : w.there q o n := fun j hj => by
 refine ⟨?_, frozen_of_heap h _⟩
 rw [cell_of_heap h]
 have : o + j < (stCells l e m rt et sv dv).size := by show _ < 24; omega
 rw [Array.getElem?_eq_getElem this]
 rfl
end
theorem heap_setPart (b : Nat) (T : TypeId) (fr : Nat × Nat) : ∀ (vs pre cs post : List Value) (o : Nat) (w : World), w.heap[b]? = some (.cells (pre ++ (cs ++ post)).toArray T fr) → pre.length = o → cs.length = vs.length → (w.setCells b o vs).heap[b]? = some (.cells (pre ++ (vs ++ post)).toArray T fr) := by
 intro vs
 induction vs with
 | nil =>
  intro pre cs post o w h _ hl
  have : cs = [] := List.length_eq_zero_iff.1 hl
  subst this
  exact h
 | cons v vs ih =>
  intro pre cs post o w h ho hl
  match cs, hl with
  | c :: cs, hl =>
   have h1 := heap_setCell h o v
   have e : (pre ++ ((c :: cs) ++ post)).toArray.setIfInBounds o v = ((pre ++ [v]) ++ (cs ++ post)).toArray := by
    rw [List.setIfInBounds_toArray]
    congr 1
    subst ho
    rw [List.set_append_right _ _ (Nat.le_refl _)]
    simp
   rw [e] at h1
   have h2 := ih (pre ++ [v]) cs post (o + 1) (w.setCell ⟨b, o, none⟩ v) h1 (by rw [List.length_append, ho]; rfl) (by simpa using hl)
   rw [show pre ++ (v :: vs ++ post) = (pre ++ [v]) ++ (vs ++ post) by simp]
   exact h2
section
variable {ops : Array Oper} {rest : List Oper} {op : Oper} {a : Act} {w : World} {Q : Exit → Act → World → Prop}
theorem allocS (hw : Region.wanted op (yielded ops a.tmps) = true) (ho : op.op = .alloc 90)
 (h : ∀ W b, Hid (StAt W b [] 0 Msg.none0 (.slice none 0 0) (.slice none 0 0) (.slice none 0 0) (.slice none 0 0)) → Hid (Ext w W) → Hid (b = w.heap.size) → wpList Tryz.prog ops Q rest (a.put op.dst (.pointer (some ⟨b, 0, none⟩))) W) : wpList Tryz.prog ops Q (op :: rest) a w :=
 BigFrame.wpList_want hw fun K hK => by
  have hr : (execOp a.eval op).run Tryz.prog w = .ok (.value (.pointer (some ⟨w.heap.size, 0, none⟩))) (w.alloc (.cells (stCells [] 0 Msg.none0 (.slice none 0 0) (.slice none 0 0) (.slice none 0 0) (.slice none 0 0)) 90)) := by
   unfold execOp
   simp only [ho]
   kernel_rfl
  unfold Oper.wp
  rw [hr]
  exact hK _ _ (h _ _ (Lib.hid (heap_alloc_new w _)) (Lib.hid (Ext.alloc _ _)) (Lib.hid rfl))
theorem boxS {l : List UInt8} {e : Int} {m : Msg.M} {rt et sv dv : Value} (hw : Region.wanted op (yielded ops a.tmps) = true) (x : Operand) (ho : op.op = .box 90 x) (hx : a.eval x = .agg (stCells l e m rt et sv dv))
 (h : ∀ W b, Hid (StAt W b l e m rt et sv dv) → Hid (Ext w W) → Hid (b = w.heap.size) → wpList Tryz.prog ops Q rest (a.put op.dst (.pointer (some ⟨b, 0, none⟩))) W) : wpList Tryz.prog ops Q (op :: rest) a w :=
 BigFrame.wpList_want hw fun K hK => by
  have hr : (execOp a.eval op).run Tryz.prog w = .ok (.value (.pointer (some ⟨w.heap.size, 0, none⟩))) (w.alloc (.cells (stCells l e m rt et sv dv) 90)) := by
   unfold execOp
   simp only [ho, hx]
   kernel_rfl
  unfold Oper.wp
  rw [hr]
  exact hK _ _ (h _ _ (Lib.hid (heap_alloc_new w _)) (Lib.hid (Ext.alloc _ _)) (Lib.hid rfl))
theorem allocRd (hw : Region.wanted op (yielded ops a.tmps) = true) (ho : op.op = .alloc 88)
 (h : ∀ W b, Hid (W.heap[b]? = some (.cells #[.string ⟨#[]⟩, .int .i64 0] 88 (0, 0))) → Hid (Ext w W) → Hid (b = w.heap.size) → wpList Tryz.prog ops Q rest (a.put op.dst (.pointer (some ⟨b, 0, none⟩))) W) : wpList Tryz.prog ops Q (op :: rest) a w :=
 BigFrame.wpList_want hw fun K hK => by
  have hr : (execOp a.eval op).run Tryz.prog w = .ok (.value (.pointer (some ⟨w.heap.size, 0, none⟩))) (w.alloc (.cells #[.string ⟨#[]⟩, .int .i64 0] 88)) := by
   unfold execOp
   simp only [ho]
   kernel_rfl
  unfold Oper.wp
  rw [hr]
  exact hK _ _ (h _ _ (Lib.hid (heap_alloc_new w _)) (Lib.hid (Ext.alloc _ _)) (Lib.hid rfl))
theorem putRd {b : Nat} {x0 x1 : Value} {l : List UInt8} {e : Int} (hw : Region.wanted op (yielded ops a.tmps) = true) (x y : Operand) (ho : op.op = .store 88 x y) (hx : a.eval x = .pointer (some ⟨b, 0, none⟩)) (hy : a.eval y = refVal l e)
 (hb : w.heap[b]? = some (.cells #[x0, x1] 88 (0, 0)))
 (h : ∀ W, Hid (W.heap[b]? = some (.cells #[.string ⟨l.toArray⟩, .int .i64 e] 88 (0, 0))) → Hid (But b w W) → wpList Tryz.prog ops Q rest (a.put op.dst undef) W) : wpList Tryz.prog ops Q (op :: rest) a w :=
 BigFrame.wpList_want hw fun K hK => by
  have hth : w.there b 0 2 := fun j hj => by
   refine ⟨?_, frozen_of_heap hb _⟩
   rw [cell_of_heap hb]
   match j, hj with
   | 0, _ => rfl
   | 1, _ => rfl
  have hs := run_storeAt_mid (P := Tryz.prog) w b 0 88 #[.string ⟨l.toArray⟩, .int .i64 e] hth (by kernel_rfl) (by simp [Value.oneCell'])
  unfold Oper.wp execOp
  simp only [ho, hx, hy]
  unfold refVal
  rw [Sem.run_bind, hs]
  exact hK _ _ (h _ (Lib.hid (heap_setCells b _ (0, 0) [.string ⟨l.toArray⟩, .int .i64 e] [] [x0, x1] 0 w hb rfl rfl)) (Lib.hid (but_setCells b _ _ _)))
theorem ldRd {b : Nat} {l : List UInt8} {e : Int} (hw : Region.wanted op (yielded ops a.tmps) = true) (x : Operand) (ho : op.op = .load 88 x) (hx : a.eval x = .pointer (some ⟨b, 0, none⟩))
 (hb : w.cell? ⟨b, 0, none⟩ = some (.string ⟨l.toArray⟩) ∧ w.cell? ⟨b, 1, none⟩ = some (.int .i64 e))
 (hk : wpList Tryz.prog ops Q rest (a.put op.dst (refVal l e)) w) : wpList Tryz.prog ops Q (op :: rest) a w :=
 BigFrame.wpList_want hw fun K hK => by
  have hl : (Instr.loadAt 88 (.pointer (some ⟨b, 0, none⟩))).run Tryz.prog w = .ok (refVal l e) w := by
   unfold refVal
   simp [go_sem, hb.1, hb.2]
  unfold Oper.wp execOp
  simp only [ho, hx]
  rw [Sem.run_bind, hl]
  exact hK _ _ hk
variable {q : Nat} {l : List UInt8} {e : Int} {m : Msg.M} {rt et sv dv : Value}
theorem ldS (hw : Region.wanted op (yielded ops a.tmps) = true) (x : Operand) (ho : op.op = .load 90 x) (hx : a.eval x = .pointer (some ⟨q, 0, none⟩)) (h : StAt w q l e m rt et sv dv)
 (hk : wpList Tryz.prog ops Q rest (a.put op.dst (.agg (stCells l e m rt et sv dv))) w) : wpList Tryz.prog ops Q (op :: rest) a w :=
 BigFrame.wpList_want hw fun K hK => wp_load_mid 90 x ho q 0 hx (stCells l e m rt et sv dv).toList _ h.range Tryz.underlying90 rfl (by kernel_rfl) (hK _ _ hk)
theorem ldSM (hw : Region.wanted op (yielded ops a.tmps) = true) (x : Operand) (ho : op.op = .load 35 x) (hx : a.eval x = .pointer (some ⟨q, 2, none⟩)) (h : StAt w q l e m rt et sv dv)
 (hk : wpList Tryz.prog ops Q rest (a.put op.dst (.agg (msgCells m rt et sv dv))) w) : wpList Tryz.prog ops Q (op :: rest) a w :=
 BigFrame.wpList_want hw fun K hK => wp_load_mid 35 x ho q 2 hx (msgCells m rt et sv dv).toList _ h.rangeM Tryz.underlying35 rfl (by kernel_rfl) (hK _ _ hk)
theorem putS {l2 : List UInt8} {e2 : Int} {m2 : Msg.M} {r2 et2 s2 d2 : Value} (hw : Region.wanted op (yielded ops a.tmps) = true) (x y : Operand) (ho : op.op = .store 90 x y) (hx : a.eval x = .pointer (some ⟨q, 0, none⟩)) (hy : a.eval y = .agg (stCells l2 e2 m2 r2 et2 s2 d2)) (hat : StAt w q l e m rt et sv dv)
 (h1 : ∃ a n c, r2 = .slice a n c) (h2 : ∃ a n c, et2 = .slice a n c) (h3 : ∃ a n c, s2 = .slice a n c) (h4 : ∃ a n c, d2 = .slice a n c)
 (h : ∀ W, Hid (StAt W q l2 e2 m2 r2 et2 s2 d2) → Hid (But q w W) → wpList Tryz.prog ops Q rest (a.put op.dst undef) W) : wpList Tryz.prog ops Q (op :: rest) a w :=
 BigFrame.wpList_want hw fun K hK => by
  obtain ⟨b1, b2, b3, rfl⟩ := h1
  obtain ⟨b4, b5, b6, rfl⟩ := h2
  obtain ⟨b7, b8, b9, rfl⟩ := h3
  obtain ⟨c1, c2, c3, rfl⟩ := h4
  have hs := run_storeAt_mid (P := Tryz.prog) w q 0 90 (stCells l2 e2 m2 (.slice b1 b2 b3) (.slice b4 b5 b6) (.slice b7 b8 b9) (.slice c1 c2 c3)) (thereS hat 0 24 (by omega)) (by kernel_rfl) (by simp [stCells, msgCells, Value.oneCell'])
  unfold Oper.wp execOp
  simp only [ho, hx, hy]
  rw [Sem.run_bind, hs]
  exact hK _ _ (h _ (Lib.hid (heap_setCells q _ (0, 0) (stCells l2 e2 m2 _ _ _ _).toList [] (stCells l e m rt et sv dv).toList 0 w hat rfl rfl)) (Lib.hid (but_setCells q _ _ _)))
theorem putSR {l2 : List UInt8} {e2 : Int} (hw : Region.wanted op (yielded ops a.tmps) = true) (x y : Operand) (ho : op.op = .store 88 x y) (hx : a.eval x = .pointer (some ⟨q, 0, none⟩)) (hy : a.eval y = refVal l2 e2) (hat : StAt w q l e m rt et sv dv)
 (h : ∀ W, Hid (StAt W q l2 e2 m rt et sv dv) → Hid (But q w W) → wpList Tryz.prog ops Q rest (a.put op.dst undef) W) : wpList Tryz.prog ops Q (op :: rest) a w :=
 BigFrame.wpList_want hw fun K hK => by
  have hs := run_storeAt_mid (P := Tryz.prog) w q 0 88 #[.string ⟨l2.toArray⟩, .int .i64 e2] (thereS hat 0 2 (by omega)) (by kernel_rfl) (by simp [Value.oneCell'])
  unfold Oper.wp execOp
  simp only [ho, hx, hy]
  unfold refVal
  rw [Sem.run_bind, hs]
  exact hK _ _ (h _ (Lib.hid (heap_setPart q _ (0, 0) [.string ⟨l2.toArray⟩, .int .i64 e2] [] [.string ⟨l.toArray⟩, .int .i64 e] (msgCells m rt et sv dv).toList 0 w hat rfl rfl)) (Lib.hid (but_setCells q _ _ _)))
theorem putS_kind {n : Int} (hw : Region.wanted op (yielded ops a.tmps) = true) (x y : Operand) (ho : op.op = .store 3 x y) (hx : a.eval x = .pointer (some ⟨q, 2, none⟩)) (hy : a.eval y = .int .i64 n) (hat : StAt w q l e m rt et sv dv)
 (h : ∀ W, Hid (StAt W q l e { m with kind := n } rt et sv dv) → Hid (But q w W) → wpList Tryz.prog ops Q rest (a.put op.dst undef) W) : wpList Tryz.prog ops Q (op :: rest) a w :=
 BigFrame.wpList_want hw fun K hK => by
  have c := cell_of_heap hat 2
  have f := frozen_of_heap hat 2
  have hs : (Instr.storeAt 3 (.pointer (some ⟨q, 2, none⟩)) (.int .i64 n)).run Tryz.prog w = .ok () (w.setCell ⟨q, 2, none⟩ (.int .i64 n)) := by simp [stCells, msgCells] at c; simp [go_sem, c, f]
  have hh := heap_setCell hat 2 (.int .i64 n)
  unfold Oper.wp execOp
  simp only [ho, hx, hy]
  rw [Sem.run_bind, hs]
  exact hK _ _ (h _ (Lib.hid hh) (Lib.hid (butSet w q 2 _)))
theorem putS_src {n : Int} (hw : Region.wanted op (yielded ops a.tmps) = true) (x y : Operand) (ho : op.op = .store 3 x y) (hx : a.eval x = .pointer (some ⟨q, 3, none⟩)) (hy : a.eval y = .int .i64 n) (hat : StAt w q l e m rt et sv dv)
 (h : ∀ W, Hid (StAt W q l e { m with src := n } rt et sv dv) → Hid (But q w W) → wpList Tryz.prog ops Q rest (a.put op.dst undef) W) : wpList Tryz.prog ops Q (op :: rest) a w :=
 BigFrame.wpList_want hw fun K hK => by
  have c := cell_of_heap hat 3
  have f := frozen_of_heap hat 3
  have hs : (Instr.storeAt 3 (.pointer (some ⟨q, 3, none⟩)) (.int .i64 n)).run Tryz.prog w = .ok () (w.setCell ⟨q, 3, none⟩ (.int .i64 n)) := by simp [stCells, msgCells] at c; simp [go_sem, c, f]
  have hh := heap_setCell hat 3 (.int .i64 n)
  unfold Oper.wp execOp
  simp only [ho, hx, hy]
  rw [Sem.run_bind, hs]
  exact hK _ _ (h _ (Lib.hid hh) (Lib.hid (butSet w q 3 _)))
theorem putS_dst {n : Int} (hw : Region.wanted op (yielded ops a.tmps) = true) (x y : Operand) (ho : op.op = .store 3 x y) (hx : a.eval x = .pointer (some ⟨q, 4, none⟩)) (hy : a.eval y = .int .i64 n) (hat : StAt w q l e m rt et sv dv)
 (h : ∀ W, Hid (StAt W q l e { m with dst := n } rt et sv dv) → Hid (But q w W) → wpList Tryz.prog ops Q rest (a.put op.dst undef) W) : wpList Tryz.prog ops Q (op :: rest) a w :=
 BigFrame.wpList_want hw fun K hK => by
  have c := cell_of_heap hat 4
  have f := frozen_of_heap hat 4
  have hs : (Instr.storeAt 3 (.pointer (some ⟨q, 4, none⟩)) (.int .i64 n)).run Tryz.prog w = .ok () (w.setCell ⟨q, 4, none⟩ (.int .i64 n)) := by simp [stCells, msgCells] at c; simp [go_sem, c, f]
  have hh := heap_setCell hat 4 (.int .i64 n)
  unfold Oper.wp execOp
  simp only [ho, hx, hy]
  rw [Sem.run_bind, hs]
  exact hK _ _ (h _ (Lib.hid hh) (Lib.hid (butSet w q 4 _)))
theorem putS_term {n : Int} (hw : Region.wanted op (yielded ops a.tmps) = true) (x y : Operand) (ho : op.op = .store 3 x y) (hx : a.eval x = .pointer (some ⟨q, 5, none⟩)) (hy : a.eval y = .int .i64 n) (hat : StAt w q l e m rt et sv dv)
 (h : ∀ W, Hid (StAt W q l e { m with term := n } rt et sv dv) → Hid (But q w W) → wpList Tryz.prog ops Q rest (a.put op.dst undef) W) : wpList Tryz.prog ops Q (op :: rest) a w :=
 BigFrame.wpList_want hw fun K hK => by
  have c := cell_of_heap hat 5
  have f := frozen_of_heap hat 5
  have hs : (Instr.storeAt 3 (.pointer (some ⟨q, 5, none⟩)) (.int .i64 n)).run Tryz.prog w = .ok () (w.setCell ⟨q, 5, none⟩ (.int .i64 n)) := by simp [stCells, msgCells] at c; simp [go_sem, c, f]
  have hh := heap_setCell hat 5 (.int .i64 n)
  unfold Oper.wp execOp
  simp only [ho, hx, hy]
  rw [Sem.run_bind, hs]
  exact hK _ _ (h _ (Lib.hid hh) (Lib.hid (butSet w q 5 _)))
theorem putS_shard {n : Int} (hw : Region.wanted op (yielded ops a.tmps) = true) (x y : Operand) (ho : op.op = .store 3 x y) (hx : a.eval x = .pointer (some ⟨q, 6, none⟩)) (hy : a.eval y = .int .i64 n) (hat : StAt w q l e m rt et sv dv)
 (h : ∀ W, Hid (StAt W q l e { m with shard := n } rt et sv dv) → Hid (But q w W) → wpList Tryz.prog ops Q rest (a.put op.dst undef) W) : wpList Tryz.prog ops Q (op :: rest) a w :=
 BigFrame.wpList_want hw fun K hK => by
  have c := cell_of_heap hat 6
  have f := frozen_of_heap hat 6
  have hs : (Instr.storeAt 3 (.pointer (some ⟨q, 6, none⟩)) (.int .i64 n)).run Tryz.prog w = .ok () (w.setCell ⟨q, 6, none⟩ (.int .i64 n)) := by simp [stCells, msgCells] at c; simp [go_sem, c, f]
  have hh := heap_setCell hat 6 (.int .i64 n)
  unfold Oper.wp execOp
  simp only [ho, hx, hy]
  rw [Sem.run_bind, hs]
  exact hK _ _ (h _ (Lib.hid hh) (Lib.hid (butSet w q 6 _)))
theorem putS_number {n : Int} (hw : Region.wanted op (yielded ops a.tmps) = true) (x y : Operand) (ho : op.op = .store 3 x y) (hx : a.eval x = .pointer (some ⟨q, 7, none⟩)) (hy : a.eval y = .int .i64 n) (hat : StAt w q l e m rt et sv dv)
 (h : ∀ W, Hid (StAt W q l e { m with number := n } rt et sv dv) → Hid (But q w W) → wpList Tryz.prog ops Q rest (a.put op.dst undef) W) : wpList Tryz.prog ops Q (op :: rest) a w :=
 BigFrame.wpList_want hw fun K hK => by
  have c := cell_of_heap hat 7
  have f := frozen_of_heap hat 7
  have hs : (Instr.storeAt 3 (.pointer (some ⟨q, 7, none⟩)) (.int .i64 n)).run Tryz.prog w = .ok () (w.setCell ⟨q, 7, none⟩ (.int .i64 n)) := by simp [stCells, msgCells] at c; simp [go_sem, c, f]
  have hh := heap_setCell hat 7 (.int .i64 n)
  unfold Oper.wp execOp
  simp only [ho, hx, hy]
  rw [Sem.run_bind, hs]
  exact hK _ _ (h _ (Lib.hid hh) (Lib.hid (butSet w q 7 _)))
theorem putS_ballot {n : Int} (hw : Region.wanted op (yielded ops a.tmps) = true) (x y : Operand) (ho : op.op = .store 3 x y) (hx : a.eval x = .pointer (some ⟨q, 19, none⟩)) (hy : a.eval y = .int .i64 n) (hat : StAt w q l e m rt et sv dv)
 (h : ∀ W, Hid (StAt W q l e { m with ballot := n } rt et sv dv) → Hid (But q w W) → wpList Tryz.prog ops Q rest (a.put op.dst undef) W) : wpList Tryz.prog ops Q (op :: rest) a w :=
 BigFrame.wpList_want hw fun K hK => by
  have c := cell_of_heap hat 19
  have f := frozen_of_heap hat 19
  have hs : (Instr.storeAt 3 (.pointer (some ⟨q, 19, none⟩)) (.int .i64 n)).run Tryz.prog w = .ok () (w.setCell ⟨q, 19, none⟩ (.int .i64 n)) := by simp [stCells, msgCells] at c; simp [go_sem, c, f]
  have hh := heap_setCell hat 19 (.int .i64 n)
  unfold Oper.wp execOp
  simp only [ho, hx, hy]
  rw [Sem.run_bind, hs]
  exact hK _ _ (h _ (Lib.hid hh) (Lib.hid (butSet w q 19 _)))
theorem putS_old {n : Int} (hw : Region.wanted op (yielded ops a.tmps) = true) (x y : Operand) (ho : op.op = .store 3 x y) (hx : a.eval x = .pointer (some ⟨q, 20, none⟩)) (hy : a.eval y = .int .i64 n) (hat : StAt w q l e m rt et sv dv)
 (h : ∀ W, Hid (StAt W q l e { m with old := n } rt et sv dv) → Hid (But q w W) → wpList Tryz.prog ops Q rest (a.put op.dst undef) W) : wpList Tryz.prog ops Q (op :: rest) a w :=
 BigFrame.wpList_want hw fun K hK => by
  have c := cell_of_heap hat 20
  have f := frozen_of_heap hat 20
  have hs : (Instr.storeAt 3 (.pointer (some ⟨q, 20, none⟩)) (.int .i64 n)).run Tryz.prog w = .ok () (w.setCell ⟨q, 20, none⟩ (.int .i64 n)) := by simp [stCells, msgCells] at c; simp [go_sem, c, f]
  have hh := heap_setCell hat 20 (.int .i64 n)
  unfold Oper.wp execOp
  simp only [ho, hx, hy]
  rw [Sem.run_bind, hs]
  exact hK _ _ (h _ (Lib.hid hh) (Lib.hid (butSet w q 20 _)))
theorem putS_is {n : Bool} (hw : Region.wanted op (yielded ops a.tmps) = true) (x y : Operand) (ho : op.op = .store 4 x y) (hx : a.eval x = .pointer (some ⟨q, 8, none⟩)) (hy : a.eval y = .bool n) (hat : StAt w q l e m rt et sv dv)
 (h : ∀ W, Hid (StAt W q l e { m with is := n } rt et sv dv) → Hid (But q w W) → wpList Tryz.prog ops Q rest (a.put op.dst undef) W) : wpList Tryz.prog ops Q (op :: rest) a w :=
 BigFrame.wpList_want hw fun K hK => by
  have c := cell_of_heap hat 8
  have f := frozen_of_heap hat 8
  have hs : (Instr.storeAt 4 (.pointer (some ⟨q, 8, none⟩)) (.bool n)).run Tryz.prog w = .ok () (w.setCell ⟨q, 8, none⟩ (.bool n)) := by simp [stCells, msgCells] at c; simp [go_sem, c, f]
  have hh := heap_setCell hat 8 (.bool n)
  unfold Oper.wp execOp
  simp only [ho, hx, hy]
  rw [Sem.run_bind, hs]
  exact hK _ _ (h _ (Lib.hid hh) (Lib.hid (butSet w q 8 _)))
theorem putS_ent {z : Ent.E} {t : Value} (hw : Region.wanted op (yielded ops a.tmps) = true) (x y : Operand) (ho : op.op = .store 30 x y) (hx : a.eval x = .pointer (some ⟨q, 13, none⟩)) (hy : a.eval y = .agg ([.int .i64 z.number, .int .i64 z.kind, t, .int .i64 z.tag, .int .i64 z.term, .int .i64 z.pos] : List Value).toArray) (hat : StAt w q l e m rt et sv dv) (h1 : ∃ a n c, t = .slice a n c)
 (h : ∀ W, Hid (StAt W q l e { m with ent := z } rt t sv dv) → Hid (But q w W) → wpList Tryz.prog ops Q rest (a.put op.dst undef) W) : wpList Tryz.prog ops Q (op :: rest) a w :=
 BigFrame.wpList_want hw fun K hK => by
  obtain ⟨b1, b2, b3, rfl⟩ := h1
  skip
  have hs := run_storeAt_mid (P := Tryz.prog) w q 13 30 ([.int .i64 z.number, .int .i64 z.kind, (.slice b1 b2 b3), .int .i64 z.tag, .int .i64 z.term, .int .i64 z.pos] : List Value).toArray (thereS hat 13 6 (by omega)) (by kernel_rfl) (by simp [Value.oneCell'])
  unfold Oper.wp execOp
  simp only [ho, hx, hy]
  rw [Sem.run_bind, hs]
  exact hK _ _ (h _ (Lib.hid (heap_setPart q _ (0, 0) _ ((stCells l e m rt et sv dv).toList.take 13) (((stCells l e m rt et sv dv).toList.drop 13).take 6) ((stCells l e m rt et sv dv).toList.drop 19) 13 w hat rfl rfl)) (Lib.hid (but_setCells q _ _ _)))
theorem putS_reco {z : Rec.R} {t : Value} (hw : Region.wanted op (yielded ops a.tmps) = true) (x y : Operand) (ho : op.op = .store 26 x y) (hx : a.eval x = .pointer (some ⟨q, 9, none⟩)) (hy : a.eval y = .agg ([.int .i64 z.client, .int .i64 z.number, t, .string ⟨z.data.toArray⟩] : List Value).toArray) (hat : StAt w q l e m rt et sv dv) (h1 : ∃ a n c, t = .slice a n c)
 (h : ∀ W, Hid (StAt W q l e { m with reco := z } t et sv dv) → Hid (But q w W) → wpList Tryz.prog ops Q rest (a.put op.dst undef) W) : wpList Tryz.prog ops Q (op :: rest) a w :=
 BigFrame.wpList_want hw fun K hK => by
  obtain ⟨b1, b2, b3, rfl⟩ := h1
  skip
  have hs := run_storeAt_mid (P := Tryz.prog) w q 9 26 ([.int .i64 z.client, .int .i64 z.number, (.slice b1 b2 b3), .string ⟨z.data.toArray⟩] : List Value).toArray (thereS hat 9 4 (by omega)) (by kernel_rfl) (by simp [Value.oneCell'])
  unfold Oper.wp execOp
  simp only [ho, hx, hy]
  rw [Sem.run_bind, hs]
  exact hK _ _ (h _ (Lib.hid (heap_setPart q _ (0, 0) _ ((stCells l e m rt et sv dv).toList.take 9) (((stCells l e m rt et sv dv).toList.drop 9).take 4) ((stCells l e m rt et sv dv).toList.drop 13) 9 w hat rfl rfl)) (Lib.hid (but_setCells q _ _ _)))
theorem putS_conf {z : Term.C} {t d : Value} (hw : Region.wanted op (yielded ops a.tmps) = true) (x y : Operand) (ho : op.op = .store 33 x y) (hx : a.eval x = .pointer (some ⟨q, 21, none⟩)) (hy : a.eval y = .agg ([.int .i64 z.term, t, d] : List Value).toArray) (hat : StAt w q l e m rt et sv dv) (h1 : ∃ a n c, t = .slice a n c) (h2 : ∃ a n c, d = .slice a n c)
 (h : ∀ W, Hid (StAt W q l e { m with conf := z } rt et t d) → Hid (But q w W) → wpList Tryz.prog ops Q rest (a.put op.dst undef) W) : wpList Tryz.prog ops Q (op :: rest) a w :=
 BigFrame.wpList_want hw fun K hK => by
  obtain ⟨b1, b2, b3, rfl⟩ := h1
  obtain ⟨c1, c2, c3, rfl⟩ := h2
  have hs := run_storeAt_mid (P := Tryz.prog) w q 21 33 ([.int .i64 z.term, (.slice b1 b2 b3), (.slice c1 c2 c3)] : List Value).toArray (thereS hat 21 3 (by omega)) (by kernel_rfl) (by simp [Value.oneCell'])
  unfold Oper.wp execOp
  simp only [ho, hx, hy]
  rw [Sem.run_bind, hs]
  exact hK _ _ (h _ (Lib.hid (heap_setPart q _ (0, 0) _ ((stCells l e m rt et sv dv).toList.take 21) ((stCells l e m rt et sv dv).toList.drop 21) ([]) 21 w hat rfl rfl)) (Lib.hid (but_setCells q _ _ _)))
end
end Go.Proofs.YtldfpklgbedgjaaGreat
