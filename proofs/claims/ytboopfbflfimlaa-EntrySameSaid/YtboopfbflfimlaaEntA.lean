/-
  Layer 5, the program: entries by value; which may be.
-/
import Derived.Test.YtboopfbflfimlaaEntVec
import Derived.Test.YtboopfbflfimlaaLibG
import Derived.Test.YtboopfbflfimlaaVecE
namespace Go.Proofs.Ytboopfbflfimlaa
set_option linter.unusedSimpArgs false
set_option linter.unusedVariables false
set_option maxRecDepth 100000
open Go.RowKit

/-- An entry, by value: its cut's slice, and what it holds. -/
def entV (t : Value) (e : Ent.E) : Value := .agg #[.int .i64 e.number, .int .i64 e.kind, t, .int .i64 e.tag, .int .i64 e.term, .int .i64 e.pos]
def IsEnt (w : World) (v : Value) (e : Ent.E) : Prop := ∃ t, v = entV t e ∧ Ints w t e.cut
theorem IsEnt.below {w w' : World} {v : Value} {e : Ent.E} (h : IsEnt w v e) (hb : Below w.heap.size w w') : IsEnt w' v e := by
  obtain ⟨t, rfl, h⟩ := h
  exact ⟨t, rfl, h.below hb⟩
/-- An entry's value, opened. -/
theorem IsEnt.shape {w : World} {v : Value} {e : Ent.E} (h : IsEnt w v e) : ∃ a n c, v = .agg #[.int .i64 e.number, .int .i64 e.kind, .slice a n c, .int .i64 e.tag, .int .i64 e.term, .int .i64 e.pos] := by
  obtain ⟨t, rfl, ht⟩ := h
  obtain ⟨a, c, rfl, _⟩ := ht.open
  exact ⟨_, _, _, rfl⟩
/-- Block p is an entry (of the program's type, or of the document's). -/
def EntAt (T : TypeId) (w : World) (p : Nat) (t : Value) (e : Ent.E) : Prop := w.heap[p]? = some (.cells #[.int .i64 e.number, .int .i64 e.kind, t, .int .i64 e.tag, .int .i64 e.term, .int .i64 e.pos] T (0, 0))
theorem EntAt.new (T : TypeId) (w : World) (t : Value) (e : Ent.E) : EntAt T (w.alloc (.cells #[.int .i64 e.number, .int .i64 e.kind, t, .int .i64 e.tag, .int .i64 e.term, .int .i64 e.pos] T)) w.heap.size t e := heap_alloc_new w _
theorem EntAt.lt {T : TypeId} {w : World} {p : Nat} {t : Value} {e : Ent.E} (h : EntAt T w p t e) : p < w.heap.size := (Array.getElem?_eq_some_iff.1 h).1
theorem EntAt.ext {T : TypeId} {w w' : World} {p : Nat} {t : Value} {e : Ent.E} (h : EntAt T w p t e) (hE : Ext w w') : EntAt T w' p t e := (hE.block p h.lt).trans h
theorem EntAt.but {T : TypeId} {w w' : World} {p q : Nat} {t : Value} {e : Ent.E} (h : EntAt T w p t e) (hB : But q w w') (hne : p ≠ q) : EntAt T w' p t e := (hB.block p h.lt hne).trans h
theorem EntAt.cells {T : TypeId} {w : World} {p : Nat} {t : Value} {e : Ent.E} (h : EntAt T w p t e) : w.cell? ⟨p, 0, none⟩ = some (.int .i64 e.number) ∧ w.cell? ⟨p, 1, none⟩ = some (.int .i64 e.kind) ∧ w.cell? ⟨p, 2, none⟩ = some t ∧ w.cell? ⟨p, 3, none⟩ = some (.int .i64 e.tag) ∧ w.cell? ⟨p, 4, none⟩ = some (.int .i64 e.term) ∧ w.cell? ⟨p, 5, none⟩ = some (.int .i64 e.pos) :=
  ⟨cell_of_heap h 0, cell_of_heap h 1, cell_of_heap h 2, cell_of_heap h 3, cell_of_heap h 4, cell_of_heap h 5⟩

theorem box_ent (w : World) (n k t m p : Int) (v : Value) : (Instr.box 31 (.agg #[.int .i64 n, .int .i64 k, v, .int .i64 t, .int .i64 m, .int .i64 p])).run Try.prog w = .ok (.pointer (some ⟨w.heap.size, 0, none⟩)) (w.alloc (.cells #[.int .i64 n, .int .i64 k, v, .int .i64 t, .int .i64 m, .int .i64 p] 31)) := by kernel_rfl
theorem box_entR (w : World) (n k t m p : Int) (v : Value) : (Instr.box 26 (.agg #[.int .i64 n, .int .i64 k, v, .int .i64 t, .int .i64 m, .int .i64 p])).run Try.prog w = .ok (.pointer (some ⟨w.heap.size, 0, none⟩)) (w.alloc (.cells #[.int .i64 n, .int .i64 k, v, .int .i64 t, .int .i64 m, .int .i64 p] 26)) := by kernel_rfl
theorem build_seq0 (w : World) : (Instr.build 24 #[]).run Try.prog w = .ok (.agg #[.int .i64 0, .int .i64 0]) w := by kernel_rfl

set_option maxHeartbeats 1000000 in
theorem isBetween5_any (n a b : Int) (w : World) : Calls Try.prog 37 #[.int .i64 n, .int .i64 a, .int .i64 b] w fun e w' => e = .returned (.bool (decide (a ≤ n ∧ n ≤ b))) ∧ w = w' := by
  by_cases h0 : a ≤ n
  · by_cases h1 : n ≤ b
    · have e : decide (a ≤ n ∧ n ≤ b) = true := by simp [h0, h1]
      rw [e]
      clear e
      go_enter Try.func37, Try.ntmps37
      go_wp2
      go_ret
      exact ⟨rfl, rfl⟩
    · have e : decide (a ≤ n ∧ n ≤ b) = false := by simp [h1]
      rw [e]
      clear e
      go_enter Try.func37, Try.ntmps37
      go_wp2
      go_ret
      exact ⟨rfl, rfl⟩
  · have e : decide (a ≤ n ∧ n ≤ b) = false := by simp [h0]
    rw [e]
    clear e
    go_enter Try.func37, Try.ntmps37
    go_wp2
    go_ret
    exact ⟨rfl, rfl⟩
end Go.Proofs.Ytboopfbflfimlaa
