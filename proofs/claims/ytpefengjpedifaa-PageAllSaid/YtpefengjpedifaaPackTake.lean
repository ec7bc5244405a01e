/-
  Layer 2: a part is read by the program.
-/
import Derived.Test.YtpefengjpedifaaPackParts
namespace Go.Proofs.Ytpefengjpedifaa
open Go.RowKit

/-- A part, by value. -/
def partVal (p : Pack.Part) : Value := .agg #[.int .i64 p.kind, .int .i64 p.n, .int .i64 p.most, .string ⟨p.s.toArray⟩, .bool p.is]
theorem heap_frozen {w w' : World} {p q : Nat} {cs : Array Value} {T : TypeId} (h : w.heap[q]? = some (.cells cs T (0, 0))) (hb : But p w w') (hne : q ≠ p) : w'.heap[q]? = some (.cells cs T (0, 0)) := by
  rw [hb.block q (Array.getElem?_eq_some_iff.1 h).1 hne]; exact h

theorem But.low {p : Nat} {a b c : World} (h : But p a b) (k : Below a.heap.size b c) : But p a c :=
  ⟨k.os.trans h.os, k.tape.trans h.tape, k.output.trans h.output, Nat.le_trans h.size k.size, fun i hi hp => (k.block i hi).trans (h.block i hi hp)⟩
/-- A reader lies beside blocks of other things. -/
theorem RD.off {w w' : World} {p q : Nat} {s : Pack.St} {cs : Array Value} {T : TypeId} {fr : Nat × Nat} (h : RD w p s) (hq : w.heap[q]? = some (.cells cs T fr)) (hx : ∀ n, Value.int .u8 n ∉ cs.toList) (hne : p ≠ q) (hb : But q w w') : RD w' p s := by
  have hlt := h.lt
  obtain ⟨a, n, c, h1, h2, h3⟩ := h
  exact ⟨a, n, c, by rw [hb.block p hlt hne]; exact h1, h2.off hq hx hb, h3⟩
end Go.Proofs.Ytpefengjpedifaa
