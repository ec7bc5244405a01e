/-
  Layer 5: what the statements share.
-/
import Derived.Test.YtboopfbflfimlaaEntRaw
namespace Go.Proofs.Ytboopfbflfimlaa
set_option linter.unusedSimpArgs false
set_option linter.unusedVariables false
set_option maxRecDepth 100000
open Go.RowKit

theorem ldEntAt {w : World} {q : Nat} {a : Option Addr} {n c : Nat} {e : Ent.E} (h : EntAt 26 w q (.slice a n c) e) : (Instr.loadAt 26 (.pointer (some ⟨q, 0, none⟩))).run Try.prog w = .ok (.agg #[.int .i64 e.number, .int .i64 e.kind, .slice a n c, .int .i64 e.tag, .int .i64 e.term, .int .i64 e.pos]) w := by
  obtain ⟨z0, z1, z2, z3, z4, z5⟩ := h.cells
  simp [go_sem, z0, z1, z2, z3, z4, z5]
theorem ldEntAtP {w : World} {q : Nat} {a : Option Addr} {n c : Nat} {e : Ent.E} (h : EntAt 31 w q (.slice a n c) e) : (Instr.loadAt 31 (.pointer (some ⟨q, 0, none⟩))).run Try.prog w = .ok (.agg #[.int .i64 e.number, .int .i64 e.kind, .slice a n c, .int .i64 e.tag, .int .i64 e.term, .int .i64 e.pos]) w := by
  obtain ⟨z0, z1, z2, z3, z4, z5⟩ := h.cells
  simp [go_sem, z0, z1, z2, z3, z4, z5]
end Go.Proofs.Ytboopfbflfimlaa
