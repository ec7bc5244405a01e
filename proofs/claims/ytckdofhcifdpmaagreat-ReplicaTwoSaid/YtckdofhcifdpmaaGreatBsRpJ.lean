/-
  Merged: Layer 11: Crash.
-/
import Derived.Test.YtckdofhcifdpmaaGreatBsRpF

namespace Go.Proofs.YtckdofhcifdpmaaGreat
set_option linter.unusedSimpArgs false
set_option linter.unusedVariables false
set_option maxRecDepth 100000
open Go.RowKit
/- Layer 11: Crash. -/
theorem IsSto.butT {w w' : World} {B p q : Nat} {va vp : Value} {St : Page.St} {cs : Array Value} {t : TypeId} {fr : Nat × Nat} (h : IsSto w B p va vp St) (hq : w.heap[q]? = some (.cells cs t fr)) (h1 : t ≠ 128) (h2 : t ≠ 5) (h3 : t ≠ 3) (hb : But q w w') : IsSto w' B p va vp St :=
  ⟨(hb.block p h.lt (fun e => by subst e; rw [h.heap] at hq; injection hq with hq; injection hq with _ e _; exact h1 e.symm)).trans h.heap, rowBut h.all (rowBeside h.all hq h2) hb, rowBut h.places (rowBeside h.places hq h3) hb, h.ok⟩
end Go.Proofs.YtckdofhcifdpmaaGreat
