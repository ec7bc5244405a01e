/-
  Merged: Layer 12: a primary at a statement.
-/
import Derived.Test.YtnoeconcpgdjlaaBsCrcLaw
import Derived.Test.YtnoeconcpgdjlaaBsQuO

namespace Go.Proofs.Ytnoeconcpgdjlaa
set_option linter.unusedSimpArgs false
set_option linter.unusedVariables false
set_option maxRecDepth 100000
open Go.RowKit
/- Layer 12: a primary at a statement. -/
/-- A primary at a statement that began in the world W. -/
structure Seat12 (W : World) (S K : Nat → Prop) (x : Nat) (p : Quo.Pr) (w : World) : Prop where
  pr : IsPr w W.heap.size S K x p
  ext : Ext W w
section
variable {W w w' : World} {S K : Nat → Prop} {x : Nat} {p p' : Quo.Pr}
theorem Seat12.extend (h : Seat12 W S K x p w) (hE : Ext w w') : Seat12 W S K x p w' := ⟨h.pr.ext hE, h.ext.trans hE⟩
theorem Seat12.step (h : Seat12 W S K x p w) (hl : LeavesPr W.heap.size S K x w p' w') : ∃ S' K', Seat12 W S' K' x p' w' ∧ TwS S w w' ∧ (∀ k, k < w.heap.size → S' k → S k) ∧ ∀ k, k < w.heap.size → K' k → K k := by
  obtain ⟨S', K', h1, h2, h3, h4⟩ := hl
  exact ⟨S', K', ⟨h1, extOf12 h.ext h2 (fun k hk => (h.pr.lt hk).1)⟩, h2, h3, h4⟩
theorem Seat12.but {q : Nat} (h : Seat12 W S K x p w) (hb : But q w w') (hW : W.heap.size ≤ q) (hq : ¬ S q) (hk : ¬ K q) : Seat12 W S K x p w' :=
  ⟨h.pr.keep fun k _ hs => hb.block k (by assumption) (fun e => by subst e; exact hs.elim hq hk), Ext.newQ11 h.ext hW hb⟩
theorem Seat12.new {q : Nat} (h : Seat12 W S K x p w) (hq : w.heap.size ≤ q) : W.heap.size ≤ q ∧ ¬ S q ∧ ¬ K q := ⟨Nat.le_trans h.ext.size hq, fun e => by have := (h.pr.lt e).2; omega, fun e => by have := (h.pr.ltK e).2; omega⟩
theorem Seat12.begun {w1 : World} (hE : Ext W w1) (h : IsPr w' w1.heap.size S K x p) (hE2 : Ext w1 w') : Seat12 W S K x p w' := ⟨h.lower12 hE.size, hE.trans hE2⟩
end
end Go.Proofs.Ytnoeconcpgdjlaa
