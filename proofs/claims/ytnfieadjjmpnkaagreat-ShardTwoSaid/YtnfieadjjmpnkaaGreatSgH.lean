/-
  Merged: Layer 9: Trim.
-/
import Derived.Test.YtnfieadjjmpnkaaGreatSgG0

namespace Go.Proofs.YtnfieadjjmpnkaaGreat
set_option linter.unusedSimpArgs false
set_option linter.unusedVariables false
set_option maxRecDepth 100000
open Go.RowKit
/- Layer 9: Trim. -/
section
variable {w w' : World} {B U g p : Nat} {va vp lv : Value} {ps : List (Value × Rec.R)} {G : Seg.Sg}
theorem IsSegB.base (h : IsSegB w B U g p va vp lv ps G) (hU : U ≤ w.heap.size) : B ≤ w.heap.size := by have := h.g1; have := h.g2; omega
theorem IsSegS.len_any {S : Nat → Prop} (h : IsSegS w B S g p va vp lv ps G) (hE : Ext w w') : Calls Tryz.prog 93 #[.pointer (some ⟨g, 0, none⟩)] w' fun e w'' => e = .returned (.int .i64 (G.len : Nat)) ∧ Ext w' w'' :=
  seglen_any (h.seg.ext hE) h.good.1 (Nat.le_trans h.good.2 (by omega))
theorem IsSegB.len_any (h : IsSegB w B U g p va vp lv ps G) (hE : Ext w w') : Calls Tryz.prog 93 #[.pointer (some ⟨g, 0, none⟩)] w' fun e w'' => e = .returned (.int .i64 (G.len : Nat)) ∧ Ext w' w'' :=
  seglen_any (h.seg.ext hE) h.good.1 (Nat.le_trans h.good.2 (by omega))
end

end Go.Proofs.YtnfieadjjmpnkaaGreat
