/-
  Merged: Layer 9: All.
-/
import Derived.Test.YtaijgpdlgcgfaaaGreatBsPgA
import Derived.Test.YtaijgpdlgcgfaaaGreatBsSgI

namespace Go.Proofs.YtaijgpdlgcgfaaaGreat
set_option linter.unusedSimpArgs false
set_option linter.unusedVariables false
set_option maxRecDepth 100000
open Go.RowKit
/- Layer 9: All. -/
theorem RowF.ext {B : Nat} {w w' : World} {v : Value} {l : List Int} (h : RowF B w v l) (hE : Ext w w') : RowF B w' v l := by
  obtain ⟨b, n, hb, h⟩ := h
  exact ⟨b, n, hb, rowExt h hE⟩
theorem RowF.but {B p : Nat} {w w' : World} {v : Value} {l : List Int} {cs : Array Value} {t : TypeId} {fr : Nat × Nat} (h : RowF B w v l) (hp : w.heap[p]? = some (.cells cs t fr)) (ht : t ≠ 3) (hB : But p w w') : RowF B w' v l := by
  obtain ⟨b, n, hb, h⟩ := h
  exact ⟨b, n, hb, rowBut h (rowBeside h hp ht) hB⟩
theorem RowF.lower {B B' : Nat} {w : World} {v : Value} {l : List Int} (h : RowF B w v l) (hB : B' ≤ B) : RowF B' w v l := by
  obtain ⟨b, n, hb, h⟩ := h
  exact ⟨b, n, Nat.le_trans hB hb, h⟩
/-- What All tells: records in blocks of their own. -/
structure OwnRecs (B : Nat) (w : World) (v : Value) (qs : List (Value × Rec.R)) : Prop where
  row : w.ownsRow B 27 4 v qs.length (recFlat qs)
  tags : ∀ q ∈ qs, RowF B w q.1 q.2.tags
theorem OwnRecs.recs {B : Nat} {w : World} {v : Value} {qs : List (Value × Rec.R)} (h : OwnRecs B w v qs) : Recs w v (qs.map (·.2)) := recs_of_flat (fun q hq => (h.tags q hq).row.ints) (SlN.ofOwn h.row)
theorem OwnRecs.ext {B : Nat} {w w' : World} {v : Value} {qs : List (Value × Rec.R)} (h : OwnRecs B w v qs) (hE : Ext w w') : OwnRecs B w' v qs := ⟨rowExt h.row hE, fun q hq => (h.tags q hq).ext hE⟩

end Go.Proofs.YtaijgpdlgcgfaaaGreat
