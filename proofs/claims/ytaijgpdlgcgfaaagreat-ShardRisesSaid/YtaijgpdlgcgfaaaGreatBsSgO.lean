/-
  Merged: Layer 9: scripts of calls on a segment: as they lie in memory, out of what comes in, and whether they are few.
-/
import Derived.Test.YtaijgpdlgcgfaaaGreatBsPgO
import Derived.Test.YtaijgpdlgcgfaaaGreatBsRec
import Derived.Test.YtaijgpdlgcgfaaaGreatBsSgJ

namespace Go.Proofs.YtaijgpdlgcgfaaaGreat
set_option linter.unusedSimpArgs false
set_option linter.unusedVariables false
set_option maxRecDepth 100000
open Go.ChangeShapes Go.WideShapes Go.ChangeAt Go.RowKit
/- Layer 9: scripts of calls on a segment: as they lie in memory, out of what comes in, and whether they are few. -/
namespace Seg
end Seg

def OpHere9 (w : World) (b off : Nat) (o : Seg.Op) : Prop := ∃ t : Value, w.cell? ⟨b, off, none⟩ = some (.int .i64 o.kind) ∧ w.cell? ⟨b, off + 1, none⟩ = some (.int .i64 o.n) ∧ w.cell? ⟨b, off + 2, none⟩ = some (.int .i64 o.r.client) ∧ w.cell? ⟨b, off + 3, none⟩ = some (.int .i64 o.r.number) ∧ w.cell? ⟨b, off + 4, none⟩ = some t ∧ w.cell? ⟨b, off + 5, none⟩ = some (.string ⟨o.r.data.toArray⟩) ∧ w.cell? ⟨b, off + 6, none⟩ = some (.bool o.is) ∧ Ints w t o.r.tags
theorem OpHere9.below {w w' : World} {b off : Nat} {o : Seg.Op} (h : OpHere9 w b off o) (hb : Below w.heap.size w w') : OpHere9 w' b off o := by
  obtain ⟨t, h0, h1, h2, h3, h4, h5, h6, ht⟩ := h
  exact ⟨t, cell_below h0 hb, cell_below h1 hb, cell_below h2 hb, cell_below h3 hb, cell_below h4 hb, cell_below h5 hb, cell_below h6 hb, ht.below hb⟩
def Ops9 (w : World) (v : Value) (l : List Seg.Op) : Prop :=
  ∃ (a : Option Addr) (cap : Nat), v = .slice a l.length cap ∧ l.length ≤ cap ∧ cap ≤ maxLen ∧ (a = none → cap = 0) ∧ ∀ i (h : i < l.length), ∃ b off, a = some ⟨b, off, none⟩ ∧ OpHere9 w b (off + i * 7) l[i]
theorem Ops9.below {w w' : World} {v : Value} {l : List Seg.Op} (h : Ops9 w v l) (hb : Below w.heap.size w w') : Ops9 w' v l := by
  obtain ⟨a, cap, rfl, h1, h2, h4, h3⟩ := h
  refine ⟨a, cap, rfl, h1, h2, h4, fun i hi => ?_⟩
  obtain ⟨b, off, ha, ho⟩ := h3 i hi
  exact ⟨b, off, ha, ho.below hb⟩
theorem Ops9.len {w : World} {a : Option Addr} {n c : Nat} {l : List Seg.Op} (h : Ops9 w (.slice a n c) l) : n = l.length ∧ n ≤ c ∧ c ≤ 9223372036854775807 := by
  obtain ⟨a', c', e, h1, h2, _, _⟩ := h
  injection e with _ e2 e3
  subst e2 e3
  exact ⟨rfl, h1, h2⟩
section
variable {H : Type} {enc : TypeId × Value → H} {w : World} {base : Nat} {spare : Nat → Bool} {held : Bool}
end

end Go.Proofs.YtaijgpdlgcgfaaaGreat
