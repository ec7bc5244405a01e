import Derived.Test.YtnoeconcpgdjlaaGreatBsPgW
namespace Go.Proofs.YtnoeconcpgdjlaaGreat
set_option linter.unusedSimpArgs false
set_option linter.unusedVariables false
set_option maxRecDepth 100000
open Go.ChangeShapes Go.WideShapes Go.ChangeAt Go.RowKit
namespace Page
structure Op where
 kind : Int
 n : Int
 b : List UInt8
 is : Bool
def Op.Fits (o : Op) : Prop := (-9223372036854775808 <= o.n /\ o.n <= 9223372036854775807) /\ o.b.length <= 140737488351232
end Page
def OpHere (w : World) (b off : Nat) (o : Page.Op) : Prop := ∃ t : Value, w.cell? ⟨b, off, none⟩ = some (.int .i64 o.kind) /\ w.cell? ⟨b, off + 1, none⟩ = some (.int .i64 o.n) /\ w.cell? ⟨b, off + 2, none⟩ = some t /\ w.cell? ⟨b, off + 3, none⟩ = some (.bool o.is) /\ Bytes w t o.b
theorem OpHere.below {w w' : World} {b off : Nat} {o : Page.Op} (h : OpHere w b off o) (hb : Below w.heap.size w w') : OpHere w' b off o := by
 obtain ⟨t, h0, h1, h2, h3, h4⟩ := h
 exact ⟨t, zbi h0 hb, zbi h1 hb, zbi h2 hb, zbi h3 hb, h4.below hb⟩
def Ops (w : World) (v : Value) (l : List Page.Op) : Prop :=
 ∃ (a : Option Addr) (cap : Nat), v = .slice a l.length cap /\ l.length <= cap /\ cap <= maxLen /\ (a = none -> cap = 0) /\ ∀ i (h : i < l.length), ∃ b off, a = some ⟨b, off, none⟩ /\ OpHere w b (off + i * 4) l[i]
theorem Ops.below {w w' : World} {v : Value} {l : List Page.Op} (h : Ops w v l) (hb : Below w.heap.size w w') : Ops w' v l := by
 obtain ⟨a, cap, rfl, h1, h2, h4, h3⟩ := h
 refine ⟨a, cap, rfl, h1, h2, h4, fun i hi => ?_⟩
 obtain ⟨b, off, e, hc⟩ := h3 i hi
 exact ⟨b, off, e, hc.below hb⟩
theorem Ops.len {w : World} {a : Option Addr} {n c : Nat} {l : List Page.Op} (h : Ops w (.slice a n c) l) : n = l.length /\ n <= c /\ c <= 9223372036854775807 := by
 obtain ⟨_, _, e, h1, h2, _⟩ := h
 injection e with e1 e2 e3
 subst e3
 unfold maxLen at h2
 omega
section
variable {H : Type} {enc : TypeId × Value -> H} {w : World} {base : Nat} {spare : Nat -> Bool} {held : Bool}
end
end Go.Proofs.YtnoeconcpgdjlaaGreat
