import Derived.Test.YtnoeconcpgdjlaaGreatBsPgF
namespace Go.Proofs.YtnoeconcpgdjlaaGreat
set_option linter.unusedSimpArgs false
set_option linter.unusedVariables false
set_option maxRecDepth 100000
open Go.RowKit
structure Alike (a b : World) : Prop where
 heap : b.heap = a.heap
 os : b.os = a.os
 tape : b.tape = a.tape
 output : b.output = a.output
theorem Alike.refl (a : World) : Alike a a := ⟨rfl, rfl, rfl, rfl⟩
theorem Alike.ext {a b : World} (h : Alike a b) : Ext a b := ⟨h.os, h.tape, h.output, by rw [h.heap]; exact Nat.le_refl _, fun k _ => by rw [h.heap]⟩
theorem TB.alike {a b : World} {q : Nat} (h : TB a q) (k : Alike a b) : TB b q := h.ext k.ext
def BelowU (B : Nat) (a b : World) : Prop := Below B a b /\ KeepU a b
theorem BelowU.ext {B : Nat} {a b : World} (h : Ext a b) (hB : B <= a.heap.size) : BelowU B a b := ⟨h.mono hB, KeepU.ext h⟩
def readState (B : Nat) (k : Nat) (w : World) : Prop := B <= w.heap.size /\ (k = 0 -> w.heap.size = B) /\ (k = 1 -> TB w B)
theorem readState.alike {B k : Nat} {a b : World} (h : Alike a b) (hs : readState B k a) : readState B k b := by
 obtain ⟨h1, h2, h3⟩ := hs
 refine ⟨by rw [h.heap]; exact h1, fun e => by rw [h.heap]; exact h2 e, fun e => (h3 e).alike h⟩
theorem zbi {a b : World} {q : Addr} {v : Value} (h : a.cell? q = some v) (hb : Below a.heap.size a b) : b.cell? q = some v := zbk h hb
end Go.Proofs.YtnoeconcpgdjlaaGreat
