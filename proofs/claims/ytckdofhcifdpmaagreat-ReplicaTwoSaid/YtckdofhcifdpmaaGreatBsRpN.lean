/-
  Merged: Layer 11: a row of calls, out of raw input.
-/
import Derived.Test.YtckdofhcifdpmaaGreatBsMsg
import Derived.Test.YtckdofhcifdpmaaGreatBsRpM
import Derived.Test.YtckdofhcifdpmaaGreatBsSg

namespace Go.Proofs.YtckdofhcifdpmaaGreat
set_option linter.unusedSimpArgs false
set_option linter.unusedVariables false
set_option maxRecDepth 100000
open Go.ChangeShapes Go.WideShapes Go.ChangeAt Go.RowKit
/- Layer 11: a row of calls, out of raw input; few. -/
/-- A call in the midst of a row. -/
def OpHere11 (w : World) (b off : Nat) (o : Rep.Op) : Prop := ∃ rt et sv dv, w.rangeAt b off (opCells11 o rt et sv dv).toList ∧ IsOp11 w o rt et sv dv
theorem OpHere11.below {w w' : World} {b off : Nat} {o : Rep.Op} (h : OpHere11 w b off o) (hb : Below w.heap.size w w') : OpHere11 w' b off o := by
  obtain ⟨rt, et, sv, dv, h1, h2⟩ := h
  exact ⟨rt, et, sv, dv, fun j v hj => (hb.cell (p := ⟨b, off + j, none⟩) (World.block_lt_of_cell? w _ (h1 j v hj))).trans (h1 j v hj), h2.below hb⟩
def Ops11 (w : World) (v : Value) (l : List Rep.Op) : Prop :=
  ∃ (a : Option Addr) (cap : Nat), v = .slice a l.length cap ∧ l.length ≤ cap ∧ cap ≤ maxLen ∧ (a = none → cap = 0) ∧ ∀ i (h : i < l.length), ∃ b off, a = some ⟨b, off, none⟩ ∧ OpHere11 w b (off + i * 25) l[i]
theorem Ops11.below {w w' : World} {v : Value} {l : List Rep.Op} (h : Ops11 w v l) (hb : Below w.heap.size w w') : Ops11 w' v l := by
  obtain ⟨a, cap, rfl, h1, h2, h4, h3⟩ := h
  refine ⟨a, cap, rfl, h1, h2, h4, fun i hi => ?_⟩
  obtain ⟨b, off, e, hc⟩ := h3 i hi
  exact ⟨b, off, e, hc.below hb⟩
theorem Ops11.len {w : World} {a : Option Addr} {n c : Nat} {l : List Rep.Op} (h : Ops11 w (.slice a n c) l) : n = l.length ∧ n ≤ c ∧ c ≤ 9223372036854775807 := by
  obtain ⟨_, _, e, h1, h2, _⟩ := h
  injection e with e1 e2 e3
  subst e3
  unfold maxLen at h2
  omega
theorem OpHere11.ld {w : World} {b off : Nat} {o : Rep.Op} {rt et sv dv : Value} (h : w.rangeAt b off (opCells11 o rt et sv dv).toList) : (Instr.loadAt 58 (.pointer (some ⟨b, off, none⟩))).run Tryz.prog w = .ok (.agg (opCells11 o rt et sv dv)) w :=
  run_loadAt_mid w b off 58 (opCells11 o rt et sv dv).toList _ h Tryz.underlying58 rfl (by kernel_rfl)
section
variable {H : Type} {enc : TypeId × Value → H} {w : World} {base : Nat} {spare : Nat → Bool} {held : Bool}
end

section
variable {ops : Array Oper} {rest : List Oper} {op : Oper} {a : Act} {w : World} {Q : Exit → Act → World → Prop}
end
theorem OpAt11.ld {w : World} {b : Nat} {o : Rep.Op} {rt et sv dv : Value} (h : OpAt11 w b o rt et sv dv) : (Instr.loadAt 58 (.pointer (some ⟨b, 0, none⟩))).run Tryz.prog w = .ok (.agg (opCells11 o rt et sv dv)) w :=
  OpHere11.ld (fun j v hj => by rw [cell_of_heap h, ← Array.getElem?_toList]; simpa using hj)
theorem Ops11.at {W : World} {a : Option Addr} {n c : Nat} {l : List Rep.Op} (h : Ops11 W (.slice a n c) l) (k : Nat) (hk : k < l.length) : ∃ b off a3 n3 c3 a4 n4 c4 a5 n5 c5 a6 n6 c6, a = some ⟨b, off, none⟩ ∧
    (∀ w', Below W.heap.size W w' → IsOp11 w' l[k] (.slice a3 n3 c3) (.slice a4 n4 c4) (.slice a5 n5 c5) (.slice a6 n6 c6)) ∧
    ∀ w', Below W.heap.size W w' → (Instr.loadAt 58 (.pointer (some ⟨b, off + k * 25, none⟩))).run Tryz.prog w' = .ok (.agg (opCells11 l[k] (.slice a3 n3 c3) (.slice a4 n4 c4) (.slice a5 n5 c5) (.slice a6 n6 c6))) w' := by
  obtain ⟨_, _, e', _, _, _, hc⟩ := h
  obtain ⟨b, off, rfl, rt, et, sv, dv, hr, ho⟩ := hc k hk
  injection e' with e1 e2 e3
  subst e1
  obtain ⟨⟨a3, n3, c3, rfl⟩, ⟨a4, n4, c4, rfl⟩, ⟨a5, n5, c5, rfl⟩, ⟨a6, n6, c6, rfl⟩⟩ := ho.slices
  exact ⟨b, off, a3, n3, c3, a4, n4, c4, a5, n5, c5, a6, n6, c6, rfl, fun w' hb => ho.below hb, fun w' hb => OpHere11.ld fun j v hj => (hb.cell (p := ⟨b, off + k * 25 + j, none⟩) (World.block_lt_of_cell? W _ (hr j v hj))).trans (hr j v hj)⟩
end Go.Proofs.YtckdofhcifdpmaaGreat
