/-
  Merged: Layer 11: a call of a script.
-/
import Derived.Test.YtckdofhcifdpmaaGreatBsRpL

namespace Go.Proofs.YtckdofhcifdpmaaGreat
set_option linter.unusedSimpArgs false
set_option linter.unusedVariables false
set_option maxRecDepth 100000
open Go.RowKit
/- Layer 11: a call of a script. -/
namespace Rep
/-- A call of a script. -/
structure Op where
  kind : Int
  n : Int
  m : Msg.M
  is : Bool
end Rep
/-- A replica at a statement that began in the world W. -/
structure Seat11 (W : World) (S : Nat → Prop) (x : Nat) (r : Rep.Rp) (w : World) : Prop where
  rep : IsRep w W.heap.size S x r
  ext : Ext W w
  low : ∀ k, S k → W.heap.size ≤ k ∧ k < w.heap.size
section
variable {W w w' : World} {S : Nat → Prop} {x : Nat} {r r' : Rep.Rp}
theorem Seat11.extend (h : Seat11 W S x r w) (hE : Ext w w') : Seat11 W S x r w' := ⟨h.rep.ext hE, h.ext.trans hE, fun k hk => ⟨(h.low k hk).1, Nat.lt_of_lt_of_le (h.low k hk).2 hE.size⟩⟩
theorem Seat11.but {q : Nat} (h : Seat11 W S x r w) (hb : But q w w') (hq : ¬ S q) (hW : W.heap.size ≤ q) : Seat11 W S x r w' := by
  obtain ⟨p, va, vp, ev, es, hr⟩ := h.rep
  exact ⟨⟨p, va, vp, ev, es, hr.keep fun k hk hs => hb.block k hk (fun e => hq (e ▸ hs))⟩, Ext.newQ11 h.ext hW hb, fun k hk => ⟨(h.low k hk).1, Nat.lt_of_lt_of_le (h.low k hk).2 hb.size⟩⟩
theorem Seat11.new {q : Nat} (h : Seat11 W S x r w) (hq : w.heap.size ≤ q) : ¬ S q ∧ W.heap.size ≤ q := ⟨fun hs => by have := (h.low q hs).2; omega, Nat.le_trans h.ext.size hq⟩
/-- What a call leaves: a replica (perhaps another one), and what the caller has. -/
def Steps11 (W : World) (S : Nat → Prop) (w : World) (x' : Nat) (r' : Rep.Rp) (w' : World) : Prop := ∃ S', Seat11 W S' x' r' w' ∧ TwS S w w' ∧ ∀ k, k < w.heap.size → S' k → S k
theorem Seat11.step (h : Seat11 W S x r w) (hl : LeavesRep W.heap.size S x w r' w') : Steps11 W S w x r' w' := by
  obtain ⟨h1, h2⟩ := hl
  refine ⟨Later S w w', ⟨h1, ⟨h2.os.trans h.ext.os, h2.tape.trans h.ext.tape, h2.output.trans h.ext.output, Nat.le_trans h.ext.size h2.size, fun k hk => (h2.block k (Nat.lt_of_lt_of_le hk h.ext.size) (fun hs => by have := (h.low k hs).1; omega)).trans (h.ext.block k hk)⟩, fun k hk => ?_⟩, h2, fun k hk hs => hs.elim id (fun e => by omega)⟩
  rcases hk with hk | hk
  · exact ⟨(h.low k hk).1, Nat.lt_of_lt_of_le (h.low k hk).2 h2.size⟩
  · exact ⟨Nat.le_trans h.ext.size hk.1, hk.2⟩
theorem Steps11.refl (h : Seat11 W S x r w) (hE : Ext w w') : Steps11 W S w x r w' := ⟨S, h.extend hE, TwS.ext hE, fun _ _ h => h⟩
theorem Steps11.since {w1 : World} {x' : Nat} (h : Steps11 W S w1 x' r' w') (hE : Ext w w1) : Steps11 W S w x' r' w' := by
  obtain ⟨S', h1, h2, h3⟩ := h
  exact ⟨S', h1, (TwS.ext hE).trans h2, fun k hk => h3 k (Nat.lt_of_lt_of_le hk hE.size)⟩
/-- A block of the call's own is written last. -/
theorem Steps11.fill {w1 w9 : World} {q x' : Nat} (h : Steps11 W S w1 x' r' w') (hE : Ext w w1) (hq : w.heap.size ≤ q) (hq1 : q < w1.heap.size) (hW : W.heap.size ≤ q) (hS : ¬ S q) (hb : But q w' w9) : Steps11 W S w x' r' w9 := by
  obtain ⟨S', h1, h2, h3⟩ := h
  exact ⟨S', h1.but hb (fun hs => hS (h3 q hq1 hs)) hW, ((TwS.ext hE).trans h2).andThen (TwS.but (S := fun k => k = q) hb rfl) fun i hi e => by omega, fun k hk => h3 k (Nat.lt_of_lt_of_le hk hE.size)⟩
end
def opCells11 (o : Rep.Op) (rt et sv dv : Value) : Array Value := #[.int .i64 o.kind, .int .i64 o.n, .int .i64 o.m.kind, .int .i64 o.m.src, .int .i64 o.m.dst, .int .i64 o.m.term, .int .i64 o.m.shard, .int .i64 o.m.number, .bool o.m.is, .int .i64 o.m.reco.client, .int .i64 o.m.reco.number, rt, .string ⟨o.m.reco.data.toArray⟩, .int .i64 o.m.ent.number, .int .i64 o.m.ent.kind, et, .int .i64 o.m.ent.tag, .int .i64 o.m.ent.term, .int .i64 o.m.ent.pos, .int .i64 o.m.ballot, .int .i64 o.m.old, .int .i64 o.m.conf.term, sv, dv, .bool o.is]
/-- What a call's values read as. -/
structure IsOp11 (w : World) (o : Rep.Op) (rt et sv dv : Value) : Prop where
  hrt : Ints w rt o.m.reco.tags
  het : Ints w et o.m.ent.cut
  hsv : Ints w sv o.m.conf.seqs
  hdv : IRows w dv o.m.conf.shards
theorem IsOp11.below {w w' : World} {o : Rep.Op} {rt et sv dv : Value} (h : IsOp11 w o rt et sv dv) (hb : Below w.heap.size w w') : IsOp11 w' o rt et sv dv := ⟨h.hrt.below hb, h.het.below hb, h.hsv.below hb, h.hdv.below hb⟩
theorem IsOp11.slices {w : World} {o : Rep.Op} {rt et sv dv : Value} (h : IsOp11 w o rt et sv dv) : (∃ a n c, rt = .slice a n c) ∧ (∃ a n c, et = .slice a n c) ∧ (∃ a n c, sv = .slice a n c) ∧ (∃ a n c, dv = .slice a n c) := ⟨intsSlice h.hrt, intsSlice h.het, intsSlice h.hsv, irowsSlice h.hdv⟩
/-- A call's block. -/
def OpAt11 (w : World) (b : Nat) (o : Rep.Op) (rt et sv dv : Value) : Prop := w.heap[b]? = some (.cells (opCells11 o rt et sv dv) 58 (0, 0))
theorem opCells11_split (o : Rep.Op) (rt et sv dv : Value) : (opCells11 o rt et sv dv).toList = [.int .i64 o.kind, .int .i64 o.n] ++ ((msgCells o.m rt et sv dv).toList ++ [.bool o.is]) := rfl
theorem OpAt11.range {w : World} {b : Nat} {o : Rep.Op} {rt et sv dv : Value} (h : OpAt11 w b o rt et sv dv) : w.rangeAt b 2 (msgCells o.m rt et sv dv).toList := fun j v hj => by
  rw [cell_of_heap h, ← Array.getElem?_toList, opCells11_split, List.getElem?_append_right (by simp), List.getElem?_append_left (by have := (List.getElem?_eq_some_iff.1 hj).1; simpa using this)]
  simpa using hj
end Go.Proofs.YtckdofhcifdpmaaGreat
