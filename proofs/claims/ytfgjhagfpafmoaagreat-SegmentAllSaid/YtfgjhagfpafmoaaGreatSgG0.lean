/-
  Merged: Layer 9: a segment with its store.
-/
import Derived.Test.YtfgjhagfpafmoaaGreatSgF

namespace Go.Proofs.YtfgjhagfpafmoaaGreat
set_option linter.unusedSimpArgs false
set_option linter.unusedVariables false
set_option maxRecDepth 100000
open Go.RowKit
/- Layer 9: a segment with its store. -/
/-- Blocks below B, and from U on, stay. -/
structure Twixt (B U : Nat) (w w' : World) : Prop where
  os : w'.os = w.os
  tape : w'.tape = w.tape
  output : w'.output = w.output
  size : w.heap.size ≤ w'.heap.size
  block : ∀ k, k < w.heap.size → k < B ∨ U ≤ k → w'.heap[k]? = w.heap[k]?
theorem Twixt.ext {B U : Nat} {w w' : World} (h : Ext w w') : Twixt B U w w' := ⟨h.os, h.tape, h.output, h.size, fun k hk _ => h.block k hk⟩
theorem Twixt.trans {B U : Nat} {a b c : World} (h : Twixt B U a b) (k : Twixt B U b c) : Twixt B U a c := ⟨k.os.trans h.os, k.tape.trans h.tape, k.output.trans h.output, Nat.le_trans h.size k.size, fun i hi hu => (k.block i (Nat.lt_of_lt_of_le hi h.size) hu).trans (h.block i hi hu)⟩
theorem Twixt.below {B U : Nat} {w w' : World} (h : Twixt B U w w') (hB : B ≤ w.heap.size) : Below B w w' := ⟨h.os, h.tape, h.output, h.size, fun k hk => h.block k (by omega) (.inl hk)⟩
theorem Twixt.but {B U p : Nat} {w w' : World} (h : But p w w') (h1 : B ≤ p) (h2 : p < U) : Twixt B U w w' := ⟨h.os, h.tape, h.output, h.size, fun k hk hu => h.block k hk (by omega)⟩
theorem Twixt.grown {B U : Nat} {w w' : World} {o : Option Nat} (h : w.grownBy w' o) (ho : ∀ k, o = some k → B ≤ k ∧ k < U) : Twixt B U w w' := ⟨h.os, h.tape, h.output, h.size, fun k hk hu => h.block k hk (fun e => by have := ho k e.symm; omega)⟩

/-- A segment and its store, in blocks from B on, of those that are turned none from U on. -/
structure IsSegB (w : World) (B U g p : Nat) (va vp lv : Value) (ps : List (Value × Rec.R)) (G : Seg.Sg) : Prop where
  g1 : B ≤ g
  g2 : g < U
  p1 : B ≤ p
  p2 : p < U
  ua : ∀ k, va.ownBlock = some k → k < U
  up : ∀ k, vp.ownBlock = some k → k < U
  ul : ∀ k, lv.ownBlock = some k → k < U
  sto : IsSto w B p va vp G.s
  seg : SegAt w B g p vp lv ps G.w G.safe G.w.broken
def IsSeg (w : World) (B U g p : Nat) (G : Seg.Sg) : Prop := ∃ va vp lv ps, IsSegB w B U g p va vp lv ps G
section
variable {w w' : World} {B U g p : Nat} {va vp lv : Value} {ps : List (Value × Rec.R)} {G : Seg.Sg}
theorem IsSegB.ext (h : IsSegB w B U g p va vp lv ps G) (hE : Ext w w') : IsSegB w' B U g p va vp lv ps G := ⟨h.g1, h.g2, h.p1, h.p2, h.ua, h.up, h.ul, h.sto.ext hE, h.seg.ext hE⟩
theorem IsSeg.ext (h : IsSeg w B U g p G) (hE : Ext w w') : IsSeg w' B U g p G := by
  obtain ⟨va, vp, lv, ps, h⟩ := h
  exact ⟨va, vp, lv, ps, h.ext hE⟩
theorem IsSegB.full (h : IsSegB w B U g p va vp lv ps G) : IsSegB w B w.heap.size g p va vp lv ps G := ⟨h.g1, h.seg.lt, h.p1, h.sto.lt, fun k hk => (h.sto.all.lt k hk).2, fun k hk => (h.sto.places.lt k hk).2, fun k hk => (h.seg.row.lt k hk).2, h.sto, h.seg⟩
theorem IsSeg.full (h : IsSeg w B U g p G) : IsSeg w B w.heap.size g p G := by
  obtain ⟨va, vp, lv, ps, h⟩ := h
  exact ⟨va, vp, lv, ps, h.full⟩
theorem IsSeg.of (h1 : B ≤ g) (h2 : B ≤ p) (hs : IsSto w B p va vp G.s) (hg : SegAt w B g p vp lv ps G.w G.safe G.w.broken) : IsSeg w B w.heap.size g p G := ⟨va, vp, lv, ps, h1, hg.lt, h2, hs.lt, fun k hk => (hs.all.lt k hk).2, fun k hk => (hs.places.lt k hk).2, fun k hk => (hg.row.lt k hk).2, hs, hg⟩
theorem IsSegB.good (h : IsSegB w B U g p va vp lv ps G) : G.w.trimmed ≤ G.w.l.length ∧ G.w.l.length ≤ 13107 := ⟨G.trimmed_le, Seg.Sg.Ok.count h.sto.ok⟩
theorem IsSegB.appended {w' : World} {va' vp' : Value} {b : List UInt8} (h : IsSegB w B U g p va vp lv ps G) (hA : Appended w B p va vp G.s b w' va' vp') : Twixt B U w w' :=
  ⟨hA.os, hA.tape, hA.output, hA.size, fun k hk hu => hA.block k hk (by have := h.p1; have := h.p2; omega) (fun e => by have := (h.sto.all.lt k e.symm).1; have := h.ua k e.symm; omega) (fun e => by have := (h.sto.places.lt k e.symm).1; have := h.up k e.symm; omega)⟩
end
theorem IsSto.keep9 {a b : World} {B p : Nat} {va vp : Value} {S : Page.St} (h : IsSto a B p va vp S) (hk : Keep9 a b) : IsSto b B p va vp S :=
  ⟨(hk.2 p _ _ _ h.heap (by decide) (by decide)).trans h.heap, hk.row h.all (by decide) (by decide), hk.row h.places (by decide) (by decide), h.ok⟩
/-- Blocks of types that neither a store nor a segment writes into stay. -/
def K9 (w w' : World) : Prop := w.heap.size ≤ w'.heap.size ∧ ∀ (k : Nat) (cs : Array Value) (t : TypeId) (fr : Nat × Nat), w.heap[k]? = some (.cells cs t fr) → t ≠ 144 → t ≠ 44 → t ≠ 141 → t ≠ 5 → t ≠ 3 → w'.heap[k]? = w.heap[k]?
theorem K9.ext {a b : World} (h : Ext a b) : K9 a b := ⟨h.size, fun k _ _ _ hk _ _ _ _ _ => h.block k (Array.getElem?_eq_some_iff.1 hk).1⟩
theorem K9.trans {a b c : World} (h : K9 a b) (g : K9 b c) : K9 a c := ⟨Nat.le_trans h.1 g.1, fun k cs t fr hk h1 h2 h3 h4 h5 => (g.2 k cs t fr ((h.2 k cs t fr hk h1 h2 h3 h4 h5).trans hk) h1 h2 h3 h4 h5).trans (h.2 k cs t fr hk h1 h2 h3 h4 h5)⟩
theorem Keep9.k9 {a b : World} (h : Keep9 a b) : K9 a b := ⟨h.1, fun k cs t fr hk h1 h2 _ _ _ => h.2 k cs t fr hk h1 h2⟩
theorem K9.sto {a b : World} {B p : Nat} {va vp : Value} {S : Page.St} (hb : But p a b) (hs : IsSto a B p va vp S) : K9 a b := ⟨hb.size, fun k cs t fr hk _ _ h3 _ _ => hb.block k (Array.getElem?_eq_some_iff.1 hk).1 (fun e => by subst e; rw [hs.heap] at hk; injection hk with hk; injection hk with _ e _; exact h3 e.symm)⟩
theorem K9.app {w w' : World} {B p : Nat} {va vp va' vp' : Value} {S : Page.St} {b : List UInt8} (hA : Appended w B p va vp S b w' va' vp') (hs : IsSto w B p va vp S) : K9 w w' := ⟨hA.size, fun k cs t fr hk _ _ h3 h4 h5 => hA.block k (Array.getElem?_eq_some_iff.1 hk).1 (fun e => by subst e; rw [hs.heap] at hk; injection hk with hk; injection hk with _ e _; exact h3 e.symm) (rowBeside hs.all hk h4) (rowBeside hs.places hk h5)⟩
/-- What a call on a segment leaves. -/
def GivesSeg (B U g p : Nat) (w : World) (G : Seg.Sg) (err : Int) (e : Ending) (w' : World) : Prop := e = .returned (.int .i64 err) ∧ IsSeg w' B w'.heap.size g p G ∧ Twixt B U w w' ∧ K9 w w'
end Go.Proofs.YtfgjhagfpafmoaaGreat
