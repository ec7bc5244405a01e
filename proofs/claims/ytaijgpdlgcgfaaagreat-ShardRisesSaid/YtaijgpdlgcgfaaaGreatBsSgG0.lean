/-
  Merged: Layer 9: a segment with its store.
-/
import Derived.Test.YtaijgpdlgcgfaaaGreatBsSgF

namespace Go.Proofs.YtaijgpdlgcgfaaaGreat
set_option linter.unusedSimpArgs false
set_option linter.unusedVariables false
set_option maxRecDepth 100000
open Go.RowKit
/- Layer 9: a segment with its store. -/
/-- Blocks below B, and from U on, stay. -/
structure Twixt (B U : Nat) (w w' : World) : Prop where
  os : w'.os = w.os
  tape : w'.tape = w.tape
  output : w'.output = w.output
  size : w.heap.size ≤ w'.heap.size
  block : ∀ k, k < w.heap.size → k < B ∨ U ≤ k → w'.heap[k]? = w.heap[k]?
theorem Twixt.ext {B U : Nat} {w w' : World} (h : Ext w w') : Twixt B U w w' := ⟨h.os, h.tape, h.output, h.size, fun k hk _ => h.block k hk⟩
theorem Twixt.trans {B U : Nat} {a b c : World} (h : Twixt B U a b) (k : Twixt B U b c) : Twixt B U a c := ⟨k.os.trans h.os, k.tape.trans h.tape, k.output.trans h.output, Nat.le_trans h.size k.size, fun i hi hu => (k.block i (Nat.lt_of_lt_of_le hi h.size) hu).trans (h.block i hi hu)⟩
theorem Twixt.below {B U : Nat} {w w' : World} (h : Twixt B U w w') (hB : B ≤ w.heap.size) : Below B w w' := ⟨h.os, h.tape, h.output, h.size, fun k hk => h.block k (by omega) (.inl hk)⟩
theorem Twixt.but {B U p : Nat} {w w' : World} (h : But p w w') (h1 : B ≤ p) (h2 : p < U) : Twixt B U w w' := ⟨h.os, h.tape, h.output, h.size, fun k hk hu => h.block k hk (by omega)⟩
theorem Twixt.grown {B U : Nat} {w w' : World} {o : Option Nat} (h : w.grownBy w' o) (ho : ∀ k, o = some k → B ≤ k ∧ k < U) : Twixt B U w w' := ⟨h.os, h.tape, h.output, h.size, fun k hk hu => h.block k hk (fun e => by have := ho k e.symm; omega)⟩

/-- A segment and its store, in blocks from B on, of those that are turned none from U on. -/
structure IsSegB (w : World) (B U g p : Nat) (va vp lv : Value) (ps : List (Value × Rec.R)) (G : Seg.Sg) : Prop where
  g1 : B ≤ g
  g2 : g < U
  p1 : B ≤ p
  p2 : p < U
  ua : ∀ k, va.ownBlock = some k → k < U
  up : ∀ k, vp.ownBlock = some k → k < U
  ul : ∀ k, lv.ownBlock = some k → k < U
  sto : IsSto w B p va vp G.s
  seg : SegAt w B g p vp lv ps G.w G.safe G.w.broken
def IsSeg (w : World) (B U g p : Nat) (G : Seg.Sg) : Prop := ∃ va vp lv ps, IsSegB w B U g p va vp lv ps G
section
variable {w w' : World} {B U g p : Nat} {va vp lv : Value} {ps : List (Value × Rec.R)} {G : Seg.Sg}
theorem IsSegB.ext (h : IsSegB w B U g p va vp lv ps G) (hE : Ext w w') : IsSegB w' B U g p va vp lv ps G := ⟨h.g1, h.g2, h.p1, h.p2, h.ua, h.up, h.ul, h.sto.ext hE, h.seg.ext hE⟩
theorem IsSeg.ext (h : IsSeg w B U g p G) (hE : Ext w w') : IsSeg w' B U g p G := by
  obtain ⟨va, vp, lv, ps, h⟩ := h
  exact ⟨va, vp, lv, ps, h.ext hE⟩
theorem IsSegB.full (h : IsSegB w B U g p va vp lv ps G) : IsSegB w B w.heap.size g p va vp lv ps G := ⟨h.g1, h.seg.lt, h.p1, h.sto.lt, fun k hk => (h.sto.all.lt k hk).2, fun k hk => (h.sto.places.lt k hk).2, fun k hk => (h.seg.row.lt k hk).2, h.sto, h.seg⟩
theorem IsSeg.full (h : IsSeg w B U g p G) : IsSeg w B w.heap.size g p G := by
  obtain ⟨va, vp, lv, ps, h⟩ := h
  exact ⟨va, vp, lv, ps, h.full⟩
theorem IsSeg.of (h1 : B ≤ g) (h2 : B ≤ p) (hs : IsSto w B p va vp G.s) (hg : SegAt w B g p vp lv ps G.w G.safe G.w.broken) : IsSeg w B w.heap.size g p G := ⟨va, vp, lv, ps, h1, hg.lt, h2, hs.lt, fun k hk => (hs.all.lt k hk).2, fun k hk => (hs.places.lt k hk).2, fun k hk => (hg.row.lt k hk).2, hs, hg⟩
theorem IsSegB.good (h : IsSegB w B U g p va vp lv ps G) : G.w.trimmed ≤ G.w.l.length ∧ G.w.l.length ≤ 13107 := ⟨G.trimmed_le, Seg.Sg.Ok.count h.sto.ok⟩
theorem IsSegB.appended {w' : World} {va' vp' : Value} {b : List UInt8} (h : IsSegB w B U g p va vp lv ps G) (hA : Appended w B p va vp G.s b w' va' vp') : Twixt B U w w' :=
  ⟨hA.os, hA.tape, hA.output, hA.size, fun k hk hu => hA.block k hk (by have := h.p1; have := h.p2; omega) (fun e => by have := (h.sto.all.lt k e.symm).1; have := h.ua k e.symm; omega) (fun e => by have := (h.sto.places.lt k e.symm).1; have := h.up k e.symm; omega)⟩
end
theorem IsSto.keep9 {a b : World} {B p : Nat} {va vp : Value} {S : Page.St} (h : IsSto a B p va vp S) (hk : Keep9 a b) : IsSto b B p va vp S :=
  ⟨(hk.2 p _ _ _ h.heap (by decide) (by decide)).trans h.heap, hk.row h.all (by decide) (by decide), hk.row h.places (by decide) (by decide), h.ok⟩
/-- Blocks of types that neither a store nor a segment writes into stay. -/
def K9 (w w' : World) : Prop := w.heap.size ≤ w'.heap.size ∧ ∀ (k : Nat) (cs : Array Value) (t : TypeId) (fr : Nat × Nat), w.heap[k]? = some (.cells cs t fr) → t ≠ 177 → t ≠ 27 → t ≠ 145 → t ≠ 5 → t ≠ 3 → w'.heap[k]? = w.heap[k]?
theorem K9.ext {a b : World} (h : Ext a b) : K9 a b := ⟨h.size, fun k _ _ _ hk _ _ _ _ _ => h.block k (Array.getElem?_eq_some_iff.1 hk).1⟩
theorem K9.trans {a b c : World} (h : K9 a b) (g : K9 b c) : K9 a c := ⟨Nat.le_trans h.1 g.1, fun k cs t fr hk h1 h2 h3 h4 h5 => (g.2 k cs t fr ((h.2 k cs t fr hk h1 h2 h3 h4 h5).trans hk) h1 h2 h3 h4 h5).trans (h.2 k cs t fr hk h1 h2 h3 h4 h5)⟩
theorem Keep9.k9 {a b : World} (h : Keep9 a b) : K9 a b := ⟨h.1, fun k cs t fr hk h1 h2 _ _ _ => h.2 k cs t fr hk h1 h2⟩
theorem K9.sto {a b : World} {B p : Nat} {va vp : Value} {S : Page.St} (hb : But p a b) (hs : IsSto a B p va vp S) : K9 a b := ⟨hb.size, fun k cs t fr hk _ _ h3 _ _ => hb.block k (Array.getElem?_eq_some_iff.1 hk).1 (fun e => by subst e; rw [hs.heap] at hk; injection hk with hk; injection hk with _ e _; exact h3 e.symm)⟩
theorem K9.app {w w' : World} {B p : Nat} {va vp va' vp' : Value} {S : Page.St} {b : List UInt8} (hA : Appended w B p va vp S b w' va' vp') (hs : IsSto w B p va vp S) : K9 w w' := ⟨hA.size, fun k cs t fr hk _ _ h3 h4 h5 => hA.block k (Array.getElem?_eq_some_iff.1 hk).1 (fun e => by subst e; rw [hs.heap] at hk; injection hk with hk; injection hk with _ e _; exact h3 e.symm) (rowBeside hs.all hk h4) (rowBeside hs.places hk h5)⟩
/-- All blocks but those of a set stay. -/
structure TwS (S : Nat → Prop) (w w' : World) : Prop where
  os : w'.os = w.os
  tape : w'.tape = w.tape
  output : w'.output = w.output
  size : w.heap.size ≤ w'.heap.size
  block : ∀ k, k < w.heap.size → ¬ S k → w'.heap[k]? = w.heap[k]?
section
variable {S : Nat → Prop} {a b c w w' : World}
theorem TwS.ext (h : Ext w w') : TwS S w w' := ⟨h.os, h.tape, h.output, h.size, fun k hk _ => h.block k hk⟩
theorem TwS.trans (h : TwS S a b) (k : TwS S b c) : TwS S a c := ⟨k.os.trans h.os, k.tape.trans h.tape, k.output.trans h.output, Nat.le_trans h.size k.size, fun i hi hu => (k.block i (Nat.lt_of_lt_of_le hi h.size) hu).trans (h.block i hi hu)⟩
theorem TwS.but {p : Nat} (h : But p w w') (h1 : S p) : TwS S w w' := ⟨h.os, h.tape, h.output, h.size, fun k hk hu => h.block k hk (fun e => hu (e ▸ h1))⟩
theorem TwS.grown {o : Option Nat} (h : w.grownBy w' o) (ho : ∀ k, o = some k → S k) : TwS S w w' := ⟨h.os, h.tape, h.output, h.size, fun k hk hu => h.block k hk (fun e => hu (ho k e.symm))⟩
end
/-- A segment and its store, of which each block is of a set S. -/
structure IsSegS (w : World) (B : Nat) (S : Nat → Prop) (g p : Nat) (va vp lv : Value) (ps : List (Value × Rec.R)) (G : Seg.Sg) : Prop where
  g1 : B ≤ g
  g2 : S g
  p1 : B ≤ p
  p2 : S p
  ua : ∀ k, va.ownBlock = some k → S k
  up : ∀ k, vp.ownBlock = some k → S k
  ul : ∀ k, lv.ownBlock = some k → S k
  sto : IsSto w B p va vp G.s
  seg : SegAt w B g p vp lv ps G.w G.safe G.w.broken
/-- A set, and what is new. -/
def Later (S : Nat → Prop) (w w' : World) (k : Nat) : Prop := S k ∨ (w.heap.size ≤ k ∧ k < w'.heap.size)
section
variable {w w' : World} {B g p : Nat} {S : Nat → Prop} {va vp lv va' vp' lv' : Value} {ps ps' : List (Value × Rec.R)} {G G' : Seg.Sg}
theorem IsSegS.ext (h : IsSegS w B S g p va vp lv ps G) (hE : Ext w w') : IsSegS w' B S g p va vp lv ps G := ⟨h.g1, h.g2, h.p1, h.p2, h.ua, h.up, h.ul, h.sto.ext hE, h.seg.ext hE⟩
theorem IsSegS.wider {S' : Nat → Prop} (h : IsSegS w B S g p va vp lv ps G) (hS : ∀ k, S k → S' k) : IsSegS w B S' g p va vp lv ps G := ⟨h.g1, hS _ h.g2, h.p1, hS _ h.p2, fun k hk => hS _ (h.ua k hk), fun k hk => hS _ (h.up k hk), fun k hk => hS _ (h.ul k hk), h.sto, h.seg⟩
theorem IsSegS.good (h : IsSegS w B S g p va vp lv ps G) : G.w.trimmed ≤ G.w.l.length ∧ G.w.l.length ≤ 13107 := ⟨G.trimmed_le, Seg.Sg.Ok.count h.sto.ok⟩
theorem IsSegS.base (h : IsSegS w B S g p va vp lv ps G) : B ≤ w.heap.size := Nat.le_trans h.g1 (Nat.le_of_lt h.seg.lt)
theorem IsSegS.full (h : IsSegS w B S g p va vp lv ps G) : IsSeg w B w.heap.size g p G := IsSeg.of h.g1 h.p1 h.sto h.seg
theorem IsSegS.appended {b : List UInt8} (h : IsSegS w B S g p va vp lv ps G) (hA : Appended w B p va vp G.s b w' va' vp') : TwS S w w' :=
  ⟨hA.os, hA.tape, hA.output, hA.size, fun k hk hu => hA.block k hk (fun e => hu (e ▸ h.p2)) (fun e => hu (h.ua k e.symm)) (fun e => hu (h.up k e.symm))⟩
/-- An own row is the old one, or new. -/
def OrNew (w : World) (v v' : Value) : Prop := ∀ k, v'.ownBlock = some k → v.ownBlock = some k ∨ w.heap.size ≤ k
theorem OrNew.refl (w : World) (v : Value) : OrNew w v v := fun _ h => .inl h
theorem OrNew.same {v v' : Value} (h : v'.ownBlock = v.ownBlock) : OrNew w v v' := fun _ hk => .inl (h ▸ hk)
theorem OrNew.of {w1 : World} {v v' : Value} (hs : w.heap.size ≤ w1.heap.size) (h : v' = v ∨ v'.ownBlock = v.ownBlock ∨ ∀ k, v'.ownBlock = some k → w1.heap.size ≤ k) : OrNew w v v' := fun k hk => by
  rcases h with h | h | h
  · exact .inl (h ▸ hk)
  · exact .inl (h ▸ hk)
  · exact .inr (Nat.le_trans hs (h k hk))
theorem IsSegS.of (h : IsSegS w B S g p va vp lv ps G) (hsto : IsSto w' B p va' vp' G'.s) (hseg : SegAt w' B g p vp' lv' ps' G'.w G'.safe G'.w.broken) (ha : OrNew w va va') (hp : OrNew w vp vp') (hl : OrNew w lv lv') : IsSegS w' B (Later S w w') g p va' vp' lv' ps' G' :=
  ⟨h.g1, .inl h.g2, h.p1, .inl h.p2, fun k hk => (ha k hk).elim (fun e => .inl (h.ua k e)) (fun e => .inr ⟨e, (hsto.all.lt k hk).2⟩), fun k hk => (hp k hk).elim (fun e => .inl (h.up k e)) (fun e => .inr ⟨e, (hsto.places.lt k hk).2⟩), fun k hk => (hl k hk).elim (fun e => .inl (h.ul k e)) (fun e => .inr ⟨e, (hseg.row.lt k hk).2⟩), hsto, hseg⟩
theorem IsSegS.later (h : IsSegS w B S g p va vp lv ps G) (hE : Ext w w') : IsSegS w' B (Later S w w') g p va vp lv ps G := (h.ext hE).wider fun _ hk => .inl hk
end
/-- The tags' rows are the old ones, or new. -/
def TagsNew (w : World) (ps ps' : List (Value × Rec.R)) : Prop := ∀ q ∈ ps', ∀ k, q.1.ownBlock = some k → (∃ r ∈ ps, r.1.ownBlock = some k) ∨ w.heap.size ≤ k
theorem TagsNew.refl (w : World) (ps : List (Value × Rec.R)) : TagsNew w ps ps := fun q hq k hk => .inl ⟨q, hq, hk⟩
theorem TagsNew.drop (w : World) (ps : List (Value × Rec.R)) (n : Nat) : TagsNew w ps (ps.drop n) := fun q hq k hk => .inl ⟨q, List.mem_of_mem_drop hq, hk⟩
theorem TagsNew.snoc {w : World} {ps : List (Value × Rec.R)} {t : Value} {r : Rec.R} (h : ∀ k, t.ownBlock = some k → w.heap.size ≤ k) : TagsNew w ps (ps ++ [(t, r)]) := fun q hq k hk =>
  (List.mem_append.1 hq).elim (fun e => .inl ⟨q, e, hk⟩) (fun e => by obtain rfl := List.mem_singleton.1 e; exact .inr (h k hk))
theorem TagsNew.fresh {w : World} {ps ps' : List (Value × Rec.R)} {C : Nat} (hC : w.heap.size ≤ C) (h : ∀ q ∈ ps', ∀ k, q.1.ownBlock = some k → C ≤ k) : TagsNew w ps ps' := fun q hq k hk => .inr (Nat.le_trans hC (h q hq k hk))
/-- What a call on a segment leaves, by the set of its blocks. -/
def GivesSegS (B : Nat) (S : Nat → Prop) (g p : Nat) (ps0 : List (Value × Rec.R)) (w : World) (G : Seg.Sg) (err : Int) (e : Ending) (w' : World) : Prop := e = .returned (.int .i64 err) ∧ (∃ va vp lv ps, IsSegS w' B (Later S w w') g p va vp lv ps G ∧ TagsNew w ps0 ps) ∧ TwS S w w' ∧ K9 w w'
end Go.Proofs.YtaijgpdlgcgfaaaGreat
