/-
  Merged: Layer 12: a primary in memory: its block, its row of entries, their cuts, its map of what is known.
-/
import Derived.Test.YtnoeconcpgdjlaaBsEnt
import Derived.Test.YtnoeconcpgdjlaaBsLib
import Derived.Test.YtnoeconcpgdjlaaBsMath2
import Derived.Test.YtnoeconcpgdjlaaBsTerm

namespace Go.Proofs.Ytnoeconcpgdjlaa
set_option linter.unusedSimpArgs false
set_option linter.unusedVariables false
set_option maxRecDepth 100000
open Go.RowKit
/- Layer 12: a primary in memory: its block, its row of entries, their cuts, its map of what is known. -/
theorem int12_keyed : Maps.Keyed Try.prog 3 := Maps.int_keyed Try.underlying3
theorem int12_key {x : Int} (hx : (Lit.int .i64 x).wf = true) : keyOf Try.prog 3 (.int .i64 x) = some (.int .i64 x) := Maps.keyOf_int_mk Try.underlying3 hx
/-- What a map of numbers by node holds. -/
def known12 (l : List Int) (f : Int → Int) : List (Value × Value) := l.map fun n => (.int .i64 n, .int .i64 (f n))
theorem known12_keys (l : List Int) (f : Int → Int) : (known12 l f).map (·.1) = l.map (Value.int .i64) := by simp [known12]
theorem known12_mem {l : List Int} {f : Int → Int} {n : Int} (h : n ∈ l) : (Value.int .i64 n, Value.int .i64 (f n)) ∈ known12 l f := List.mem_map.2 ⟨n, h, rfl⟩
theorem known12_not {l : List Int} {f : Int → Int} {n : Int} (h : n ∉ l) : Value.int .i64 n ∉ (known12 l f).map (·.1) := fun hm => by
  rw [known12_keys] at hm
  obtain ⟨x, hx, he⟩ := List.mem_map.1 hm
  injection he with _ he
  exact h (he ▸ hx)
/-- The map with one number raised. -/
theorem known12_upd {l : List Int} (hn : l.Nodup) {f : Int → Int} {n k : Int} (h : n ∈ l) : ∃ m1 m2, known12 l f = m1 ++ (.int .i64 n, .int .i64 (f n)) :: m2 ∧ known12 l (Quo.upd f n k) = m1 ++ (.int .i64 n, .int .i64 (max (f n) k)) :: m2 := by
  obtain ⟨l1, l2, rfl⟩ := List.append_of_mem h
  have h1 := List.nodup_append.1 hn
  have h2 := List.nodup_cons.1 h1.2.1
  refine ⟨known12 l1 f, known12 l2 f, by simp [known12], ?_⟩
  have e : ∀ l' : List Int, n ∉ l' → known12 l' (Quo.upd f n k) = known12 l' f := fun l' hl => by
    unfold known12
    refine List.map_congr_left fun x hx => ?_
    have hne : x ≠ n := fun e => hl (by rw [← e]; exact hx)
    simp [Quo.upd, hne]
  have e1 := e l1 (fun hx => h1.2.2 n hx n (by simp) rfl)
  have e2 := e l2 h2.1
  unfold known12 at e1 e2 ⊢
  rw [List.map_append, List.map_cons, e1, e2]
  unfold Quo.upd
  rw [if_pos rfl]

/-- A primary's block, its row, its cuts, its map. -/
structure PrAt (w : World) (B x kb : Nat) (ev : Value) (es : List (Value × Ent.E)) (p : Quo.Pr) : Prop where
  heap : w.heap[x]? = some (.cells #[.int .i64 p.c.term, .int .i64 (p.c.shards.length : Nat), .int .i64 (Term.majority p.c : Nat), ev, .map (some kb), .bool p.is] 100 (0, 0))
  row : w.ownsRow B 74 6 ev es.length (entFlat es)
  ents : es.map (·.2) = p.l
  cuts : ∀ q ∈ es, RowN B w q.1 q.2.cut
  map : MapB Try.prog 3 w kb (known12 p.c.seqs p.f)
section
variable {w w' : World} {B x kb : Nat} {ev : Value} {es : List (Value × Ent.E)} {p : Quo.Pr}
theorem PrAt.lt (h : PrAt w B x kb ev es p) : x < w.heap.size := (Array.getElem?_eq_some_iff.1 h.heap).1
theorem PrAt.blocks (h : PrAt w B x kb ev es p) (h1 : w'.heap[x]? = w.heap[x]?) (h2 : w'.heap[kb]? = w.heap[kb]?) (h3 : ∀ k, ev.ownBlock = some k → w'.heap[k]? = w.heap[k]?) (h4 : ∀ q ∈ es, ∀ k, q.1.ownBlock = some k → w'.heap[k]? = w.heap[k]?) : PrAt w' B x kb ev es p :=
  ⟨h1.trans h.heap, rowOwn h.row h3, h.ents, fun q hq => (h.cuts q hq).blocks (h4 q hq), h.map.block h2⟩
theorem PrAt.ext (h : PrAt w B x kb ev es p) (hE : Ext w w') : PrAt w' B x kb ev es p :=
  h.blocks (hE.block _ h.lt) (hE.block _ h.map.lt) (fun k hk => hE.block k (h.row.lt k hk).2) (fun q hq k hk => hE.block k ((h.cuts q hq).lt k hk).2)
theorem PrAt.lower {B' : Nat} (h : PrAt w B x kb ev es p) (hB : B' ≤ B) : PrAt w B' x kb ev es p := ⟨h.heap, rowLower h.row hB, h.ents, fun q hq => (h.cuts q hq).lower hB, h.map⟩
theorem PrAt.len (h : PrAt w B x kb ev es p) : es.length = p.l.length := by
  have := congrArg List.length h.ents
  simpa using this
theorem PrAt.open (h : PrAt w B x kb ev es p) : ∃ a c, ev = .slice a es.length c ∧ es.length ≤ c ∧ c ≤ maxLen ∧ (a = none → c = 0) := by
  obtain ⟨a, c, e, h1, h2, h3, _⟩ := SlN.ofOwn h.row
  exact ⟨a, c, e, h1, h2, h3⟩
theorem PrAt.ints (h : PrAt w B x kb ev es p) : ∀ q ∈ es, Ints w q.1 q.2.cut := fun q hq => (h.cuts q hq).row.ints
theorem PrAt.entsAt (h : PrAt w B x kb ev es p) : Ents w ev p.l := by
  have := ents_of_flat h.ints (SlN.ofOwn h.row)
  rw [h.ents] at this
  exact this
end
/-- The blocks that a primary writes into: its own, its map's, its row's. -/
def own12 (x kb : Nat) (ev : Value) (k : Nat) : Prop := k = x ∨ k = kb ∨ ev.ownBlock = some k
/-- The blocks of its cuts, which nobody writes into. -/
def cuts12 (es : List (Value × Ent.E)) (k : Nat) : Prop := ∃ q ∈ es, q.1.ownBlock = some k
/-- A primary: S has just the blocks that it writes into, K those of its cuts. -/
structure IsPrS (w : World) (B : Nat) (S K : Nat → Prop) (x kb : Nat) (ev : Value) (es : List (Value × Ent.E)) (p : Quo.Pr) : Prop where
  x1 : B ≤ x
  k1 : B ≤ kb
  s : ∀ k, S k ↔ own12 x kb ev k
  kk : ∀ k, K k ↔ cuts12 es k
  at' : PrAt w B x kb ev es p
  ok : p.Ok
def IsPr (w : World) (B : Nat) (S K : Nat → Prop) (x : Nat) (p : Quo.Pr) : Prop := ∃ kb ev es, IsPrS w B S K x kb ev es p
section
variable {w w1 w' : World} {B x kb : Nat} {S K : Nat → Prop} {ev : Value} {es : List (Value × Ent.E)} {p p' : Quo.Pr}
theorem IsPrS.ext (h : IsPrS w B S K x kb ev es p) (hE : Ext w w') : IsPrS w' B S K x kb ev es p := ⟨h.x1, h.k1, h.s, h.kk, h.at'.ext hE, h.ok⟩
theorem IsPrS.lower {B' : Nat} (h : IsPrS w B S K x kb ev es p) (hB : B' ≤ B) : IsPrS w B' S K x kb ev es p := ⟨Nat.le_trans hB h.x1, Nat.le_trans hB h.k1, h.s, h.kk, h.at'.lower hB, h.ok⟩
theorem IsPrS.base (h : IsPrS w B S K x kb ev es p) : B ≤ w.heap.size := Nat.le_trans h.x1 (Nat.le_of_lt h.at'.lt)
theorem IsPrS.lenR (h : IsPrS w B S K x kb ev es p) : es.length = p.l.length := h.at'.len
theorem IsPrS.sx (h : IsPrS w B S K x kb ev es p) : S x := (h.s x).2 (.inl rfl)
theorem IsPrS.sk (h : IsPrS w B S K x kb ev es p) : S kb := (h.s kb).2 (.inr (.inl rfl))
theorem IsPrS.sr (h : IsPrS w B S K x kb ev es p) {k : Nat} (hk : ev.ownBlock = some k) : S k := (h.s k).2 (.inr (.inr hk))
theorem IsPrS.lt (h : IsPrS w B S K x kb ev es p) {k : Nat} (hk : S k) : B ≤ k ∧ k < w.heap.size := by
  rcases (h.s k).1 hk with rfl | rfl | e
  · exact ⟨h.x1, h.at'.lt⟩
  · exact ⟨h.k1, h.at'.map.lt⟩
  · exact h.at'.row.lt k e
theorem IsPrS.ltK (h : IsPrS w B S K x kb ev es p) {k : Nat} (hk : K k) : B ≤ k ∧ k < w.heap.size := by
  obtain ⟨q, hq, e⟩ := (h.kk k).1 hk
  exact (h.at'.cuts q hq).lt k e
/-- A block of ints is none that it writes into. -/
theorem IsPrS.ints (h : IsPrS w B S K x kb ev es p) {k : Nat} {cs : Array Value} {fr : Nat × Nat} (hk : w.heap[k]? = some (.cells cs 3 fr)) : ¬ S k := fun hs => by
  rcases (h.s k).1 hs with rfl | rfl | e
  · rw [h.at'.heap] at hk
    injection hk with hk
    injection hk with _ e _
    exact absurd e (by decide)
  · exact h.at'.map.no_cells hk
  · obtain ⟨cur, hc⟩ := ownAt h.at'.row e
    rw [hc] at hk
    injection hk with hk
    injection hk with _ e _
    exact absurd e (by decide)
theorem IsPrS.keep (h : IsPrS w B S K x kb ev es p) (hb : ∀ k, k < w.heap.size → S k ∨ K k → w'.heap[k]? = w.heap[k]?) : IsPrS w' B S K x kb ev es p :=
  ⟨h.x1, h.k1, h.s, h.kk, h.at'.blocks (hb _ h.at'.lt (.inl h.sx)) (hb _ h.at'.map.lt (.inl h.sk)) (fun k hk => hb k (h.at'.row.lt k hk).2 (.inl (h.sr hk))) (fun q hq k hk => hb k ((h.at'.cuts q hq).lt k hk).2 (.inr ((h.kk k).2 ⟨q, hq, hk⟩))), h.ok⟩
theorem IsPr.ext (h : IsPr w B S K x p) (hE : Ext w w') : IsPr w' B S K x p := by
  obtain ⟨kb, ev, es, h⟩ := h
  exact ⟨kb, ev, es, h.ext hE⟩
theorem IsPr.keep (h : IsPr w B S K x p) (hb : ∀ k, k < w.heap.size → S k ∨ K k → w'.heap[k]? = w.heap[k]?) : IsPr w' B S K x p := by
  obtain ⟨kb, ev, es, h⟩ := h
  exact ⟨kb, ev, es, h.keep hb⟩
theorem IsPr.ok (h : IsPr w B S K x p) : p.Ok := by
  obtain ⟨kb, ev, es, h⟩ := h
  exact h.ok
theorem IsPr.lt (h : IsPr w B S K x p) {k : Nat} (hk : S k) : B ≤ k ∧ k < w.heap.size := by
  obtain ⟨kb, ev, es, h⟩ := h
  exact h.lt hk
theorem IsPr.ltK (h : IsPr w B S K x p) {k : Nat} (hk : K k) : B ≤ k ∧ k < w.heap.size := by
  obtain ⟨kb, ev, es, h⟩ := h
  exact h.ltK hk
theorem IsPr.ints (h : IsPr w B S K x p) {k : Nat} {cs : Array Value} {fr : Nat × Nat} (hk : w.heap[k]? = some (.cells cs 3 fr)) : ¬ S k := by
  obtain ⟨kb, ev, es, h⟩ := h
  exact h.ints hk
end
/-- What a call on a primary leaves: its blocks, as far as they are old, are those that it had. -/
def LeavesPr (B : Nat) (S K : Nat → Prop) (x : Nat) (w : World) (p : Quo.Pr) (w' : World) : Prop := ∃ S' K', IsPr w' B S' K' x p ∧ TwS S w w' ∧ (∀ k, k < w.heap.size → S' k → S k) ∧ ∀ k, k < w.heap.size → K' k → K k
section
variable {w w0 w1 w' : World} {B x : Nat} {S K : Nat → Prop} {p p' : Quo.Pr}
theorem LeavesPr.refl (h : IsPr w B S K x p) (hE : Ext w w') : LeavesPr B S K x w p w' := ⟨S, K, h.ext hE, TwS.ext hE, fun _ _ h => h, fun _ _ h => h⟩
theorem LeavesPr.ext (h : LeavesPr B S K x w p w1) (hE : Ext w1 w') : LeavesPr B S K x w p w' := by
  obtain ⟨S', K', h1, h2, h3, h4⟩ := h
  exact ⟨S', K', h1.ext hE, h2.trans (TwS.ext hE), h3, h4⟩
theorem LeavesPr.since (hE : Ext w0 w) (h : LeavesPr B S K x w p w') : LeavesPr B S K x w0 p w' := by
  obtain ⟨S', K', h1, h2, h3, h4⟩ := h
  exact ⟨S', K', h1, (TwS.ext hE).trans h2, fun k hk => h3 k (Nat.lt_of_lt_of_le hk hE.size), fun k hk => h4 k (Nat.lt_of_lt_of_le hk hE.size)⟩
end
end Go.Proofs.Ytnoeconcpgdjlaa
