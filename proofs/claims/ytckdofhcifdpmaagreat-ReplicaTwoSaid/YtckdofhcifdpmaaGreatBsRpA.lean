/-
  Merged: Layer 11: a replica in memory: its block, its store, its row of entries, their cuts.
-/
import Derived.Test.YtckdofhcifdpmaaGreatBsEnt
import Derived.Test.YtckdofhcifdpmaaGreatBsRpRead
import Derived.Test.YtckdofhcifdpmaaGreatBsSg

namespace Go.Proofs.YtckdofhcifdpmaaGreat
set_option linter.unusedSimpArgs false
set_option linter.unusedVariables false
set_option maxRecDepth 100000
open Go.RowKit
/- Layer 11: a replica in memory: its block, its store, its row of entries, their cuts. -/
/-- A replica's block: whose, of which term, the store, the entries, whether it is sealed. -/
structure RepAt (w : World) (B x p : Nat) (vp ev : Value) (es : List (Value × Ent.E)) (id term : Int) (W : Rep.What) : Prop where
  heap : w.heap[x]? = some (.cells #[.int .i64 id, .int .i64 term, .pointer (some ⟨p, 0, none⟩), ev, .bool W.sealed] 135 (0, 0))
  row : w.ownsRow B 77 6 ev es.length (entFlat es)
  ents : es.map (·.2) = W.l
  cuts : ∀ q ∈ es, TagI w vp q.1 q.2.cut
  low : ∀ q ∈ es, ∀ k, q.1.ownBlock = some k → B ≤ k
section
variable {w w' : World} {B x p : Nat} {vp ev : Value} {es : List (Value × Ent.E)} {id term : Int} {W : Rep.What}
theorem RepAt.lt (h : RepAt w B x p vp ev es id term W) : x < w.heap.size := (Array.getElem?_eq_some_iff.1 h.heap).1
theorem RepAt.ext (h : RepAt w B x p vp ev es id term W) (hE : Ext w w') : RepAt w' B x p vp ev es id term W := ⟨heap_ext h.heap hE, rowExt h.row hE, h.ents, fun q hq => (h.cuts q hq).ext hE, h.low⟩
theorem RepAt.butT {q : Nat} {cs : Array Value} {t : TypeId} {fr : Nat × Nat} (h : RepAt w B x p vp ev es id term W) (hq : w.heap[q]? = some (.cells cs t fr)) (h1 : t ≠ 135) (h2 : t ≠ 77) (h3 : t ≠ 3) (hb : But q w w') : RepAt w' B x p vp ev es id term W :=
  ⟨(hb.block x h.lt (fun e => by subst e; rw [h.heap] at hq; injection hq with hq; injection hq with _ e _; exact h1 e.symm)).trans h.heap, rowBut h.row (rowBeside h.row hq h2) hb, h.ents, fun q' hq' => (h.cuts q' hq').butT hq h3 hb, h.low⟩
theorem RepAt.lower {B' : Nat} (h : RepAt w B x p vp ev es id term W) (hB : B' ≤ B) : RepAt w B' x p vp ev es id term W := ⟨h.heap, rowLower h.row hB, h.ents, h.cuts, fun q hq k hk => Nat.le_trans hB (h.low q hq k hk)⟩
theorem RepAt.len (h : RepAt w B x p vp ev es id term W) : es.length = W.l.length := by
  have := congrArg List.length h.ents
  simpa using this
theorem RepAt.open (h : RepAt w B x p vp ev es id term W) : ∃ a c, ev = .slice a es.length c ∧ es.length ≤ c ∧ c ≤ maxLen ∧ (a = none → c = 0) := by
  obtain ⟨a, c, e, h1, h2, h3, _⟩ := SlN.ofOwn h.row
  exact ⟨a, c, e, h1, h2, h3⟩
theorem RepAt.ints (h : RepAt w B x p vp ev es id term W) : ∀ q ∈ es, Ints w q.1 q.2.cut := fun q hq => (h.cuts q hq).1.ints
theorem RepAt.one (h : RepAt w B x p vp ev es id term W) : ∀ y ∈ entFlat es, y.oneCell' = true := entFlat_one h.ints
theorem RepAt.entsAt (h : RepAt w B x p vp ev es id term W) : Ents w ev W.l := by
  have := ents_of_flat h.ints (SlN.ofOwn h.row)
  rw [h.ents] at this
  exact this
theorem RepAt.blocks (h : RepAt w B x p vp ev es id term W) (h1 : w'.heap[x]? = w.heap[x]?) (h2 : ∀ k, ev.ownBlock = some k → w'.heap[k]? = w.heap[k]?) (h3 : ∀ q ∈ es, ∀ k, q.1.ownBlock = some k → w'.heap[k]? = w.heap[k]?) : RepAt w' B x p vp ev es id term W :=
  ⟨h1.trans h.heap, rowOwn h.row h2, h.ents, fun q hq => ⟨(h.cuts q hq).1.same (h3 q hq), (h.cuts q hq).2⟩, h.low⟩
/-- The store is appended to. -/
theorem RepAt.app {va va' vp' : Value} {S : Page.St} {b : List UInt8} (h : RepAt w B x p vp ev es id term W) (hs : IsSto w B p va vp S) (hA : Appended w B p va vp S b w' va' vp') : RepAt w' B x p vp' ev es id term W := by
  have hne : ∀ {k : Nat} {cs : Array Value} {t : TypeId} {fr : Nat × Nat}, w.heap[k]? = some (.cells cs t fr) → t ≠ 128 → k ≠ p := fun hk ht e => by
    subst e; rw [hs.heap] at hk; injection hk with hk; injection hk with _ e _; exact ht e.symm
  refine ⟨(hA.block x h.lt (hne h.heap (by decide)) (rowBeside hs.all h.heap (by decide)) (rowBeside hs.places h.heap (by decide))).trans h.heap, rowOwn h.row fun k hk => ?_, h.ents, fun q hq => ⟨(h.cuts q hq).1.same fun k hk => ?_, fun k hk e => ?_⟩, h.low⟩
  · obtain ⟨cur, hc⟩ := ownAt h.row hk
    exact hA.block k (h.row.lt k hk).2 (hne hc (by decide)) (rowBeside hs.all hc (by decide)) (rowBeside hs.places hc (by decide))
  · obtain ⟨cur, hc⟩ := (h.cuts q hq).1.at hk
    exact hA.block k (Array.getElem?_eq_some_iff.1 hc).1 (hne hc (by decide)) (rowBeside hs.all hc (by decide)) (fun e => (h.cuts q hq).2 k hk e.symm)
  · obtain ⟨cur, hc⟩ := (h.cuts q hq).1.at hk
    have hlt := (Array.getElem?_eq_some_iff.1 hc).1
    rcases hA.newP with hn | hn | hn
    · rw [hn] at e; exact (h.cuts q hq).2 k hk e
    · rw [hn] at e; exact (h.cuts q hq).2 k hk e
    · have := hn k e
      omega
end

/-- A replica, all of whose blocks are in S. -/
structure IsRepS (w : World) (B : Nat) (S : Nat → Prop) (x p : Nat) (va vp ev : Value) (es : List (Value × Ent.E)) (r : Rep.Rp) : Prop where
  x1 : B ≤ x
  x2 : S x
  p1 : B ≤ p
  p2 : S p
  ua : ∀ k, va.ownBlock = some k → S k
  up : ∀ k, vp.ownBlock = some k → S k
  ue : ∀ k, ev.ownBlock = some k → S k
  tags : ∀ q ∈ es, ∀ k, q.1.ownBlock = some k → S k
  sto : IsSto w B p va vp r.s
  at' : RepAt w B x p vp ev es r.id r.term r.w
  ok : r.Ok
def IsRep (w : World) (B : Nat) (S : Nat → Prop) (x : Nat) (r : Rep.Rp) : Prop := ∃ p va vp ev es, IsRepS w B S x p va vp ev es r
section
variable {w w1 w' : World} {B x p : Nat} {S : Nat → Prop} {va vp ev va' vp' ev' : Value} {es es' : List (Value × Ent.E)} {r r' : Rep.Rp}
theorem IsRepS.ext (h : IsRepS w B S x p va vp ev es r) (hE : Ext w w') : IsRepS w' B S x p va vp ev es r := ⟨h.x1, h.x2, h.p1, h.p2, h.ua, h.up, h.ue, h.tags, h.sto.ext hE, h.at'.ext hE, h.ok⟩
theorem IsRepS.wider {S' : Nat → Prop} (h : IsRepS w B S x p va vp ev es r) (hS : ∀ k, k < w.heap.size → S k → S' k) : IsRepS w B S' x p va vp ev es r :=
  ⟨h.x1, hS _ h.at'.lt h.x2, h.p1, hS _ h.sto.lt h.p2, fun k hk => hS _ (h.sto.all.lt k hk).2 (h.ua k hk), fun k hk => hS _ (h.sto.places.lt k hk).2 (h.up k hk), fun k hk => hS _ (h.at'.row.lt k hk).2 (h.ue k hk), fun q hq k hk => hS _ (by
    obtain ⟨cur, hc⟩ := (h.at'.cuts q hq).1.at hk
    exact (Array.getElem?_eq_some_iff.1 hc).1) (h.tags q hq k hk), h.sto, h.at', h.ok⟩
theorem IsRepS.lower {B' : Nat} (h : IsRepS w B S x p va vp ev es r) (hB : B' ≤ B) : IsRepS w B' S x p va vp ev es r := ⟨Nat.le_trans hB h.x1, h.x2, Nat.le_trans hB h.p1, h.p2, h.ua, h.up, h.ue, h.tags, h.sto.lower hB, h.at'.lower hB, h.ok⟩
theorem IsRepS.base (h : IsRepS w B S x p va vp ev es r) : B ≤ w.heap.size := Nat.le_trans h.x1 (Nat.le_of_lt h.at'.lt)
theorem IsRepS.lenR (h : IsRepS w B S x p va vp ev es r) : es.length = r.w.l.length := h.at'.len
/-- What is elsewhere is turned. -/
theorem IsRepS.keep (h : IsRepS w B S x p va vp ev es r) (hb : ∀ k, k < w.heap.size → S k → w'.heap[k]? = w.heap[k]?) : IsRepS w' B S x p va vp ev es r := by
  refine ⟨h.x1, h.x2, h.p1, h.p2, h.ua, h.up, h.ue, h.tags, ?_, ?_, h.ok⟩
  · exact ⟨(hb _ h.sto.lt h.p2).trans h.sto.heap, rowOwn h.sto.all fun k hk => hb k (h.sto.all.lt k hk).2 (h.ua k hk), rowOwn h.sto.places fun k hk => hb k (h.sto.places.lt k hk).2 (h.up k hk), h.sto.ok⟩
  · exact h.at'.blocks (hb _ h.at'.lt h.x2) (fun k hk => hb k (h.at'.row.lt k hk).2 (h.ue k hk)) (fun q hq k hk => hb k (by
      obtain ⟨cur, hc⟩ := (h.at'.cuts q hq).1.at hk
      exact (Array.getElem?_eq_some_iff.1 hc).1) (h.tags q hq k hk))
theorem IsRepS.tws {T : Nat → Prop} (h : IsRepS w B S x p va vp ev es r) (ht : TwS T w w') (hT : ∀ k, k < w.heap.size → S k → ¬ T k) : IsRepS w' B S x p va vp ev es r :=
  h.keep fun k hk hs => ht.block k hk (hT k hk hs)
/-- The store's block alone was turned, or its rows. -/
theorem IsRepS.appended {b : List UInt8} (h : IsRepS w B S x p va vp ev es r) (hA : Appended w B p va vp r.s b w' va' vp') : TwS S w w' :=
  ⟨hA.os, hA.tape, hA.output, hA.size, fun k hk hu => hA.block k hk (fun e => hu (e ▸ h.p2)) (fun e => hu (h.ua k e.symm)) (fun e => hu (h.up k e.symm))⟩
/-- The row of entries is written behind what it has, or copied. -/
theorem IsRepS.grown (h : IsRepS w B S x p va vp ev es r) (hg : w.grownBy w' ev.ownBlock) (hr : w'.ownsRow B 77 6 ev es.length (entFlat es)) : IsRepS w' B S x p va vp ev es r := by
  have hne : ∀ {k : Nat} {cs : Array Value} {T : TypeId} {fr : Nat × Nat}, w.heap[k]? = some (.cells cs T fr) → T ≠ 77 → w'.heap[k]? = w.heap[k]? := fun hk hT => hg.block _ (Array.getElem?_eq_some_iff.1 hk).1 (rowBeside h.at'.row hk hT)
  refine ⟨h.x1, h.x2, h.p1, h.p2, h.ua, h.up, h.ue, h.tags, ⟨(hne h.sto.heap (by decide)).trans h.sto.heap, rowOwn h.sto.all fun k hk => ?_, rowOwn h.sto.places fun k hk => ?_, h.sto.ok⟩, ⟨(hne h.at'.heap (by decide)).trans h.at'.heap, hr, h.at'.ents, fun q hq => ⟨(h.at'.cuts q hq).1.same fun k hk => ?_, (h.at'.cuts q hq).2⟩, h.at'.low⟩, h.ok⟩
  · obtain ⟨cur, hc⟩ := ownAt h.sto.all hk
    exact hne hc (by decide)
  · obtain ⟨cur, hc⟩ := ownAt h.sto.places hk
    exact hne hc (by decide)
  · obtain ⟨cur, hc⟩ := (h.at'.cuts q hq).1.at hk
    exact hne hc (by decide)
/-- A row of entries beside the store, which is appended to. -/
theorem rowApp {B' n : Nat} {v : Value} {xs : List Value} {b : List UInt8} {St : Page.St} (hs : IsSto w B p va vp St) (hA : Appended w B p va vp St b w' va' vp') (hr : w.ownsRow B' 77 6 v n xs) : w'.ownsRow B' 77 6 v n xs := rowOwn hr fun k hk => by
  obtain ⟨cur, hc⟩ := ownAt hr hk
  exact hA.block k (hr.lt k hk).2 (fun e => by subst e; rw [hs.heap] at hc; injection hc with hc; injection hc with _ e _; exact absurd e (by decide)) (rowBeside hs.all hc (by decide)) (rowBeside hs.places hc (by decide))
end
/-- What a call on a replica leaves. -/
def LeavesRep (B : Nat) (S : Nat → Prop) (x : Nat) (w : World) (r : Rep.Rp) (w' : World) : Prop := IsRep w' B (Later S w w') x r ∧ TwS S w w'
theorem LeavesRep.refl {B x p : Nat} {S : Nat → Prop} {w w' : World} {va vp ev : Value} {es : List (Value × Ent.E)} {r : Rep.Rp} (h : IsRepS w B S x p va vp ev es r) (hE : Ext w w') : LeavesRep B S x w r w' :=
  ⟨⟨p, va, vp, ev, es, (h.ext hE).wider fun k _ hk => .inl hk⟩, TwS.ext hE⟩
theorem LeavesRep.ext {B x : Nat} {S : Nat → Prop} {w w1 w' : World} {r : Rep.Rp} (h : LeavesRep B S x w r w1) (hE : Ext w1 w') : LeavesRep B S x w r w' := by
  obtain ⟨⟨p, va, vp, ev, es, h1⟩, h2⟩ := h
  exact ⟨⟨p, va, vp, ev, es, (h1.ext hE).wider fun k _ hk => hk.elim .inl (fun e => .inr ⟨e.1, Nat.lt_of_lt_of_le e.2 hE.size⟩)⟩, h2.trans (TwS.ext hE)⟩
theorem LeavesRep.since {B x : Nat} {S : Nat → Prop} {w0 w w' : World} {r : Rep.Rp} (hE : Ext w0 w) (h : LeavesRep B S x w r w') : LeavesRep B S x w0 r w' := by
  obtain ⟨⟨p, va, vp, ev, es, h1⟩, h2⟩ := h
  exact ⟨⟨p, va, vp, ev, es, h1.wider fun k _ hk => hk.elim .inl (fun e => .inr ⟨Nat.le_trans hE.size e.1, e.2⟩)⟩, (TwS.ext hE).trans h2⟩
theorem LeavesRep.then {B x : Nat} {S : Nat → Prop} {w w1 w' : World} {r r' : Rep.Rp} (h : LeavesRep B S x w r w1) (k : LeavesRep B (Later S w w1) x w1 r' w') : LeavesRep B S x w r' w' := by
  obtain ⟨⟨p, va, vp, ev, es, h1⟩, h2⟩ := k
  exact ⟨⟨p, va, vp, ev, es, h1.wider fun k _ hk => later_of h.2.size h2.size hk⟩, later_tws h.2 h2⟩
/-- An append to an own row of elements of many cells, which may be forgotten: the old row reads as it did. -/
theorem run_appN_keep {P : Program} {w : World} {t ty e : TypeId} {z : Value} {size bytes : Nat} (E : ElemN P t e z size bytes) {base : Nat} {v u : Value} {n m : Nat} {xs ys : List Value} (hown : w.ownsRow base e size v n xs) (hu : SlN size w u m ys) (hm : 0 < m) (h1 : ∀ y ∈ ys, y.oneCell' = true) (hsz : n + m ≤ maxLen) (hby : (n + m) * bytes ≤ 140737488355328) (hb : base ≤ w.heap.size) :
    ∃ v' w', (Builtin.append_ #[t, t] ty #[v, u]).run P w = .ok v' w' ∧ w'.ownsRow base e size v' (n + m) (xs ++ ys) ∧ w.grownBy w' v.ownBlock ∧ (∀ k, v'.ownBlock = some k → v.ownBlock = some k ∨ w.heap.size ≤ k) ∧ w'.ownsRow base e size v n xs := by
  obtain ⟨i, hi, hz, h2, h3⟩ := info_parts E.info
  rcases hown.2 with ⟨rfl, hn0⟩ | ⟨g, cap, cur, rfl, _⟩
  · obtain ⟨v', w', hr, ho, hg, hat⟩ := run_appN_at (ty := ty) E hown hu hm h1 hsz hby hb
    refine ⟨v', w', hr, ho, hg, fun k hk => ?_, ⟨hown.1, .inl ⟨rfl, hn0⟩⟩⟩
    rcases hat with hat | hat
    · exact .inl (hat ▸ hk)
    · rw [hat] at hk
      injection hk with hk
      exact .inr (by omega)
  · obtain ⟨a, c, rfl, hc, hmx, hn, hlen, hcell⟩ := hu
    obtain ⟨b, off, rfl, _⟩ := hcell 0 (by rw [hlen]; exact Nat.mul_pos hm E.pos)
    have hcs : ∀ j y, ys[j]? = some y → w.cell? ((⟨b, off, none⟩ : Addr).add j) = some y := fun j y hj => by
      obtain ⟨hj1, rfl⟩ := List.getElem?_eq_some_iff.1 hj
      obtain ⟨b', off', e', hc'⟩ := hcell j hj1
      injection e' with e'
      injection e' with e1 e2
      subst e1 e2
      rw [Addr.add_lit]; exact hc'
    by_cases hroom : n + m ≤ cap
    · obtain ⟨w', hr, ho, hg⟩ := run_append_fits (P := P) w base t ty e i size E.slice hi h2 g n cap xs hown ⟨b, off, none⟩ m c ys hlen hcs h1 hroom
      refine ⟨_, w', hr, ho, hg, fun k hk => .inl hk, ?_⟩
      have := ownCutN ho n (by omega)
      rw [← hown.1, List.take_left] at this
      exact this
    · obtain ⟨v', w', hr, ho, hg⟩ := run_append_arg_grows (P := P) w t ty e i z size bytes E.slice hi hz h2 h3 E.cells E.pos ⟨g, 0, none⟩ n cap xs hown.1 (hown.cells (g := g) rfl) ⟨b, off, none⟩ m c ys hlen hcs (by omega) hsz hby
      refine ⟨v', w', hr, rowLower ho hb, ⟨hg.os, hg.tape, hg.output, hg.size, fun k hk _ => hg.block k hk (by simp)⟩, fun k hk => .inr (ho.lt k hk).1, rowOwn hown fun k hk => hg.block k (hown.lt k hk).2 (by simp)⟩
end Go.Proofs.YtckdofhcifdpmaaGreat
