/-
  Merged: Layer 5: an entry out of what comes in; Layer 5: what Decode leaves of what was encoded; Layer 5: what Decode leaves of what was encoded; Layer 5: entries, rows of entries and of places, out of what comes in.
-/
import Derived.Test.YtckdofhcifdpmaaGreatRows
import Derived.Test.YtckdofhcifdpmaaGreatChecked
import Derived.SizedLaws
import Derived.Test.YtckdofhcifdpmaaGreatBsEnt
import Derived.Test.YtckdofhcifdpmaaGreatBsPack2
import Derived.Test.YtckdofhcifdpmaaGreatBsVec

namespace Go.Proofs.YtckdofhcifdpmaaGreat
set_option linter.unusedSimpArgs false
set_option linter.unusedVariables false
set_option maxRecDepth 100000
open Go.ChangeShapes Go.WideShapes Go.ChangeAt Go.RowKit
/- Layer 5: an entry out of what comes in. -/
section
variable {H : Type} {enc : TypeId × Value → H} {w : World} {base : Nat} {spare : Nat → Bool} {held : Bool}

theorem sixOf {α : Type} {l : List α} (h : l.length = 6) : ∃ a b c d e f, l = [a, b, c, d, e, f] := by
  match l, h with
  | [a, b, c, d, e, f], _ => exact ⟨a, b, c, d, e, f, rfl⟩
theorem fiveOf {α : Type} {l : List α} (h : l.length = 5) : ∃ a b c d e, l = [a, b, c, d, e] := by
  match l, h with
  | [a, b, c, d, e], _ => exact ⟨a, b, c, d, e, rfl⟩
theorem twoOf {α : Type} {l : List α} (h : l.length = 2) : ∃ a b, l = [a, b] := by
  match l, h with
  | [a, b], _ => exact ⟨a, b, rfl⟩
set_option maxRecDepth 100000 in
theorem seqOfRaw {fuel : Nat} {cs : List Value} {x : DataW H × List MemPlace} (h : DataW.trod enc Tryz.prog w base spare held fuel 52 cs = some x) : ∃ c n : Int, cs = [.int .i64 c, .int .i64 n] := by
  obtain ⟨xs, n, _, rfl, hl, hlen, hf⟩ := DataW.trod_struct Tryz.underlying52 h
  have hc : Tryz.prog.cellsOf 52 = 2 := by kernel_rfl
  have hi : Tryz.prog.cellsOf 3 = 1 := by kernel_rfl
  rw [hc] at hl
  obtain ⟨c0, c1, rfl⟩ := twoOf hl
  obtain ⟨y0, y1, rfl⟩ := twoOf hlen
  have f0 := hf 0 _ rfl
  have f1 := hf 1 _ rfl
  simp only [hi, List.drop_zero, List.drop_succ_cons, List.take_succ_cons, List.take_zero, List.getElem?_cons_zero, List.getElem?_cons_succ] at f0 f1
  obtain ⟨n0, e0, _, _⟩ := DataW.trod_int Tryz.underlying3 f0
  obtain ⟨n1, e1, _, _⟩ := DataW.trod_int Tryz.underlying3 f1
  injection e0 with e0 _
  injection e1 with e1 _
  subst e0 e1
  exact ⟨n0, n1, rfl⟩
set_option maxRecDepth 100000 in
theorem ent_of_raw {fuel : Nat} {cs : List Value} {x : DataW H × List MemPlace} (h : DataW.trod enc Tryz.prog w base spare held fuel 54 cs = some x) :
    ∃ (t : Value) (e : Ent.E), cs = [.int .i64 e.number, .int .i64 e.kind, t, .int .i64 e.tag, .int .i64 e.term, .int .i64 e.pos] ∧ Ints w t e.cut := by
  obtain ⟨xs, n, _, rfl, hl, hlen, hf⟩ := DataW.trod_struct Tryz.underlying54 h
  have hc : Tryz.prog.cellsOf 54 = 6 := by kernel_rfl
  have hd : Tryz.prog.cellsOf 52 = 2 := by kernel_rfl
  have hi : Tryz.prog.cellsOf 3 = 1 := by kernel_rfl
  have hii : Tryz.prog.cellsOf 22 = 1 := by kernel_rfl
  rw [hc] at hl
  obtain ⟨c0, c1, c2, c3, c4, c5, rfl⟩ := sixOf hl
  obtain ⟨y0, y1, y2, y3, y4, rfl⟩ := fiveOf hlen
  have f0 := hf 0 _ rfl
  have f1 := hf 1 _ rfl
  have f2 := hf 2 _ rfl
  have f3 := hf 3 _ rfl
  have f4 := hf 4 _ rfl
  simp only [hd, hi, hii, List.drop_zero, List.drop_succ_cons, List.take_succ_cons, List.take_zero, List.getElem?_cons_zero, List.getElem?_cons_succ] at f0 f1 f2 f3 f4
  obtain ⟨n0, e0, _, _⟩ := DataW.trod_int Tryz.underlying3 f0
  obtain ⟨n1, e1, _, _⟩ := DataW.trod_int Tryz.underlying3 f1
  obtain ⟨v, l, e2, hv⟩ := ints_of_raw Tryz.underlying22 Tryz.underlying3 hi f2
  obtain ⟨n3, e3, _, _⟩ := DataW.trod_int Tryz.underlying3 f3
  obtain ⟨n4, n5, e4⟩ := seqOfRaw f4
  injection e0 with e0 _
  injection e1 with e1 _
  injection e2 with e2 _
  injection e3 with e3 _
  injection e4 with e40 e4
  injection e4 with e41 _
  subst e0 e1 e2 e3 e40 e41
  exact ⟨_, ⟨n0, n1, l, n3, n4, n5⟩, rfl, hv⟩
end
end Go.Proofs.YtckdofhcifdpmaaGreat

namespace Go.Proofs.YtckdofhcifdpmaaGreat
set_option linter.unusedSimpArgs false
set_option linter.unusedVariables false
set_option maxRecDepth 100000
open Go.RowKit
/- Layer 5: what Decode leaves of what was encoded. -/
/- Layer 5: what Decode leaves of what was encoded; a cut that is read as it was, and a chain. -/
end Go.Proofs.YtckdofhcifdpmaaGreat

namespace Go.Proofs.YtckdofhcifdpmaaGreat
set_option linter.unusedSimpArgs false
set_option linter.unusedVariables false
set_option maxRecDepth 100000
open Go.ChangeShapes Go.WideShapes Go.ChangeAt Go.RowKit
/- Layer 5: entries, rows of entries and of places, out of what comes in. -/
/-- A slice of places reads as these. -/
def Seqs (w : World) (v : Value) (l : List (Int × Int)) : Prop :=
  ∃ (a : Option Addr) (cap : Nat), v = .slice a l.length cap ∧ l.length ≤ cap ∧ cap ≤ maxLen ∧ (a = none → cap = 0) ∧ ∀ i (h : i < l.length), ∃ b off, a = some ⟨b, off, none⟩ ∧ w.cell? ⟨b, off + i * 2, none⟩ = some (.int .i64 l[i].1) ∧ w.cell? ⟨b, off + i * 2 + 1, none⟩ = some (.int .i64 l[i].2)
theorem Seqs.below {w w' : World} {v : Value} {l : List (Int × Int)} (h : Seqs w v l) (hb : Below w.heap.size w w') : Seqs w' v l := by
  obtain ⟨a, cap, rfl, h1, h2, h4, h3⟩ := h
  refine ⟨a, cap, rfl, h1, h2, h4, fun i hi => ?_⟩
  obtain ⟨b, off, e, hc, hd⟩ := h3 i hi
  have hlt := World.block_lt_of_cell? _ _ hc
  exact ⟨b, off, e, (hb.cell (p := ⟨b, off + i * 2, none⟩) hlt).trans hc, (hb.cell (p := ⟨b, off + i * 2 + 1, none⟩) hlt).trans hd⟩
theorem Seqs.shape {w : World} {v : Value} {l : List (Int × Int)} (h : Seqs w v l) : ∃ a c, v = .slice a l.length c ∧ l.length ≤ c ∧ c ≤ 9223372036854775807 := by
  obtain ⟨a, cap, rfl, h1, h2, _⟩ := h
  unfold maxLen at h2
  exact ⟨a, cap, rfl, h1, h2⟩

section
variable {H : Type} {enc : TypeId × Value → H} {w : World} {base : Nat} {spare : Nat → Bool} {held : Bool}

set_option maxRecDepth 100000 in
theorem ents_of_raw {fuel : Nat} {cs : List Value} {x : DataW H × List MemPlace} (h : DataW.trod enc Tryz.prog w base spare held fuel 63 cs = some x) : ∃ v l, cs = [v] ∧ Ents w v l := by
  have hc : Tryz.prog.cellsOf 54 = 6 := by kernel_rfl
  rcases DataW.trod_slice Tryz.underlying63 h with ⟨rfl, _⟩ | ⟨a, len, cap, elems, rest, n, _, rfl, rfl, _, hl, hm, hlen, hel, _, _⟩
  · exact ⟨_, [], rfl, Ents.nil _⟩
  · rw [hc] at hel
    have each : ∀ i (hi : i < elems.length), ∃ (e : Ent.E) (t : Value), Ints w t e.cut ∧ ∀ j, j < 6 → w.cell? ((a.add (i * 6)).add j) = [Value.int .i64 e.number, .int .i64 e.kind, t, .int .i64 e.tag, .int .i64 e.term, .int .i64 e.pos][j]? := by
      intro i hi
      have h1 := hel i (by omega)
      rw [List.getElem?_eq_getElem hi, Option.bind_eq_some_iff] at h1
      obtain ⟨ds, hds, hy⟩ := h1
      obtain ⟨t, e, rfl, ht⟩ := ent_of_raw hy
      exact ⟨e, t, ht, (World.cells?_some hds).2.2⟩
    obtain ⟨f, hf⟩ : ∃ f : Nat → Ent.E, ∀ i (hi : i < elems.length), ∃ t : Value, Ints w t (f i).cut ∧ ∀ j, j < 6 → w.cell? ((a.add (i * 6)).add j) = [Value.int .i64 (f i).number, .int .i64 (f i).kind, t, .int .i64 (f i).tag, .int .i64 (f i).term, .int .i64 (f i).pos][j]? := by
      have : ∀ i, ∃ e : Ent.E, ∀ (hi : i < elems.length), ∃ t : Value, Ints w t e.cut ∧ ∀ j, j < 6 → w.cell? ((a.add (i * 6)).add j) = [Value.int .i64 e.number, .int .i64 e.kind, t, .int .i64 e.tag, .int .i64 e.term, .int .i64 e.pos][j]? := by
        intro i
        by_cases hi : i < elems.length
        · obtain ⟨p, hp⟩ := each i hi
          exact ⟨p, fun _ => hp⟩
        · exact ⟨⟨0, 0, [], 0, 0, 0⟩, fun h => absurd h hi⟩
      exact ⟨fun i => (this i).choose, fun i => (this i).choose_spec⟩
    refine ⟨_, (List.range elems.length).map f, rfl, ⟨some a, cap, by simp [hlen], by simp; omega, hm, fun e => by simp at e, fun i hi => ?_⟩⟩
    have hi' : i < elems.length := by simpa using hi
    obtain ⟨t, ht, hk⟩ := hf i hi'
    have hs : a.spot = none := by
      obtain ⟨t0, _, hk0⟩ := hf 0 (by omega)
      have h0 := hk0 0 (by omega)
      have e0 : (a.add (0 * 6)).add 0 = a := by simp [Addr.add]
      rw [e0] at h0
      unfold World.cell? at h0
      cases hsp : a.spot with
      | none => rfl
      | some s =>
        exfalso
        rw [hsp] at h0
        simp only [List.getElem?_cons_zero] at h0
        split at h0 <;> simp at h0
    obtain ⟨b, off, spot⟩ := a
    simp only at hs
    subst hs
    have k0 := hk 0 (by omega)
    have k1 := hk 1 (by omega)
    have k2 := hk 2 (by omega)
    have k3 := hk 3 (by omega)
    have k4 := hk 4 (by omega)
    have k5 := hk 5 (by omega)
    simp only [Addr.add_lit, Nat.add_zero, List.getElem?_cons_zero, List.getElem?_cons_succ] at k0 k1 k2 k3 k4 k5
    simp only [List.getElem_map, List.getElem_range]
    exact ⟨b, off, rfl, t, k0, k1, k2, k3, k4, k5, ht⟩
end
end Go.Proofs.YtckdofhcifdpmaaGreat
