/-
  Merged: Layer 14: a script, out of raw input.
-/
import Derived.Test.YtkpcmedmiiohnaaBsEnt
import Derived.Test.YtkpcmedmiiohnaaBsOrRaw
import Derived.Test.YtkpcmedmiiohnaaBsTerm

namespace Go.Proofs.Ytkpcmedmiiohnaa
set_option linter.unusedSimpArgs false
set_option linter.unusedVariables false
set_option maxRecDepth 100000
open Go.ChangeShapes Go.WideShapes Go.ChangeAt Go.RowKit
/- Layer 14: a script, out of raw input; few. -/
/-- An install: a configuration, and a tail. -/
structure Reg.Op where
  c : Term.C
  tail : List Ent.E
def Reg.Op.Wide (o : Reg.Op) : Prop := Wf64 o.c.term ∧ o.tail.length * 64 ≤ 140737488351232
structure OpHere14 (w : World) (b off : Nat) (o : Reg.Op) (s d t : Value) : Prop where
  k0 : w.cell? ⟨b, off, none⟩ = some (.int .i64 o.c.term)
  k1 : w.cell? ⟨b, off + 1, none⟩ = some s
  k2 : w.cell? ⟨b, off + 2, none⟩ = some d
  k3 : w.cell? ⟨b, off + 3, none⟩ = some t
  seqs : Ints w s o.c.seqs
  shards : IRows w d o.c.shards
  tail : Ents w t o.tail
theorem OpHere14.below {w w' : World} {b off : Nat} {o : Reg.Op} {s d t : Value} (h : OpHere14 w b off o s d t) (hb : Below w.heap.size w w') : OpHere14 w' b off o s d t := by
  have up : ∀ {a v}, w.cell? a = some v → w'.cell? a = some v := fun {a v} h => (hb.cell (World.block_lt_of_cell? w _ h)).trans h
  exact ⟨up h.k0, up h.k1, up h.k2, up h.k3, h.seqs.below hb, h.shards.below hb, h.tail.below hb⟩
def Ops14 (w : World) (v : Value) (l : List Reg.Op) : Prop :=
  ∃ (a : Option Addr) (cap : Nat), v = .slice a l.length cap ∧ l.length ≤ cap ∧ cap ≤ maxLen ∧ ∀ i (h : i < l.length), ∃ b off s d t, a = some ⟨b, off, none⟩ ∧ OpHere14 w b (off + i * 4) l[i] s d t
theorem Ops14.below {w w' : World} {v : Value} {l : List Reg.Op} (h : Ops14 w v l) (hb : Below w.heap.size w w') : Ops14 w' v l := by
  obtain ⟨a, cap, rfl, h1, h2, h3⟩ := h
  refine ⟨a, cap, rfl, h1, h2, fun i hi => ?_⟩
  obtain ⟨b, off, s, d, t, e, hc⟩ := h3 i hi
  exact ⟨b, off, s, d, t, e, hc.below hb⟩
theorem Ops14.len {w : World} {a : Option Addr} {n c : Nat} {l : List Reg.Op} (h : Ops14 w (.slice a n c) l) : n = l.length ∧ n ≤ c ∧ c ≤ 9223372036854775807 := by
  obtain ⟨_, _, e, h1, h2, _⟩ := h
  injection e with e1 e2 e3
  subst e3
  unfold maxLen at h2
  omega
theorem Ops14.nil (w : World) : Ops14 w (.slice none 0 0) [] := ⟨none, 0, rfl, Nat.le_refl _, by simp [maxLen], fun i hi => absurd hi (by simp)⟩
/-- One of them, opened. -/
theorem Ops14.at {w : World} {a : Option Addr} {n c : Nat} {l : List Reg.Op} (h : Ops14 w (.slice a n c) l) (k : Nat) (hk : k < l.length) : ∃ b off a1 n1 c1 a2 n2 c2 a3 n3 c3, a = some ⟨b, off, none⟩ ∧ OpHere14 w b (off + k * 4) l[k] (.slice a1 n1 c1) (.slice a2 n2 c2) (.slice a3 n3 c3) := by
  obtain ⟨_, _, e', _, _, hc⟩ := h
  obtain ⟨b, off, s, d, t, rfl, ho⟩ := hc k hk
  injection e' with e1 e2 e3
  subst e1
  obtain ⟨a1, n1, c1, rfl⟩ := ho.seqs.isSlice
  obtain ⟨a2, c2, rfl, _⟩ := ho.shards.open
  obtain ⟨a3, c3, rfl, _⟩ := ho.tail.shape
  exact ⟨b, off, _, _, _, _, _, _, _, _, _, rfl, ho⟩
section
variable {H : Type} {enc : TypeId × Value → H} {w : World} {base : Nat} {spare : Nat → Bool} {held : Bool}
theorem confTerm14 {fuel : Nat} {t : Int} {s d : Value} {x : DataW H × List MemPlace} (h : DataW.trod enc Try.prog w base spare held fuel 25 [.int .i64 t, s, d] = some x) : Wf64 t := by
  obtain ⟨xs, n, _, rfl, hl, hlen, hf⟩ := DataW.trod_struct Try.underlying25 h
  have hi : Try.prog.cellsOf 3 = 1 := by kernel_rfl
  obtain ⟨y0, y1, y2, rfl⟩ := threeOf hlen
  have f0 := hf 0 _ rfl
  simp only [hi, List.drop_zero, List.take_succ_cons, List.take_zero, List.getElem?_cons_zero] at f0
  obtain ⟨n0, e0, _, h0⟩ := DataW.trod_int Try.underlying3 f0
  injection e0 with e0 _
  injection e0 with _ e0
  rw [e0]
  exact h0
theorem op14_of_raw {fuel : Nat} {cs : List Value} {x : DataW H × List MemPlace} (h : DataW.trod enc Try.prog w base spare held fuel 41 cs = some x) (hw : ∀ m ∈ x.1.weights Try.prog 41, m ≤ 140737488351232) :
    ∃ (o : Reg.Op) (s d t : Value), cs = [.int .i64 o.c.term, s, d, t] ∧ Ints w s o.c.seqs ∧ IRows w d o.c.shards ∧ Ents w t o.tail ∧ o.Wide := by
  obtain ⟨xs, n, _, rfl, hl, hlen, hf⟩ := DataW.trod_struct Try.underlying41 h
  have hc : Try.prog.cellsOf 41 = 4 := by kernel_rfl
  have hi : Try.prog.cellsOf 25 = 3 := by kernel_rfl
  have hii : Try.prog.cellsOf 39 = 1 := by kernel_rfl
  rw [hc] at hl
  obtain ⟨c0, c1, c2, c3, rfl⟩ : ∃ a b c d, cs = [a, b, c, d] := by
    match cs, hl with
    | [a, b, c, d], _ => exact ⟨a, b, c, d, rfl⟩
  obtain ⟨y0, y1, rfl⟩ := twoOf hlen
  have f0 := hf 0 _ rfl
  have f1 := hf 1 _ rfl
  simp only [hi, hii, List.drop_zero, List.drop_succ_cons, List.take_succ_cons, List.take_zero, List.getElem?_cons_zero, List.getElem?_cons_succ] at f0 f1
  obtain ⟨s, d, c, e0, h1, h2, _⟩ := confFull f0
  have hwe : ∀ m ∈ y1.1.weights Try.prog 39, m ≤ 140737488351232 := fun m hm => hw m (by
    simp only [DataW.weights, Try.underlying41]
    exact DataW.weights_mem_each (j := 1) (t := 39) (d := y1.1) rfl rfl _ hm)
  obtain ⟨v, l, e1, h3, _⟩ := entsl_of_raw f1 hwe
  injection e0 with e00 e0
  injection e0 with e01 e0
  injection e0 with e02 _
  injection e1 with e1 _
  subst e00 e01 e02 e1
  refine ⟨⟨c, l⟩, _, _, _, rfl, h1, h2, h3, confTerm14 f0, ?_⟩
  obtain ⟨a, cap, rfl, _⟩ := h3.shape
  rcases len_of_raw Try.underlying39 f1 with h0 | ⟨es, sp, e6, e7⟩
  · show l.length * 64 ≤ _
    omega
  · have hm := hwe ((es.length + sp.length) * Try.prog.bytesOf 65) (by
      rw [e6]
      simp [DataW.weights, Try.underlying39])
    have hu1 : Try.prog.bytesOf 65 = 64 := by kernel_rfl
    rw [hu1] at hm
    show l.length * 64 ≤ _
    omega
theorem ops14_of_raw {fuel : Nat} {cs : List Value} {x : DataW H × List MemPlace} (h : DataW.trod enc Try.prog w base spare held fuel 26 cs = some x) (hw : ∀ m ∈ x.1.weights Try.prog 26, m ≤ 140737488351232) :
    ∃ v l, cs = [v] ∧ Ops14 w v l ∧ ∀ o ∈ l, o.Wide := by
  have hc : Try.prog.cellsOf 41 = 4 := by kernel_rfl
  rcases DataW.trod_slice Try.underlying26 h with ⟨rfl, _⟩ | ⟨a, len, cap, elems, rest, n, _, rfl, rfl, _, hl, hm, hlen, hel, _, _⟩
  · exact ⟨_, [], rfl, Ops14.nil w, fun o ho => absurd ho (by simp)⟩
  · rw [hc] at hel
    have each : ∀ i, ∃ o : Reg.Op, ∀ (hi : i < elems.length), o.Wide ∧ ∃ s d t : Value, Ints w s o.c.seqs ∧ IRows w d o.c.shards ∧ Ents w t o.tail ∧ ∀ j, j < 4 → w.cell? ((a.add (i * 4)).add j) = [Value.int .i64 o.c.term, s, d, t][j]? := by
      intro i
      by_cases hi : i < elems.length
      · have h1 := hel i (by omega)
        rw [List.getElem?_eq_getElem hi, Option.bind_eq_some_iff] at h1
        obtain ⟨ds, hds, hy⟩ := h1
        obtain ⟨o, s, d, t, rfl, h1, h2, h3, h4⟩ := op14_of_raw hy (fun m hm => hw m (by
          have := weightsAll15 elems i hi m hm
          simp only [DataW.weights, Try.underlying26, List.mem_cons, List.mem_append]
          exact .inr (.inl this)))
        exact ⟨o, fun _ => ⟨h4, s, d, t, h1, h2, h3, (World.cells?_some hds).2.2⟩⟩
      · exact ⟨⟨⟨0, [], []⟩, []⟩, fun h => absurd h hi⟩
    obtain ⟨f, hf⟩ : ∃ f : Nat → Reg.Op, ∀ i (hi : i < elems.length), (f i).Wide ∧ ∃ s d t : Value, Ints w s (f i).c.seqs ∧ IRows w d (f i).c.shards ∧ Ents w t (f i).tail ∧ ∀ j, j < 4 → w.cell? ((a.add (i * 4)).add j) = [Value.int .i64 (f i).c.term, s, d, t][j]? := ⟨fun i => (each i).choose, fun i => (each i).choose_spec⟩
    refine ⟨_, (List.range elems.length).map f, rfl, ⟨some a, cap, by simp [hlen], by simp; omega, hm, fun i hi => ?_⟩, fun o ho => ?_⟩
    · have hi' : i < elems.length := by simpa using hi
      obtain ⟨_, s, d, t, h1, h2, h3, hk⟩ := hf i hi'
      have hs : a.spot = none := by
        obtain ⟨_, s, d, t, _, _, _, hk0⟩ := hf 0 (by omega)
        have h0 := hk0 0 (by omega)
        have e0 : (a.add (0 * 4)).add 0 = a := by simp [Addr.add]
        rw [e0] at h0
        unfold World.cell? at h0
        cases hsp : a.spot with
        | none => rfl
        | some s =>
          exfalso
          rw [hsp] at h0
          simp only [List.getElem?_cons_zero] at h0
          split at h0 <;> simp at h0
      obtain ⟨b, off, spot⟩ := a
      simp only at hs
      subst hs
      have k0 := hk 0 (by omega)
      have k1 := hk 1 (by omega)
      have k2 := hk 2 (by omega)
      have k3 := hk 3 (by omega)
      simp only [Addr.add_lit, Nat.add_zero, List.getElem?_cons_zero, List.getElem?_cons_succ] at k0 k1 k2 k3
      simp only [List.getElem_map, List.getElem_range]
      exact ⟨b, off, s, d, t, rfl, k0, k1, k2, k3, h1, h2, h3⟩
    · obtain ⟨i, hi, rfl⟩ := List.mem_map.1 ho
      exact (hf i (List.mem_range.1 hi)).1
end
end Go.Proofs.Ytkpcmedmiiohnaa
