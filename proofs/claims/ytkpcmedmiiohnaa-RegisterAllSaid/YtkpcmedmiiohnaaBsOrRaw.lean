/-
  Merged: Layer 15: a row of entries, out of raw input, with how long their cuts are.
-/
import Derived.OpenShut
import Derived.Test.YtkpcmedmiiohnaaBsEnt2
import Derived.Test.YtkpcmedmiiohnaaBsPack

namespace Go.Proofs.Ytkpcmedmiiohnaa
set_option linter.unusedSimpArgs false
set_option linter.unusedVariables false
set_option maxRecDepth 100000
open Go.ChangeShapes Go.WideShapes Go.ChangeAt Go.RowKit
/- Layer 15: a row of entries, out of raw input, with how long their cuts are; a place. -/
section
variable {H : Type} {enc : TypeId × Value → H} {w : World} {base : Nat} {spare : Nat → Bool} {held : Bool}
theorem weightsAll15 {P : Program} {e : TypeId} : ∀ (q : List (DataW H × List MemPlace)) (k : Nat) (hk : k < q.length) (m : Nat), m ∈ q[k].1.weights P e → m ∈ DataW.weightsAll P e (q.map (·.1)) := by
  intro q
  induction q with
  | nil => intro k hk; exact absurd hk (by simp)
  | cons x q ih =>
    intro k hk m hm
    rw [List.map_cons]
    unfold DataW.weightsAll
    cases k with
    | zero => exact List.mem_append_left _ hm
    | succ k => exact List.mem_append_right _ (ih k (by simpa using hk) m (by simpa using hm))
set_option maxRecDepth 100000 in
theorem entl_of_raw {fuel : Nat} {cs : List Value} {x : DataW H × List MemPlace} (h : DataW.trod enc Try.prog w base spare held fuel 65 cs = some x) (hw : ∀ m ∈ x.1.weights Try.prog 65, m ≤ 140737488351232) :
    ∃ (t : Value) (e : Ent.E), cs = [.int .i64 e.number, .int .i64 e.kind, t, .int .i64 e.tag, .int .i64 e.term, .int .i64 e.pos] ∧ Ints w t e.cut ∧ e.cut.length ≤ 17592186043904 := by
  obtain ⟨xs, n, _, rfl, hl, hlen, hf⟩ := DataW.trod_struct Try.underlying65 h
  have hc : Try.prog.cellsOf 65 = 6 := by kernel_rfl
  have hd : Try.prog.cellsOf 49 = 2 := by kernel_rfl
  have hi : Try.prog.cellsOf 3 = 1 := by kernel_rfl
  have hii : Try.prog.cellsOf 22 = 1 := by kernel_rfl
  rw [hc] at hl
  obtain ⟨c0, c1, c2, c3, c4, c5, rfl⟩ := sixOf hl
  obtain ⟨y0, y1, y2, y3, y4, rfl⟩ := fiveOf hlen
  have f0 := hf 0 _ rfl
  have f1 := hf 1 _ rfl
  have f2 := hf 2 _ rfl
  have f3 := hf 3 _ rfl
  have f4 := hf 4 _ rfl
  simp only [hd, hi, hii, List.drop_zero, List.drop_succ_cons, List.take_succ_cons, List.take_zero, List.getElem?_cons_zero, List.getElem?_cons_succ] at f0 f1 f2 f3 f4
  obtain ⟨n0, e0, _, _⟩ := DataW.trod_int Try.underlying3 f0
  obtain ⟨n1, e1, _, _⟩ := DataW.trod_int Try.underlying3 f1
  obtain ⟨v, l, e2, hv⟩ := ints_of_raw Try.underlying22 Try.underlying3 hi f2
  obtain ⟨n3, e3, _, _⟩ := DataW.trod_int Try.underlying3 f3
  obtain ⟨n4, n5, e4⟩ := seqOfRaw f4
  injection e0 with e0 _
  injection e1 with e1 _
  injection e2 with e2 _
  injection e3 with e3 _
  injection e4 with e40 e4
  injection e4 with e41 _
  subst e0 e1 e2 e3 e40 e41
  refine ⟨_, ⟨n0, n1, l, n3, n4, n5⟩, rfl, hv, ?_⟩
  obtain ⟨a, c, rfl, _⟩ := hv.open
  rcases len_of_raw Try.underlying22 f2 with h0 | ⟨es, sp, e6, e7⟩
  · show l.length ≤ _
    omega
  · have hm := hw ((es.length + sp.length) * Try.prog.bytesOf 3) (by
      simp only [DataW.weights, Try.underlying65]
      refine DataW.weights_mem_each (j := 2) (t := 22) (d := y2.1) rfl rfl _ ?_
      rw [e6]
      simp [DataW.weights, Try.underlying22])
    have hu1 : Try.prog.bytesOf 3 = 8 := by kernel_rfl
    rw [hu1] at hm
    show l.length ≤ _
    omega
theorem entsl_of_raw {fuel : Nat} {cs : List Value} {x : DataW H × List MemPlace} (h : DataW.trod enc Try.prog w base spare held fuel 39 cs = some x) (hw : ∀ m ∈ x.1.weights Try.prog 39, m ≤ 140737488351232) : ∃ v l, cs = [v] ∧ Ents w v l ∧ ∀ e ∈ l, e.cut.length ≤ 17592186043904 := by
  have hc : Try.prog.cellsOf 65 = 6 := by kernel_rfl
  rcases DataW.trod_slice Try.underlying39 h with ⟨rfl, _⟩ | ⟨a, len, cap, elems, rest, n, _, rfl, rfl, _, hl, hm, hlen, hel, _, _⟩
  · exact ⟨_, [], rfl, Ents.nil _, fun e he => absurd he (by simp)⟩
  · rw [hc] at hel
    have each : ∀ i (hi : i < elems.length), ∃ (e : Ent.E) (t : Value), e.cut.length ≤ 17592186043904 ∧ Ints w t e.cut ∧ ∀ j, j < 6 → w.cell? ((a.add (i * 6)).add j) = [Value.int .i64 e.number, .int .i64 e.kind, t, .int .i64 e.tag, .int .i64 e.term, .int .i64 e.pos][j]? := by
      intro i hi
      have h1 := hel i (by omega)
      rw [List.getElem?_eq_getElem hi, Option.bind_eq_some_iff] at h1
      obtain ⟨ds, hds, hy⟩ := h1
      obtain ⟨t, e, rfl, ht, hlb⟩ := entl_of_raw hy (fun m hm => hw m (by
        have := weightsAll15 elems i hi m hm
        simp only [DataW.weights, Try.underlying39, List.mem_cons, List.mem_append]
        exact .inr (.inl this)))
      exact ⟨e, t, hlb, ht, (World.cells?_some hds).2.2⟩
    obtain ⟨f, hf⟩ : ∃ f : Nat → Ent.E, ∀ i (hi : i < elems.length), ∃ t : Value, (f i).cut.length ≤ 17592186043904 ∧ Ints w t (f i).cut ∧ ∀ j, j < 6 → w.cell? ((a.add (i * 6)).add j) = [Value.int .i64 (f i).number, .int .i64 (f i).kind, t, .int .i64 (f i).tag, .int .i64 (f i).term, .int .i64 (f i).pos][j]? := by
      have : ∀ i, ∃ e : Ent.E, ∀ (hi : i < elems.length), ∃ t : Value, e.cut.length ≤ 17592186043904 ∧ Ints w t e.cut ∧ ∀ j, j < 6 → w.cell? ((a.add (i * 6)).add j) = [Value.int .i64 e.number, .int .i64 e.kind, t, .int .i64 e.tag, .int .i64 e.term, .int .i64 e.pos][j]? := by
        intro i
        by_cases hi : i < elems.length
        · obtain ⟨p, hp⟩ := each i hi
          exact ⟨p, fun _ => hp⟩
        · exact ⟨⟨0, 0, [], 0, 0, 0⟩, fun h => absurd h hi⟩
      exact ⟨fun i => (this i).choose, fun i => (this i).choose_spec⟩
    refine ⟨_, (List.range elems.length).map f, rfl, ⟨some a, cap, by simp [hlen], by simp; omega, hm, fun e => by simp at e, fun i hi => ?_⟩, fun e he => by
      obtain ⟨i, hi, rfl⟩ := List.mem_map.1 he
      exact (hf i (List.mem_range.1 hi)).choose_spec.1⟩
    have hi' : i < elems.length := by simpa using hi
    obtain ⟨t, _, ht, hk⟩ := hf i hi'
    have hs : a.spot = none := by
      obtain ⟨t0, _, _, hk0⟩ := hf 0 (by omega)
      have h0 := hk0 0 (by omega)
      have e0 : (a.add (0 * 6)).add 0 = a := by simp [Addr.add]
      rw [e0] at h0
      unfold World.cell? at h0
      cases hsp : a.spot with
      | none => rfl
      | some s =>
        exfalso
        rw [hsp] at h0
        simp only [List.getElem?_cons_zero] at h0
        split at h0 <;> simp at h0
    obtain ⟨b, off, spot⟩ := a
    simp only at hs
    subst hs
    have k0 := hk 0 (by omega)
    have k1 := hk 1 (by omega)
    have k2 := hk 2 (by omega)
    have k3 := hk 3 (by omega)
    have k4 := hk 4 (by omega)
    have k5 := hk 5 (by omega)
    simp only [Addr.add_lit, Nat.add_zero, List.getElem?_cons_zero, List.getElem?_cons_succ] at k0 k1 k2 k3 k4 k5
    simp only [List.getElem_map, List.getElem_range]
    exact ⟨b, off, rfl, t, k0, k1, k2, k3, k4, k5, ht⟩
end
end Go.Proofs.Ytkpcmedmiiohnaa
