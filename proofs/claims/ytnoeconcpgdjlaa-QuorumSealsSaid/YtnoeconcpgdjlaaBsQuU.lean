/-
  Merged: Layer 12: a row of parts, out of raw input.
-/
import Derived.OpenShut
import Derived.Test.YtnoeconcpgdjlaaBsEnt2
import Derived.Test.YtnoeconcpgdjlaaBsPack2
import Derived.Test.YtnoeconcpgdjlaaBsQuT

namespace Go.Proofs.Ytnoeconcpgdjlaa
set_option linter.unusedSimpArgs false
set_option linter.unusedVariables false
set_option maxRecDepth 100000
open Go.ChangeShapes Go.WideShapes Go.ChangeAt Go.RowKit
/- Layer 12: a row of parts, out of raw input. -/
section
variable {H : Type} {enc : TypeId × Value → H} {w : World} {base : Nat} {spare : Nat → Bool} {held : Bool}
theorem weightsAll12 {P : Program} {e : TypeId} : ∀ (q : List (DataW H × List MemPlace)) (k : Nat) (hk : k < q.length) (m : Nat), m ∈ q[k].1.weights P e → m ∈ DataW.weightsAll P e (q.map (·.1)) := by
  intro q
  induction q with
  | nil => intro k hk; exact absurd hk (by simp)
  | cons x q ih =>
    intro k hk m hm
    rw [List.map_cons]
    unfold DataW.weightsAll
    cases k with
    | zero => exact List.mem_append_left _ hm
    | succ k => exact List.mem_append_right _ (ih k (by simpa using hk) m (by simpa using hm))
theorem part12_of_raw {fuel : Nat} {cs : List Value} {x : DataW H × List MemPlace} (h : DataW.trod enc Try.prog w base spare held fuel 29 cs = some x) (hw : ∀ m ∈ x.1.weights Try.prog 29, m ≤ 140737488351232) :
    ∃ (n : Int) (v : Value) (l : List Ent.E), cs = [.int .i64 n, v] ∧ Ents w v l ∧ Wf64 n ∧ l.length ≤ 140737488351232 := by
  obtain ⟨xs, f, _, rfl, hl, hlen, hf⟩ := DataW.trod_struct Try.underlying29 h
  have hc : Try.prog.cellsOf 29 = 2 := by kernel_rfl
  have hi : Try.prog.cellsOf 3 = 1 := by kernel_rfl
  have he : Try.prog.cellsOf 27 = 1 := by kernel_rfl
  rw [hc] at hl
  obtain ⟨c0, c1, rfl⟩ : ∃ a b, cs = [a, b] := by
    match cs, hl with
    | [a, b], _ => exact ⟨a, b, rfl⟩
  obtain ⟨y0, y1, rfl⟩ : ∃ a b, xs = [a, b] := by
    match xs, hlen with
    | [a, b], _ => exact ⟨a, b, rfl⟩
  have f0 : DataW.trod enc Try.prog w base spare held f 3 (List.take (Try.prog.cellsOf 3) (List.drop 0 [c0, c1])) = some y0 := hf 0 _ rfl
  have f1 : DataW.trod enc Try.prog w base spare held f 27 (List.take (Try.prog.cellsOf 27) (List.drop 1 [c0, c1])) = some y1 := hf 1 _ rfl
  rw [hi] at f0
  rw [he] at f1
  simp only [List.drop_zero, List.drop_succ_cons, List.take_succ_cons, List.take_zero] at f0 f1
  obtain ⟨n0, e0, _, hw0⟩ := DataW.trod_int Try.underlying3 f0
  obtain ⟨v, l, e1, hv⟩ := ents_of_raw f1
  injection e0 with e0 _
  injection e1 with e1 _
  subst e0 e1
  refine ⟨n0, _, l, rfl, hv, hw0, ?_⟩
  obtain ⟨a, c, rfl, _⟩ := hv.shape
  rcases len_of_raw Try.underlying27 f1 with h0 | ⟨es, sp, e6, e7⟩
  · omega
  · have hm := hw ((es.length + sp.length) * Try.prog.bytesOf 64) (by
      simp only [DataW.weights, Try.underlying29]
      refine DataW.weights_mem_each (j := 1) (t := 27) (d := y1.1) rfl rfl _ ?_
      rw [e6]
      simp [DataW.weights, Try.underlying27])
    have hu1 : Try.prog.bytesOf 64 = 64 := by kernel_rfl
    rw [hu1] at hm
    omega
theorem parts12_of_raw {fuel : Nat} {cs : List Value} {x : DataW H × List MemPlace} (h : DataW.trod enc Try.prog w base spare held fuel 26 cs = some x) (hw : ∀ m ∈ x.1.weights Try.prog 26, m ≤ 140737488351232) :
    ∃ v l, cs = [v] ∧ Pts12 w v l ∧ ∀ o ∈ l, Wf64 o.1 ∧ o.2.2.length ≤ 140737488351232 := by
  have hc : Try.prog.cellsOf 29 = 2 := by kernel_rfl
  rcases DataW.trod_slice Try.underlying26 h with ⟨rfl, _⟩ | ⟨a, len, cap, elems, rest, n, _, rfl, rfl, _, hl, hm, hlen, hel, _, _⟩
  · exact ⟨_, [], rfl, Pts12.nil w, fun o ho => absurd ho (by simp)⟩
  · rw [hc] at hel
    have each : ∀ i (hi : i < elems.length), ∃ o : Part12, Wf64 o.1 ∧ o.2.2.length ≤ 140737488351232 ∧ Ents w o.2.1 o.2.2 ∧ ∀ j, j < 2 → w.cell? ((a.add (i * 2)).add j) = [Value.int .i64 o.1, o.2.1][j]? := by
      intro i hi
      have h1 := hel i (by omega)
      rw [List.getElem?_eq_getElem hi, Option.bind_eq_some_iff] at h1
      obtain ⟨ds, hds, hy⟩ := h1
      obtain ⟨n0, v, l, rfl, hv, hf, hlb⟩ := part12_of_raw hy (fun m hm => hw m (by
        have := weightsAll12 elems i hi m hm
        simp only [DataW.weights, Try.underlying26, List.mem_cons, List.mem_append]
        exact .inr (.inl this)))
      exact ⟨(n0, v, l), hf, hlb, hv, (World.cells?_some hds).2.2⟩
    obtain ⟨f, hf⟩ : ∃ f : Nat → Part12, ∀ i (hi : i < elems.length), Wf64 (f i).1 ∧ (f i).2.2.length ≤ 140737488351232 ∧ Ents w (f i).2.1 (f i).2.2 ∧ ∀ j, j < 2 → w.cell? ((a.add (i * 2)).add j) = [Value.int .i64 (f i).1, (f i).2.1][j]? := by
      have : ∀ i, ∃ o : Part12, ∀ (hi : i < elems.length), Wf64 o.1 ∧ o.2.2.length ≤ 140737488351232 ∧ Ents w o.2.1 o.2.2 ∧ ∀ j, j < 2 → w.cell? ((a.add (i * 2)).add j) = [Value.int .i64 o.1, o.2.1][j]? := by
        intro i
        by_cases hi : i < elems.length
        · obtain ⟨o, h1⟩ := each i hi
          exact ⟨o, fun _ => h1⟩
        · exact ⟨(0, undef, []), fun h => absurd h hi⟩
      exact ⟨fun i => (this i).choose, fun i => (this i).choose_spec⟩
    have hz : ((List.range elems.length).map f).length = elems.length := by simp
    have hat : ∀ i (hi : i < ((List.range elems.length).map f).length), ((List.range elems.length).map f)[i] = f i := fun i hi => by simp
    refine ⟨_, (List.range elems.length).map f, rfl, ⟨?_, fun p hp => ?_⟩, fun o ho => ?_⟩
    · rw [hz]
      refine ⟨some a, cap, by simp [hlen], by omega, hm, fun e => by simp at e, by rw [partFlat_length, hz], fun j hj => ?_⟩
      have hj2 : j < elems.length * 2 := by rw [partFlat_length, hz] at hj; exact hj
      have hi : j / 2 < elems.length := by omega
      have hs : a.spot = none := by
        obtain ⟨_, _, _, hk0⟩ := hf 0 (by omega)
        have h0 := hk0 0 (by omega)
        have e0 : (a.add (0 * 2)).add 0 = a := by simp [Addr.add]
        rw [e0] at h0
        unfold World.cell? at h0
        cases hsp : a.spot with
        | none => rfl
        | some s =>
          exfalso
          rw [hsp] at h0
          simp only [List.getElem?_cons_zero] at h0
          split at h0 <;> simp at h0
      obtain ⟨b, off, spot⟩ := a
      simp only at hs
      subst hs
      obtain ⟨_, _, _, hk⟩ := hf (j / 2) hi
      have h1 := hk (j % 2) (Nat.mod_lt _ (by omega))
      have h2 := partFlat_at ((List.range elems.length).map f) (j / 2) (j % 2) (by rw [hz]; exact hi) (Nat.mod_lt _ (by omega))
      rw [hat] at h2
      have hsum : j / 2 * 2 + j % 2 = j := by omega
      rw [hsum] at h2
      simp only [Addr.add_lit] at h1
      rw [show off + j / 2 * 2 + j % 2 = off + j by omega, ← h2, List.getElem?_eq_getElem hj] at h1
      exact ⟨b, off, rfl, h1⟩
    · obtain ⟨i, hi, rfl⟩ := List.mem_map.1 hp
      exact (hf i (List.mem_range.1 hi)).2.2.1
    · obtain ⟨i, hi, rfl⟩ := List.mem_map.1 ho
      have := hf i (List.mem_range.1 hi)
      exact ⟨this.1, this.2.1⟩
end
end Go.Proofs.Ytnoeconcpgdjlaa
