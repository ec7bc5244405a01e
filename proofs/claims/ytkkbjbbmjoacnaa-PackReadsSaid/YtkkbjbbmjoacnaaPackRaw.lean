/-
  Layer 2: parts, out of what comes in; and what the bound gives.
-/
import Derived.Test.YtkkbjbbmjoacnaaPackParts
import Derived.Test.YtkkbjbbmjoacnaaRows
import Derived.Test.YtkkbjbbmjoacnaaChecked
import Derived.SizedLaws
import Derived.JoinedCond
namespace Go.Proofs.Ytkkbjbbmjoacnaa
open Go.ChangeShapes Go.WideShapes Go.ChangeAt Go.RowKit

section
variable {H : Type} {enc : TypeId × Value → H} {w : World} {base : Nat} {spare : Nat → Bool} {held : Bool}

set_option maxRecDepth 100000 in
theorem part_of_raw {fuel : Nat} {cs : List Value} {x : DataW H × List MemPlace} (h : DataW.trod enc Try.prog w base spare held fuel 46 cs = some x) :
    ∃ p : Pack.Part, cs = partCells p ∧ p.s.length ≤ maxLen ∧ p.s.length + 1 ≤ Rows.uptoBulk x.1 := by
  obtain ⟨xs, n, _, rfl, hl, hlen, hf⟩ := DataW.trod_struct Try.underlying46 h
  have hc : Try.prog.cellsOf 46 = 5 := by kernel_rfl
  have hi : Try.prog.cellsOf 3 = 1 := by kernel_rfl
  have hs : Try.prog.cellsOf 9 = 1 := by kernel_rfl
  have hb : Try.prog.cellsOf 4 = 1 := by kernel_rfl
  rw [hc] at hl
  match cs, hl, xs, hlen with
  | [c0, c1, c2, c3, c4], _, [y0, y1, y2, y3, y4], _ =>
    have f0 := hf 0 _ rfl
    have f1 := hf 1 _ rfl
    have f2 := hf 2 _ rfl
    have f3 := hf 3 _ rfl
    have f4 := hf 4 _ rfl
    simp only [hi, hs, hb, List.drop_zero, List.drop_succ_cons, List.take_succ_cons, List.take_zero, List.getElem?_cons_zero, List.getElem?_cons_succ] at f0 f1 f2 f3 f4
    obtain ⟨n0, e0, z0, _⟩ := DataW.trod_int Try.underlying3 f0
    obtain ⟨n1, e1, z1, _⟩ := DataW.trod_int Try.underlying3 f1
    obtain ⟨n2, e2, z2, _⟩ := DataW.trod_int Try.underlying3 f2
    obtain ⟨s, e3, z3, hm⟩ := DataW.trod_string Try.underlying9 f3
    obtain ⟨b, e4, z4⟩ := DataW.trod_bool Try.underlying4 f4
    have hsz : s.data.toList.length = s.size := by rw [Array.length_toList]; rfl
    refine ⟨⟨n0, n1, n2, s.data.toList, b⟩, ?_, by rw [hsz]; exact hm, ?_⟩
    · injection e0 with e0 _
      injection e1 with e1 _
      injection e2 with e2 _
      injection e3 with e3 _
      injection e4 with e4 _
      subst e0 e1 e2 e3 e4
      rfl
    · subst z0 z1 z2 z3 z4
      simp only [List.map_cons, List.map_nil, Rows.uptoBulk, Rows.uptoBulkAll]
      omega

theorem parts_of_raw {fuel : Nat} {cs : List Value} {x : DataW H × List MemPlace} (h : DataW.trod enc Try.prog w base spare held fuel 42 cs = some x) :
    ∃ v ps, cs = [v] ∧ Parts w v ps ∧ Pack.mass ps ≤ Rows.uptoBulk x.1 := by
  have hc : Try.prog.cellsOf 46 = 5 := by kernel_rfl
  rcases DataW.trod_slice Try.underlying42 h with ⟨rfl, _⟩ | ⟨a, len, cap, elems, rest, n, _, rfl, rfl, _, hl, hm, hlen, hel, _, _⟩
  · exact ⟨_, [], rfl, ⟨none, 0, rfl, Nat.le_refl _, by simp [maxLen], fun i hi => absurd hi (by simp), fun i hi => absurd hi (by simp)⟩, by simp [Pack.mass]⟩
  · rw [hc] at hel
    have each : ∀ i (hi : i < elems.length), ∃ p : Pack.Part, p.s.length ≤ maxLen ∧ p.s.length + 1 ≤ Rows.uptoBulk elems[i].1 ∧ ∀ j, j < 5 → w.cell? ((a.add (i * 5)).add j) = (partCells p)[j]? := by
      intro i hi
      have h1 := hel i (by omega)
      rw [List.getElem?_eq_getElem hi, Option.bind_eq_some_iff] at h1
      obtain ⟨ds, hds, hy⟩ := h1
      obtain ⟨p, rfl, hp1, hp2⟩ := part_of_raw hy
      exact ⟨p, hp1, hp2, (World.cells?_some hds).2.2⟩
    obtain ⟨f, hf⟩ : ∃ f : Nat → Pack.Part, ∀ i (hi : i < elems.length), (f i).s.length ≤ maxLen ∧ (f i).s.length + 1 ≤ Rows.uptoBulk elems[i].1 ∧ ∀ j, j < 5 → w.cell? ((a.add (i * 5)).add j) = (partCells (f i))[j]? := by
      have : ∀ i, ∃ p : Pack.Part, ∀ (hi : i < elems.length), p.s.length ≤ maxLen ∧ p.s.length + 1 ≤ Rows.uptoBulk elems[i].1 ∧ ∀ j, j < 5 → w.cell? ((a.add (i * 5)).add j) = (partCells p)[j]? := by
        intro i
        by_cases hi : i < elems.length
        · obtain ⟨p, hp⟩ := each i hi
          exact ⟨p, fun _ => hp⟩
        · exact ⟨⟨0, 0, 0, [], false⟩, fun h => absurd h hi⟩
      exact ⟨fun i => (this i).choose, fun i => (this i).choose_spec⟩
    refine ⟨_, (List.range elems.length).map f, rfl, ⟨some a, cap, by simp [hlen], by simp; omega, hm, fun i hi => ?_, fun i hi => ?_⟩, ?_⟩
    · have hi' : i < elems.length := by simpa using hi
      simpa using (hf i hi').1
    · have hi' : i < elems.length := by simpa using hi
      have hk := (hf i hi').2.2
      have hs : a.spot = none := by
        have h0 := (hf 0 (by omega)).2.2 0 (by omega)
        have e0 : (a.add (0 * 5)).add 0 = a := by simp [Addr.add]
        rw [e0] at h0
        unfold World.cell? at h0
        cases hsp : a.spot with
        | none => rfl
        | some s =>
          exfalso
          rw [hsp] at h0
          simp only [partCells, List.getElem?_cons_zero] at h0
          split at h0 <;> simp at h0
      obtain ⟨b, off, spot⟩ := a
      simp only at hs
      subst hs
      refine ⟨b, off, rfl, ?_⟩
      have k0 := hk 0 (by omega)
      have k1 := hk 1 (by omega)
      have k2 := hk 2 (by omega)
      have k3 := hk 3 (by omega)
      have k4 := hk 4 (by omega)
      simp only [Addr.add_lit, Nat.add_zero, partCells, List.getElem?_cons_zero, List.getElem?_cons_succ] at k0 k1 k2 k3 k4
      simp only [List.getElem_map, List.getElem_range]
      exact ⟨k0, k1, k2, k3, k4⟩
    · have key : ∀ (es : List (DataW H × List MemPlace)) (g : Nat → Pack.Part), (∀ i (hi : i < es.length), (g i).s.length + 1 ≤ Rows.uptoBulk es[i].1) → es.length + (((List.range es.length).map g).map (fun p => p.s.length)).sum ≤ Rows.uptoBulkAll (es.map (·.1)) := by
        intro es
        induction es with
        | nil => intro g _; simp
        | cons e es ih =>
          intro g hg
          have h1 := ih (fun i => g (i + 1)) (fun i hi => by have := hg (i + 1) (by simpa using hi); simpa using this)
          have h0 := hg 0 (by simp)
          simp only [List.length_cons, List.range_succ_eq_map, List.map_cons, List.map_map, List.sum_cons, Rows.uptoBulkAll, List.getElem_cons_zero] at h0 h1 ⊢
          have e1 : ((List.range es.length).map ((fun p => p.s.length) ∘ g ∘ Nat.succ)).sum = ((List.range es.length).map ((fun p : Pack.Part => p.s.length) ∘ fun i => g (i + 1))).sum := rfl
          rw [e1]
          omega
      have := key elems f (fun i hi => (hf i hi).2.1)
      unfold Pack.mass
      simp only [List.length_map, List.length_range, Rows.uptoBulk]
      omega

/-- How long a slice is, and its datum. -/
theorem len_of_raw {P : Program} {t e : TypeId} {fuel : Nat} {a : Option Addr} {n c : Nat} {x : DataW H × List MemPlace} (ht : P.underlying t = some (.slice e)) (h : DataW.trod enc P w base spare held fuel t [.slice a n c] = some x) :
    n = 0 ∨ ∃ elems spare, x.1 = .slice elems spare ∧ elems.length = n := by
  rcases DataW.trod_slice ht h with ⟨e, _⟩ | ⟨a, len, cap, elems, rest, n', _, e, rfl, _, _, _, hlen, _, _, _⟩
  · injection e with e _
    injection e with _ e _
    exact .inl e
  · injection e with e _
    injection e with _ e _
    exact .inr ⟨_, _, rfl, by simp; omega⟩
theorem reach_of_raw {P : Program} {ts : List TypeId} {ds : List (DataW H)} {j k : Nat} {t e : TypeId} {fuel : Nat} {a : Option Addr} {n c : Nat} {x : DataW H × List MemPlace} (hsz : (DataW.weightsEach P ts ds).all (· ≤ reachBytes) = true) (hj : ts[j]? = some t) (hd : ds[j]? = some x.1)
    (ht : P.underlying t = some (.slice e)) (hk : P.bytesOf e = k) (h : DataW.trod enc P w base spare held fuel t [.slice a n c] = some x) : n * k ≤ 140737488351232 := by
  have hr : reachBytes = 140737488351232 := by decide
  rcases len_of_raw ht h with rfl | ⟨elems, spare, e1, e2⟩
  · omega
  · have := sized_slice hsz hj (by rw [hd, e1]) ht
    rw [hk, hr] at this
    have h2 : elems.length * k ≤ (elems.length + spare.length) * k := Nat.mul_le_mul_right _ (by omega)
    rw [e2] at h2 this
    omega
theorem bulk_of_raw {P : Program} {t e : TypeId} {fuel : Nat} {a : Option Addr} {n c : Nat} {x : DataW H × List MemPlace} (ht : P.underlying t = some (.slice e)) (h : DataW.trod enc P w base spare held fuel t [.slice a n c] = some x) : n ≤ Rows.uptoBulk x.1 := by
  rcases len_of_raw ht h with rfl | ⟨elems, spare, e1, e2⟩
  · omega
  · rw [e1]
    have key : ∀ es : List (DataW H), es.length ≤ Rows.uptoBulkAll es := by
      intro es
      induction es with
      | nil => simp
      | cons d es ih =>
        have : 1 ≤ Rows.uptoBulk d := by
          cases d with
          | lit l => cases l <;> simp [Rows.uptoBulk]
          | _ => simp [Rows.uptoBulk]
        simp only [List.length_cons, Rows.uptoBulkAll]
        omega
    have := key elems
    simp only [Rows.uptoBulk]
    omega
end
end Go.Proofs.Ytkkbjbbmjoacnaa
