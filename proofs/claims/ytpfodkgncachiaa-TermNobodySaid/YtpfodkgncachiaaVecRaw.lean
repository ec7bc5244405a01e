/-
  What comes in, as rows of numbers. No program.
-/
import Derived.Test.YtpfodkgncachiaaLibR
import Derived.Test.YtpfodkgncachiaaRead
namespace Go.Proofs.Ytpfodkgncachiaa
open Go.ChangeShapes Go.WideShapes Go.ChangeAt Go.RowKit
section
variable {H : Type} {enc : TypeId × Value → H} {P : Program} {w : World} {base : Nat} {spare : Nat → Bool} {held : Bool}
theorem ints_of_raw {t e : TypeId} {fuel : Nat} {cs : List Value} {x : DataW H × List MemPlace} (ht : P.underlying t = some (.slice e)) (he : P.underlying e = some (.int .i64)) (hc : P.cellsOf e = 1)
    (h : DataW.trod enc P w base spare held fuel t cs = some x) : ∃ v l, cs = [v] ∧ Ints w v l := by
  obtain ⟨v, xs, rfl, hs, hx⟩ := sl_of_raw ht hc h
  have : ∀ i (hi : i < xs.length), ∃ x : Int, xs[i] = .int .i64 x := by
    intro i hi
    obtain ⟨f, y, hy⟩ := hx i hi
    obtain ⟨n, e1, _, hw⟩ := DataW.trod_int he hy
    injection e1 with e1 _
    exact ⟨n, e1⟩
  have key : ∀ l : List Value, (∀ i (hi : i < l.length), ∃ x : Int, l[i] = .int .i64 x) → ∃ m : List Int, l = i64s m := by
    intro l
    induction l with
    | nil => intro _; exact ⟨[], rfl⟩
    | cons a l ih =>
      intro hl
      obtain ⟨m, rfl⟩ := ih (fun i hi => by have := hl (i + 1) (by simpa using hi); simpa using this)
      obtain ⟨z, hz⟩ := hl 0 (by simp)
      exact ⟨z :: m, by simp only [List.getElem_cons_zero] at hz; rw [hz]; rfl⟩
  obtain ⟨m, rfl⟩ := key xs this
  exact ⟨v, m, rfl, hs⟩
theorem irows_of_raw {t e u : TypeId} {fuel : Nat} {cs : List Value} {x : DataW H × List MemPlace} (ht : P.underlying t = some (.slice e)) (hc : P.cellsOf e = 1) (he : P.underlying e = some (.slice u)) (hu : P.underlying u = some (.int .i64)) (hcu : P.cellsOf u = 1)
    (h : DataW.trod enc P w base spare held fuel t cs = some x) : ∃ v ls, cs = [v] ∧ IRows w v ls := by
  obtain ⟨v, xs, rfl, hs, hx⟩ := sl_of_raw ht hc h
  have each : ∀ i (hi : i < xs.length), ∃ l, Ints w xs[i] l := by
    intro i hi
    obtain ⟨f, y, hy⟩ := hx i hi
    obtain ⟨v', l, e1, hb⟩ := ints_of_raw he hu hcu hy
    injection e1 with e1 _
    exact ⟨l, by rw [e1]; exact hb⟩
  obtain ⟨g, hg⟩ : ∃ g : Nat → List Int, ∀ i (hi : i < xs.length), Ints w xs[i] (g i) := by
    have : ∀ i, ∃ l, ∀ (hi : i < xs.length), Ints w xs[i] l := by
      intro i
      by_cases hi : i < xs.length
      · obtain ⟨l, hl⟩ := each i hi; exact ⟨l, fun _ => hl⟩
      · exact ⟨[], fun h => absurd h hi⟩
    exact ⟨fun i => (this i).choose, fun i => (this i).choose_spec⟩
  exact ⟨v, (List.range xs.length).map g, rfl, xs, hs, by simp, fun i h h' => by simpa using hg i h⟩
end
end Go.Proofs.Ytpfodkgncachiaa
