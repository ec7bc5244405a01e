/-
  What comes in, as lists: slices of bytes, of slices of bytes. No program.
-/
import Derived.Test.YtpefengjpedifaaLib
import Derived.ProofKit
import Derived.OpenShut
import Derived.ShutString
import Derived.ChangeOld
import Derived.Lib.SmallJoins
namespace Go.Proofs.Ytpefengjpedifaa
open Go.ChangeShapes Go.WideShapes Go.ChangeAt Go.RowKit

section
variable {H : Type} {enc : TypeId × Value → H} {P : Program} {w : World} {base : Nat} {spare : Nat → Bool} {held : Bool}

/-- A slice whose elements take one cell each. -/
theorem sl_of_raw {t e : TypeId} {fuel : Nat} {cs : List Value} {x : DataW H × List MemPlace} (ht : P.underlying t = some (.slice e)) (hc : P.cellsOf e = 1) (h : DataW.trod enc P w base spare held fuel t cs = some x) :
    ∃ v xs, cs = [v] ∧ Sl w v xs ∧ ∀ i (hi : i < xs.length), ∃ f y, DataW.trod enc P w base spare held f e [xs[i]] = some y := by
  rcases DataW.trod_slice ht h with ⟨rfl, _⟩ | ⟨a, len, cap, elems, rest, n, _, rfl, _, _, hl, hm, hlen, hel, _, _⟩
  · exact ⟨_, [], rfl, ⟨none, 0, rfl, Nat.le_refl _, by simp [maxLen], fun _ => rfl, fun i hi => absurd hi (by simp)⟩, fun i hi => absurd hi (by simp)⟩
  · have each : ∀ i, i < len → ∃ c y, w.cell? (a.add i) = some c ∧ DataW.trod enc P w base spare held n e [c] = some y := by
      intro i hi
      have h1 := hel i hi
      rw [hc, Nat.mul_one, List.getElem?_eq_getElem (by omega), Option.bind_eq_some_iff] at h1
      obtain ⟨ds, hds, hy⟩ := h1
      have hlen1 := (World.cells?_some hds).2.1
      match ds, hlen1 with
      | [c], _ => exact ⟨c, _, cell_of_cells?_one hds, hy⟩
    obtain ⟨f, hf⟩ : ∃ f : Nat → Value, ∀ i, i < len → w.cell? (a.add i) = some (f i) ∧ ∃ y, DataW.trod enc P w base spare held n e [f i] = some y := by
      have : ∀ i, ∃ c, i < len → w.cell? (a.add i) = some c ∧ ∃ y, DataW.trod enc P w base spare held n e [c] = some y := by
        intro i
        by_cases hi : i < len
        · obtain ⟨c, y, h1, h2⟩ := each i hi
          exact ⟨c, fun _ => ⟨h1, y, h2⟩⟩
        · exact ⟨undef, fun h => absurd h hi⟩
      exact ⟨fun i => (this i).choose, fun i => (this i).choose_spec⟩
    refine ⟨_, (List.range len).map f, rfl, ⟨some a, cap, by simp, by simpa using hl, hm, fun e => by simp at e, fun i hi => ?_⟩, fun i hi => ?_⟩
    · have hi' : i < len := by simpa using hi
      have h1 := (hf i hi').1
      have h0 := (hf 0 (by omega)).1
      have hs : a.spot = none := by
        have e0 : a.add 0 = a := by simp [Addr.add]
        rw [e0] at h0
        unfold World.cell? at h0
        cases hsp : a.spot with
        | none => rfl
        | some s =>
          exfalso
          rw [hsp] at h0
          split at h0 <;> simp at h0
      obtain ⟨b, off, spot⟩ := a
      simp only at hs
      subst hs
      rw [Addr.add_lit] at h1
      exact ⟨b, off, rfl, by simpa using h1⟩
    · have hi' : i < len := by simpa using hi
      obtain ⟨y, hy⟩ := (hf i hi').2
      exact ⟨n, y, by simpa using hy⟩

theorem u8_of_wf {n : Int} (h : (Lit.int .u8 n).wf = true) : ∃ x : UInt8, n = (x.toNat : Int) := by
  obtain ⟨h0, h1⟩ := bounds_u8 h
  refine ⟨UInt8.ofNat n.toNat, ?_⟩
  rw [u8_ofNat]
  omega

theorem bytes_of_raw {t e : TypeId} {fuel : Nat} {cs : List Value} {x : DataW H × List MemPlace} (ht : P.underlying t = some (.slice e)) (he : P.underlying e = some (.int .u8)) (hc : P.cellsOf e = 1)
    (h : DataW.trod enc P w base spare held fuel t cs = some x) : ∃ v l, cs = [v] ∧ Bytes w v l := by
  obtain ⟨v, xs, rfl, hs, hx⟩ := sl_of_raw ht hc h
  have : ∀ i (hi : i < xs.length), ∃ x : UInt8, xs[i] = .int .u8 (x.toNat : Int) := by
    intro i hi
    obtain ⟨f, y, hy⟩ := hx i hi
    obtain ⟨n, e1, _, hw⟩ := DataW.trod_int he hy
    obtain ⟨z, rfl⟩ := u8_of_wf hw
    injection e1 with e1 _
    exact ⟨z, e1⟩
  have key : ∀ l : List Value, (∀ i (hi : i < l.length), ∃ x : UInt8, l[i] = .int .u8 (x.toNat : Int)) → ∃ m : List UInt8, l = u8s m := by
    intro l
    induction l with
    | nil => intro _; exact ⟨[], rfl⟩
    | cons a l ih =>
      intro hl
      obtain ⟨m, rfl⟩ := ih (fun i hi => by have := hl (i + 1) (by simpa using hi); simpa using this)
      obtain ⟨z, hz⟩ := hl 0 (by simp)
      exact ⟨z :: m, by simp only [List.getElem_cons_zero] at hz; rw [hz]; rfl⟩
  obtain ⟨m, rfl⟩ := key xs this
  exact ⟨v, m, rfl, hs⟩

theorem rows_of_raw {t e u : TypeId} {fuel : Nat} {cs : List Value} {x : DataW H × List MemPlace} (ht : P.underlying t = some (.slice e)) (hc : P.cellsOf e = 1) (he : P.underlying e = some (.slice u)) (hu : P.underlying u = some (.int .u8)) (hcu : P.cellsOf u = 1)
    (h : DataW.trod enc P w base spare held fuel t cs = some x) : ∃ v ls, cs = [v] ∧ Rows w v ls := by
  obtain ⟨v, xs, rfl, hs, hx⟩ := sl_of_raw ht hc h
  have each : ∀ i (hi : i < xs.length), ∃ l, Bytes w xs[i] l := by
    intro i hi
    obtain ⟨f, y, hy⟩ := hx i hi
    obtain ⟨v', l, e1, hb⟩ := bytes_of_raw he hu hcu hy
    injection e1 with e1 _
    exact ⟨l, by rw [e1]; exact hb⟩
  obtain ⟨g, hg⟩ : ∃ g : Nat → List UInt8, ∀ i (hi : i < xs.length), Bytes w xs[i] (g i) := by
    have : ∀ i, ∃ l, ∀ (hi : i < xs.length), Bytes w xs[i] l := by
      intro i
      by_cases hi : i < xs.length
      · obtain ⟨l, hl⟩ := each i hi; exact ⟨l, fun _ => hl⟩
      · exact ⟨[], fun h => absurd h hi⟩
    exact ⟨fun i => (this i).choose, fun i => (this i).choose_spec⟩
  exact ⟨v, (List.range xs.length).map g, rfl, xs, hs, by simp, fun i h h' => by simpa using hg i h⟩
end

/-- A value that is no row of cells of its own. -/
theorem one_of_slice {v : Value} {cs : List Value} (h : v.cells.toList = cs) {x : Value} (hx : cs = [x]) (hv : ∃ a n c, v = .slice a n c) : v = x := by
  obtain ⟨a, n, c, rfl⟩ := hv
  rw [hx] at h
  simpa [Value.cells] using h
/-- An array of two bytes, by value. -/
theorem pair_of_raw {H : Type} {enc : TypeId × Value → H} {P : Program} {w : World} {base b0 : Nat} {spare : Nat → Bool} {held : Bool} {r : Reach} {t e : TypeId} {v : Value} {d : DataW H} {p : List MemPlace}
    (ht : P.underlying t = some (.array 2 e)) (he : P.underlying e = some (.int .u8)) (hc : P.cellsOf e = 1) (hct : P.cellsOf t = 2)
    (hv : Value.okWide P w r b0 t v) (h : DataW.Trod enc P w base spare held t v d p) : ∃ x y : UInt8, v = .agg #[.int .u8 (x.toNat : Int), .int .u8 (y.toNat : Int)] := by
  simp only [Value.okWide, ht] at hv
  obtain ⟨cs, rfl, hsz, _⟩ := hv
  obtain ⟨c0, c1, rfl⟩ := Go.Joins.array2 (hsz.trans hct)
  obtain ⟨fuel, hf⟩ := h
  obtain ⟨xs, m, _, _, _, hl, hx⟩ := DataW.trod_array ht hf
  have each : ∀ i (_ : i < 2) c, ((#[c0, c1] : Array Value).toList.drop (i * 1)).take 1 = [c] → ∃ x : UInt8, c = .int .u8 (x.toNat : Int) := by
    intro i hi c hcc
    have h1 := hx i hi
    rw [hc, show (Value.agg #[c0, c1]).cells.toList = (#[c0, c1] : Array Value).toList from rfl, hcc, List.getElem?_eq_getElem (by omega)] at h1
    obtain ⟨n, e1, _, hw⟩ := DataW.trod_int he h1
    obtain ⟨z, rfl⟩ := u8_of_wf hw
    injection e1 with e1 _
    exact ⟨z, e1⟩
  obtain ⟨x, rfl⟩ := each 0 (by omega) c0 rfl
  obtain ⟨y, rfl⟩ := each 1 (by omega) c1 rfl
  exact ⟨x, y, rfl⟩
end Go.Proofs.Ytpefengjpedifaa
