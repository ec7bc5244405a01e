/-
  Layer 6: configurations, and rows of numbers, out of what comes in.
-/
import Derived.Test.YtpfodkgncachiaaTrmS
import Derived.Test.YtpfodkgncachiaaVecRaw
import Derived.Test.YtpfodkgncachiaaPackRaw
import Derived.Test.YtpfodkgncachiaaRows
import Derived.Test.YtpfodkgncachiaaChecked
import Derived.SizedLaws
namespace Go.Proofs.Ytpfodkgncachiaa
set_option linter.unusedSimpArgs false
set_option linter.unusedVariables false
set_option maxRecDepth 100000
open Go.ChangeShapes Go.WideShapes Go.ChangeAt Go.RowKit

section
variable {H : Type} {enc : TypeId × Value → H} {w : World} {base : Nat} {spare : Nat → Bool} {held : Bool}

theorem intsFull {fuel : Nat} {cs : List Value} {x : DataW H × List MemPlace} (h : DataW.trod enc Try.prog w base spare held fuel 22 cs = some x) :
    ∃ v l, cs = [v] ∧ Ints w v l ∧ (∀ y ∈ l, Wf64 y) ∧ l.length ≤ Rows.uptoBulk x.1 := by
  obtain ⟨v, xs, rfl, hs, hx⟩ := sl_of_raw Try.underlying22 (by kernel_rfl) h
  have each : ∀ i (hi : i < xs.length), ∃ y : Int, xs[i] = .int .i64 y ∧ Wf64 y := by
    intro i hi
    obtain ⟨f, y, hy⟩ := hx i hi
    obtain ⟨n, e1, _, hw⟩ := DataW.trod_int Try.underlying3 hy
    injection e1 with e1 _
    exact ⟨n, e1, hw⟩
  have key : ∀ l : List Value, (∀ i (hi : i < l.length), ∃ y : Int, l[i] = .int .i64 y ∧ Wf64 y) → ∃ m : List Int, l = i64s m ∧ ∀ y ∈ m, Wf64 y := by
    intro l
    induction l with
    | nil => intro _; exact ⟨[], rfl, by simp⟩
    | cons a l ih =>
      intro hl
      obtain ⟨m, rfl, hm⟩ := ih (fun i hi => by have := hl (i + 1) (by simpa using hi); simpa using this)
      obtain ⟨z, hz, hzw⟩ := hl 0 (by simp)
      refine ⟨z :: m, by simp only [List.getElem_cons_zero] at hz; rw [hz]; rfl, ?_⟩
      intro y hy
      rcases List.mem_cons.1 hy with rfl | hy
      · exact hzw
      · exact hm y hy
  obtain ⟨m, rfl, hm⟩ := key xs each
  obtain ⟨a, cap, rfl, _⟩ := (show Ints w v m from hs).open
  exact ⟨_, m, rfl, hs, hm, bulk_of_raw Try.underlying22 h⟩

theorem irowsFull {fuel : Nat} {cs : List Value} {x : DataW H × List MemPlace} (h : DataW.trod enc Try.prog w base spare held fuel 23 cs = some x) :
    ∃ v ls, cs = [v] ∧ IRows w v ls ∧ (∀ y ∈ ls.flatten, Wf64 y) ∧ ls.flatten.length ≤ Rows.uptoBulk x.1 ∧ ls.length ≤ Rows.uptoBulk x.1 := by
  have hc : Try.prog.cellsOf 22 = 1 := by kernel_rfl
  have hb := h
  rcases DataW.trod_slice Try.underlying23 h with ⟨rfl, _⟩ | ⟨a, len, cap, elems, rest, n, _, rfl, rfl, _, hl, hm, hlen, hel, _, _⟩
  · exact ⟨_, [], rfl, irows0 _, by simp, by simp, by simp⟩
  · rw [hc] at hel
    have each : ∀ i, i < elems.length → ∃ c l, w.cell? (a.add i) = some c ∧ Ints w c l ∧ (∀ y ∈ l, Wf64 y) ∧ ∀ hi : i < elems.length, l.length ≤ Rows.uptoBulk elems[i].1 := by
      intro i hi
      have h1 := hel i (by omega)
      rw [Nat.mul_one, List.getElem?_eq_getElem hi, Option.bind_eq_some_iff] at h1
      obtain ⟨ds, hds, hy⟩ := h1
      have hlen1 := (World.cells?_some hds).2.1
      obtain ⟨v, l, hv, h2, h3, h4⟩ := intsFull hy
      subst hv
      exact ⟨v, l, cell_of_cells?_one hds, h2, h3, fun _ => h4⟩
    obtain ⟨f, hf⟩ : ∃ f : Nat → Value × List Int, ∀ i (hi : i < elems.length), w.cell? (a.add i) = some (f i).1 ∧ Ints w (f i).1 (f i).2 ∧ (∀ y ∈ (f i).2, Wf64 y) ∧ (f i).2.length ≤ Rows.uptoBulk elems[i].1 := by
      have : ∀ i, ∃ p : Value × List Int, ∀ (hi : i < elems.length), w.cell? (a.add i) = some p.1 ∧ Ints w p.1 p.2 ∧ (∀ y ∈ p.2, Wf64 y) ∧ p.2.length ≤ Rows.uptoBulk elems[i].1 := by
        intro i
        by_cases hi : i < elems.length
        · obtain ⟨c, l, h1, h2, h3, h4⟩ := each i hi
          exact ⟨(c, l), fun hi => ⟨h1, h2, h3, h4 hi⟩⟩
        · exact ⟨(undef, []), fun h => absurd h hi⟩
      exact ⟨fun i => (this i).choose, fun i => (this i).choose_spec⟩
    have hls : ((List.range elems.length).map fun i => (f i).2).length = elems.length := by simp
    refine ⟨_, (List.range elems.length).map fun i => (f i).2, rfl, ⟨(List.range elems.length).map fun i => (f i).1, ⟨some a, cap, by simp [hlen], by simp; omega, hm, fun e => by simp at e, fun i hi => ?_⟩, by simp, fun i hi hi' => ?_⟩, ?_, ?_, ?_⟩
    · have hi' : i < elems.length := by simpa using hi
      have h1 := (hf i hi').1
      have h0 := (hf 0 (by omega)).1
      have hs : a.spot = none := by
        have e0 : a.add 0 = a := by simp [Addr.add]
        rw [e0] at h0
        obtain ⟨_, _, he, _⟩ := (hf 0 (by omega)).2.1.open
        rw [he] at h0
        unfold World.cell? at h0
        cases hsp : a.spot with
        | none => rfl
        | some s =>
          exfalso
          rw [hsp] at h0
          split at h0 <;> simp at h0
      obtain ⟨b, off, spot⟩ := a
      simp only at hs
      subst hs
      rw [Addr.add_lit] at h1
      exact ⟨b, off, rfl, by simpa using h1⟩
    · have hi2 : i < elems.length := by simpa using hi
      simpa using (hf i hi2).2.1
    · intro y hy
      obtain ⟨l, hl1, hy1⟩ := List.mem_flatten.1 hy
      obtain ⟨i, hi, rfl⟩ := List.mem_map.1 hl1
      exact (hf i (List.mem_range.1 hi)).2.2.1 y hy1
    · have key : ∀ (es : List (DataW H × List MemPlace)) (g : Nat → List Int), (∀ i (hi : i < es.length), (g i).length ≤ Rows.uptoBulk es[i].1) → (((List.range es.length).map g).flatten).length ≤ Rows.uptoBulkAll (es.map (·.1)) := by
        intro es
        induction es with
        | nil => intro g _; simp
        | cons e es ih =>
          intro g hg
          have h1 := ih (fun i => g (i + 1)) (fun i hi => by have := hg (i + 1) (by simpa using hi); simpa using this)
          have h0 := hg 0 (by simp)
          rw [List.length_cons, List.range_succ_eq_map, List.map_cons, List.map_map, List.flatten_cons, List.length_append]
          simp only [List.map_cons, Rows.uptoBulkAll, List.getElem_cons_zero] at h0 ⊢
          have e1 : ((List.range es.length).map (g ∘ Nat.succ)) = ((List.range es.length).map fun i => g (i + 1)) := rfl
          rw [e1]
          omega
      have := key elems (fun i => (f i).2) (fun i hi => (hf i hi).2.2.2)
      simp only [Rows.uptoBulk]
      omega
    · have := bulk_of_raw Try.underlying23 hb
      rw [hls]
      omega

theorem threeOf {α : Type} {l : List α} (h : l.length = 3) : ∃ a b c, l = [a, b, c] := by
  match l, h with
  | [a, b, c], _ => exact ⟨a, b, c, rfl⟩
theorem confFull {fuel : Nat} {cs : List Value} {x : DataW H × List MemPlace} (h : DataW.trod enc Try.prog w base spare held fuel 25 cs = some x) :
    ∃ (s d : Value) (c : Term.C), cs = [.int .i64 c.term, s, d] ∧ Ints w s c.seqs ∧ IRows w d c.shards ∧ (∀ y ∈ Term.all c, Wf64 y) ∧ (Term.all c).length ≤ Rows.uptoBulk x.1 ∧ c.shards.length ≤ Rows.uptoBulk x.1 := by
  obtain ⟨xs, n, _, rfl, hl, hlen, hf⟩ := DataW.trod_struct Try.underlying25 h
  have hc : Try.prog.cellsOf 25 = 3 := by kernel_rfl
  have hi : Try.prog.cellsOf 3 = 1 := by kernel_rfl
  have hii : Try.prog.cellsOf 22 = 1 := by kernel_rfl
  have hiii : Try.prog.cellsOf 23 = 1 := by kernel_rfl
  rw [hc] at hl
  obtain ⟨c0, c1, c2, rfl⟩ := threeOf hl
  obtain ⟨y0, y1, y2, rfl⟩ := threeOf hlen
  have f0 := hf 0 _ rfl
  have f1 := hf 1 _ rfl
  have f2 := hf 2 _ rfl
  simp only [hi, hii, hiii, List.drop_zero, List.drop_succ_cons, List.take_succ_cons, List.take_zero, List.getElem?_cons_zero, List.getElem?_cons_succ] at f0 f1 f2
  obtain ⟨n0, e0, _, _⟩ := DataW.trod_int Try.underlying3 f0
  obtain ⟨v1, l1, e1, i1, w1, b1⟩ := intsFull f1
  obtain ⟨v2, l2, e2, i2, w2, b2, b3⟩ := irowsFull f2
  injection e0 with e0 _
  injection e1 with e1 _
  injection e2 with e2 _
  subst e0 e1 e2
  refine ⟨_, _, ⟨n0, l1, l2⟩, rfl, i1, i2, ?_, ?_, ?_⟩
  · intro y hy
    rcases List.mem_append.1 hy with hy | hy
    · exact w1 y hy
    · exact w2 y hy
  · show (l1 ++ l2.flatten).length ≤ _
    rw [List.length_append]
    simp only [List.map_cons, List.map_nil, Rows.uptoBulk, Rows.uptoBulkAll]
    omega
  · show l2.length ≤ _
    simp only [List.map_cons, List.map_nil, Rows.uptoBulk, Rows.uptoBulkAll]
    omega
theorem conf_full {r : Reach} {b0 : Nat} {v : Value} {d : DataW H} {p : List MemPlace} (hv : Value.okWide Try.prog w r b0 25 v) (h : DataW.Trod enc Try.prog w base spare held 25 v d p) :
    ∃ c, IsConf w v c ∧ (∀ y ∈ Term.all c, Wf64 y) ∧ (Term.all c).length ≤ Rows.uptoBulk d ∧ c.shards.length ≤ Rows.uptoBulk d := by
  obtain ⟨cs, rfl, hsz⟩ := okWide_struct Try.underlying25 hv
  obtain ⟨fuel, hf⟩ := h
  obtain ⟨s, d, c, hcs, h1, h2, h3, h4, h5⟩ := confFull hf
  obtain ⟨l⟩ := cs
  have e1 : l = [.int .i64 c.term, s, d] := hcs
  subst e1
  exact ⟨c, ⟨s, d, rfl, h1, h2⟩, h3, h4, h5⟩
theorem conf_arg {r : Reach} {b0 : Nat} {v : Value} {d : DataW H} {p : List MemPlace} (hv : Value.okWide Try.prog w r b0 25 v) (h : DataW.Trod enc Try.prog w base spare held 25 v d p) : ∃ c, IsConf w v c := by
  obtain ⟨c, hc, _⟩ := conf_full hv h
  exact ⟨c, hc⟩
end
end Go.Proofs.Ytpfodkgncachiaa
