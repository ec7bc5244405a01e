/-
  Layer 8: scripts of calls, out of what comes in; the statements' few.
-/
import Derived.Test.YtpefengjpedifaaPgW
namespace Go.Proofs.Ytpefengjpedifaa
set_option linter.unusedSimpArgs false
set_option linter.unusedVariables false
set_option maxRecDepth 100000
open Go.ChangeShapes Go.WideShapes Go.ChangeAt Go.RowKit

namespace Page
/-- A call. -/
structure Op where
  kind : Int
  n : Int
  b : List UInt8
  is : Bool
def Op.Fits (o : Op) : Prop := (-9223372036854775808 ≤ o.n ∧ o.n ≤ 9223372036854775807) ∧ o.b.length ≤ 140737488351232
def mass (l : List Op) : Nat := (l.map fun o => o.b.length + 6).sum
def few (l : List Op) : Bool := decide (l.length ≤ 60) && decide (mass l ≤ 20000)
theorem mass_take {l : List Op} {k : Nat} (hk : k < l.length) : mass (l.take (k + 1)) = mass (l.take k) + (l[k].b.length + 6) := by
  unfold mass
  rw [List.take_succ_eq_append_getElem hk]
  simp only [List.map_append, List.map_cons, List.map_nil, List.sum_append, List.sum_cons, List.sum_nil, Nat.add_zero]
theorem mass_le {l : List Op} (h : ∀ o ∈ l, o.Fits) : mass l ≤ l.length * 140737488351238 := by
  induction l with
  | nil => simp [mass]
  | cons o l ih =>
    have h1 := (h o (by simp)).2
    have h2 := ih (fun x hx => h x (by simp [hx]))
    unfold mass at h2 ⊢
    simp only [List.map_cons, List.sum_cons, List.length_cons]
    omega
theorem mass_take_le {l : List Op} (h : ∀ o ∈ l, o.Fits) (k : Nat) : mass (l.take k) ≤ k * 140737488351238 :=
  Nat.le_trans (mass_le (l := l.take k) (fun o ho => h o (List.mem_of_mem_take ho))) (Nat.mul_le_mul_right _ (List.length_take_le k l))
theorem mass_mem {l : List Op} {o : Op} (h : o ∈ l) : o.b.length ≤ mass l := by
  induction l with
  | nil => simp at h
  | cons x l ih =>
    unfold mass at ih ⊢
    simp only [List.map_cons, List.sum_cons]
    rcases List.mem_cons.1 h with rfl | h
    · omega
    · have := ih h
      omega
end Page
def opV (o : Page.Op) (t : Value) : Value := .agg #[.int .i64 o.kind, .int .i64 o.n, t, .bool o.is]
def OpHere (w : World) (b off : Nat) (o : Page.Op) : Prop := ∃ t : Value, w.cell? ⟨b, off, none⟩ = some (.int .i64 o.kind) ∧ w.cell? ⟨b, off + 1, none⟩ = some (.int .i64 o.n) ∧ w.cell? ⟨b, off + 2, none⟩ = some t ∧ w.cell? ⟨b, off + 3, none⟩ = some (.bool o.is) ∧ Bytes w t o.b
theorem OpHere.below {w w' : World} {b off : Nat} {o : Page.Op} (h : OpHere w b off o) (hb : Below w.heap.size w w') : OpHere w' b off o := by
  obtain ⟨t, h0, h1, h2, h3, h4⟩ := h
  exact ⟨t, cell_below h0 hb, cell_below h1 hb, cell_below h2 hb, cell_below h3 hb, h4.below hb⟩
def Ops (w : World) (v : Value) (l : List Page.Op) : Prop :=
  ∃ (a : Option Addr) (cap : Nat), v = .slice a l.length cap ∧ l.length ≤ cap ∧ cap ≤ maxLen ∧ (a = none → cap = 0) ∧ ∀ i (h : i < l.length), ∃ b off, a = some ⟨b, off, none⟩ ∧ OpHere w b (off + i * 4) l[i]
theorem Ops.below {w w' : World} {v : Value} {l : List Page.Op} (h : Ops w v l) (hb : Below w.heap.size w w') : Ops w' v l := by
  obtain ⟨a, cap, rfl, h1, h2, h4, h3⟩ := h
  refine ⟨a, cap, rfl, h1, h2, h4, fun i hi => ?_⟩
  obtain ⟨b, off, e, hc⟩ := h3 i hi
  exact ⟨b, off, e, hc.below hb⟩
theorem Ops.len {w : World} {a : Option Addr} {n c : Nat} {l : List Page.Op} (h : Ops w (.slice a n c) l) : n = l.length ∧ n ≤ c ∧ c ≤ 9223372036854775807 := by
  obtain ⟨_, _, e, h1, h2, _⟩ := h
  injection e with e1 e2 e3
  subst e3
  unfold maxLen at h2
  omega

section
variable {H : Type} {enc : TypeId × Value → H} {w : World} {base : Nat} {spare : Nat → Bool} {held : Bool}
theorem weights_all_mem {P : Program} {e : TypeId} : ∀ (q : List (DataW H × List MemPlace)) (k : Nat) (hk : k < q.length) (m : Nat), m ∈ q[k].1.weights P e → m ∈ DataW.weightsAll P e (q.map (·.1)) := by
  intro q
  induction q with
  | nil => intro k hk; exact absurd hk (by simp)
  | cons d q ih =>
    intro k hk m hm
    simp only [List.map_cons, DataW.weightsAll, List.mem_append]
    cases k with
    | zero => exact .inl hm
    | succ k => exact .inr (ih k (by simpa using hk) m (by simpa using hm))
theorem four_of8 {α : Type} {l : List α} (h : l.length = 4) : ∃ a b c d, l = [a, b, c, d] := by
  match l, h with
  | [a, b, c, d], _ => exact ⟨a, b, c, d, rfl⟩
theorem op_of_raw {fuel : Nat} {cs : List Value} {x : DataW H × List MemPlace} (h : DataW.trod enc Try.prog w base spare held fuel 34 cs = some x) (hw : ∀ m ∈ x.1.weights Try.prog 34, m ≤ 140737488351232) :
    ∃ (t : Value) (o : Page.Op), cs = [.int .i64 o.kind, .int .i64 o.n, t, .bool o.is] ∧ Bytes w t o.b ∧ o.Fits := by
  obtain ⟨xs, n, _, rfl, hl, hlen, hf⟩ := DataW.trod_struct Try.underlying34 h
  have hc : Try.prog.cellsOf 34 = 4 := by kernel_rfl
  have hi : Try.prog.cellsOf 3 = 1 := by kernel_rfl
  have hu : Try.prog.cellsOf 22 = 1 := by kernel_rfl
  have hb : Try.prog.cellsOf 4 = 1 := by kernel_rfl
  rw [hc] at hl
  obtain ⟨c0, c1, c2, c3, rfl⟩ := four_of8 hl
  obtain ⟨y0, y1, y2, y3, rfl⟩ := four_of8 hlen
  have f0 := hf 0 _ rfl
  have f1 := hf 1 _ rfl
  have f2 := hf 2 _ rfl
  have f3 := hf 3 _ rfl
  simp only [hi, hu, hb, List.drop_zero, List.drop_succ_cons, List.take_succ_cons, List.take_zero, List.getElem?_cons_zero, List.getElem?_cons_succ] at f0 f1 f2 f3
  obtain ⟨n0, e0, _, _⟩ := DataW.trod_int Try.underlying3 f0
  obtain ⟨n1, e1, _, hw1⟩ := DataW.trod_int Try.underlying3 f1
  obtain ⟨v, l, e2, hv⟩ := bytes_of_raw Try.underlying22 Try.underlying5 (by kernel_rfl) f2
  obtain ⟨b3, e3, _⟩ := DataW.trod_bool Try.underlying4 f3
  injection e0 with e0 _
  injection e1 with e1 _
  injection e2 with e2 _
  injection e3 with e3 _
  subst e0 e1 e2 e3
  refine ⟨_, ⟨n0, n1, l, b3⟩, rfl, hv, bounds_i64 hw1, ?_⟩
  obtain ⟨av, nv, cv, rfl⟩ := hv.isSlice
  obtain ⟨hvn, _, _⟩ := hv.len
  rcases len_of_raw Try.underlying22 f2 with h0 | ⟨es, sp, e6, e7⟩
  · show l.length ≤ _
    omega
  · have hm := hw ((es.length + sp.length) * Try.prog.bytesOf 5) (by
      simp only [DataW.weights, Try.underlying34]
      refine DataW.weights_mem_each (j := 2) (t := 22) (d := y2.1) rfl rfl _ ?_
      rw [e6]
      simp [DataW.weights, Try.underlying22])
    have hu1 : Try.prog.bytesOf 5 = 1 := by kernel_rfl
    rw [hu1] at hm
    show l.length ≤ _
    omega
theorem ops_of_raw {fuel : Nat} {cs : List Value} {x : DataW H × List MemPlace} (h : DataW.trod enc Try.prog w base spare held fuel 23 cs = some x) (hw : ∀ m ∈ x.1.weights Try.prog 23, m ≤ 140737488351232) :
    ∃ v l, cs = [v] ∧ Ops w v l ∧ ∀ o ∈ l, o.Fits := by
  have hc : Try.prog.cellsOf 34 = 4 := by kernel_rfl
  rcases DataW.trod_slice Try.underlying23 h with ⟨rfl, _⟩ | ⟨a, len, cap, elems, rest, n, _, rfl, rfl, _, hl, hm, hlen, hel, _, _⟩
  · exact ⟨_, [], rfl, ⟨none, 0, rfl, Nat.le_refl _, by simp [maxLen], fun _ => rfl, fun i hi => absurd hi (by simp)⟩, fun o ho => absurd ho (by simp)⟩
  · rw [hc] at hel
    have each : ∀ i (hi : i < elems.length), ∃ (o : Page.Op) (t : Value), Bytes w t o.b ∧ o.Fits ∧ ∀ j, j < 4 → w.cell? ((a.add (i * 4)).add j) = [Value.int .i64 o.kind, .int .i64 o.n, t, .bool o.is][j]? := by
      intro i hi
      have h1 := hel i (by omega)
      rw [List.getElem?_eq_getElem hi, Option.bind_eq_some_iff] at h1
      obtain ⟨ds, hds, hy⟩ := h1
      obtain ⟨t, o, rfl, ht, hf⟩ := op_of_raw hy (fun m hm => hw m (by
        have := weights_all_mem elems i hi m hm
        simp only [DataW.weights, Try.underlying23, List.mem_cons, List.mem_append]
        exact .inr (.inl this)))
      exact ⟨o, t, ht, hf, (World.cells?_some hds).2.2⟩
    obtain ⟨f, hf⟩ : ∃ f : Nat → Page.Op, ∀ i (hi : i < elems.length), (∃ t : Value, Bytes w t (f i).b ∧ ∀ j, j < 4 → w.cell? ((a.add (i * 4)).add j) = [Value.int .i64 (f i).kind, .int .i64 (f i).n, t, .bool (f i).is][j]?) ∧ (f i).Fits := by
      have : ∀ i, ∃ o : Page.Op, ∀ (hi : i < elems.length), (∃ t : Value, Bytes w t o.b ∧ ∀ j, j < 4 → w.cell? ((a.add (i * 4)).add j) = [Value.int .i64 o.kind, .int .i64 o.n, t, .bool o.is][j]?) ∧ o.Fits := by
        intro i
        by_cases hi : i < elems.length
        · obtain ⟨o, t, h1, h2, h3⟩ := each i hi
          exact ⟨o, fun _ => ⟨⟨t, h1, h3⟩, h2⟩⟩
        · exact ⟨⟨0, 0, [], false⟩, fun h => absurd h hi⟩
      exact ⟨fun i => (this i).choose, fun i => (this i).choose_spec⟩
    refine ⟨_, (List.range elems.length).map f, rfl, ⟨some a, cap, by simp [hlen], by simp; omega, hm, fun e => by simp at e, fun i hi => ?_⟩, fun o ho => ?_⟩
    · have hi' : i < elems.length := by simpa using hi
      obtain ⟨t, ht, hk⟩ := (hf i hi').1
      have hs : a.spot = none := by
        obtain ⟨t0, _, hk0⟩ := (hf 0 (by omega)).1
        have h0 := hk0 0 (by omega)
        have e0 : (a.add (0 * 4)).add 0 = a := by simp [Addr.add]
        rw [e0] at h0
        unfold World.cell? at h0
        cases hsp : a.spot with
        | none => rfl
        | some s =>
          exfalso
          rw [hsp] at h0
          simp only [List.getElem?_cons_zero] at h0
          split at h0 <;> simp at h0
      obtain ⟨b, off, spot⟩ := a
      simp only at hs
      subst hs
      have k0 := hk 0 (by omega)
      have k1 := hk 1 (by omega)
      have k2 := hk 2 (by omega)
      have k3 := hk 3 (by omega)
      simp only [Addr.add_lit, Nat.add_zero, List.getElem?_cons_zero, List.getElem?_cons_succ] at k0 k1 k2 k3
      simp only [List.getElem_map, List.getElem_range]
      exact ⟨b, off, rfl, t, k0, k1, k2, k3, ht⟩
    · obtain ⟨i, hi, rfl⟩ := List.mem_map.1 ho
      exact (hf i (List.mem_range.1 hi)).2
end
end Go.Proofs.Ytpefengjpedifaa
