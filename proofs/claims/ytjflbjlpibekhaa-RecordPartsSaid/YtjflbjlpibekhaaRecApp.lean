/-
  Layer 4: rows of records behind one another.
-/
import Derived.Test.YtjflbjlpibekhaaRecG
import Derived.Test.YtjflbjlpibekhaaLibN
namespace Go.Proofs.Ytjflbjlpibekhaa
set_option maxRecDepth 100000
open Go.RowKit

/-- The cells of records, each with its tags' slice. -/
def recFlat (ps : List (Value × Rec.R)) : List Value := ps.flatMap fun p => [.int .i64 p.2.client, .int .i64 p.2.number, p.1, .string ⟨p.2.data.toArray⟩]
theorem recFlat_append (ps qs : List (Value × Rec.R)) : recFlat (ps ++ qs) = recFlat ps ++ recFlat qs := by simp [recFlat]
theorem recFlat_length (ps : List (Value × Rec.R)) : (recFlat ps).length = ps.length * 4 := by
  induction ps with
  | nil => rfl
  | cons p ps ih =>
    simp only [recFlat, List.flatMap_cons, List.length_append, List.length_cons, List.length_nil] at ih ⊢
    omega
theorem recFlat_at : ∀ (ps : List (Value × Rec.R)) (i j : Nat) (hi : i < ps.length), j < 4 → (recFlat ps)[i * 4 + j]? = [Value.int .i64 ps[i].2.client, .int .i64 ps[i].2.number, ps[i].1, .string ⟨ps[i].2.data.toArray⟩][j]? := by
  intro ps
  induction ps with
  | nil => intro i j hi; exact absurd hi (by simp)
  | cons p ps ih =>
    intro i j hi hj
    unfold recFlat
    rw [List.flatMap_cons]
    cases i with
    | zero => rw [Nat.zero_mul, Nat.zero_add, List.getElem?_append_left (by simpa using hj)]; rfl
    | succ i =>
      rw [List.getElem?_append_right (by simp; omega)]
      have e : (i + 1) * 4 + j - [Value.int IntKind.i64 p.2.client, .int .i64 p.2.number, p.1, .string ⟨p.2.data.toArray⟩].length = i * 4 + j := by
        simp only [List.length_cons, List.length_nil]
        omega
      rw [e]
      exact ih i j (by simpa using hi) hj
theorem recs_flat {w : World} {v : Value} {l : List Rec.R} (h : Recs w v l) : ∃ ps : List (Value × Rec.R), ps.map (·.2) = l ∧ (∀ p ∈ ps, Ints w p.1 p.2.tags) ∧ SlN 4 w v l.length (recFlat ps) := by
  obtain ⟨a, cap, rfl, h1, h2, h4, h3⟩ := h
  obtain ⟨f, hf⟩ : ∃ f : Nat → Value, ∀ i (hi : i < l.length), ∃ b off, a = some ⟨b, off, none⟩ ∧ w.cell? ⟨b, off + i * 4, none⟩ = some (.int .i64 l[i].client) ∧ w.cell? ⟨b, off + i * 4 + 1, none⟩ = some (.int .i64 l[i].number) ∧ w.cell? ⟨b, off + i * 4 + 2, none⟩ = some (f i) ∧ w.cell? ⟨b, off + i * 4 + 3, none⟩ = some (.string ⟨l[i].data.toArray⟩) ∧ Ints w (f i) l[i].tags := by
    have : ∀ i, ∃ t : Value, ∀ (hi : i < l.length), ∃ b off, a = some ⟨b, off, none⟩ ∧ w.cell? ⟨b, off + i * 4, none⟩ = some (.int .i64 l[i].client) ∧ w.cell? ⟨b, off + i * 4 + 1, none⟩ = some (.int .i64 l[i].number) ∧ w.cell? ⟨b, off + i * 4 + 2, none⟩ = some t ∧ w.cell? ⟨b, off + i * 4 + 3, none⟩ = some (.string ⟨l[i].data.toArray⟩) ∧ Ints w t l[i].tags := by
      intro i
      by_cases hi : i < l.length
      · obtain ⟨b, off, e, t, k⟩ := h3 i hi
        exact ⟨t, fun _ => ⟨b, off, e, k⟩⟩
      · exact ⟨undef, fun h => absurd h hi⟩
    exact ⟨fun i => (this i).choose, fun i => (this i).choose_spec⟩
  have hlen : (l.zipIdx.map fun p => (f p.2, p.1)).length = l.length := by simp
  have hat : ∀ i (hi : i < l.length), (l.zipIdx.map fun p => (f p.2, p.1))[i]'(by rw [hlen]; exact hi) = (f i, l[i]) := by
    intro i hi
    simp
  refine ⟨l.zipIdx.map fun p => (f p.2, p.1), ?_, ?_, a, cap, rfl, h1, h2, h4, ?_, ?_⟩
  · apply List.ext_getElem
    · simp
    · intro i h5 h6
      simp
  · intro p hp
    obtain ⟨i, hi, rfl⟩ := List.getElem_of_mem hp
    rw [hlen] at hi
    rw [hat i hi]
    obtain ⟨_, _, _, _, _, _, _, h⟩ := hf i hi
    exact h
  · rw [recFlat_length, hlen]
  · intro j hj
    have hj' := hj
    rw [recFlat_length, hlen] at hj'
    have hi : j / 4 < l.length := by omega
    obtain ⟨b, off, e, k0, k1, k2, k3, _⟩ := hf (j / 4) hi
    refine ⟨b, off, e, ?_⟩
    have hr : j % 4 < 4 := Nat.mod_lt _ (by omega)
    have hx := recFlat_at (l.zipIdx.map fun p => (f p.2, p.1)) (j / 4) (j % 4) (by rw [hlen]; exact hi) hr
    have ej : j / 4 * 4 + j % 4 = j := by omega
    rw [ej, List.getElem?_eq_getElem hj, hat _ hi] at hx
    have eo : off + j = off + j / 4 * 4 + j % 4 := by omega
    rw [eo, hx]
    match hm : j % 4, hr with
    | 0, _ => exact k0
    | 1, _ => exact k1
    | 2, _ => exact k2
    | 3, _ => exact k3
theorem recs_of_flat {w : World} {v : Value} {ps : List (Value × Rec.R)} (h1 : ∀ p ∈ ps, Ints w p.1 p.2.tags) (h2 : SlN 4 w v ps.length (recFlat ps)) : Recs w v (ps.map (·.2)) := by
  obtain ⟨a, cap, rfl, q1, q2, q4, q5, q3⟩ := h2
  refine ⟨a, cap, by simp, by simpa using q1, q2, q4, fun i hi => ?_⟩
  have hi' : i < ps.length := by simpa using hi
  have hl := recFlat_length ps
  have cell : ∀ j, j < 4 → ∃ b off, a = some ⟨b, off, none⟩ ∧ w.cell? ⟨b, off + (i * 4 + j), none⟩ = [Value.int .i64 ps[i].2.client, .int .i64 ps[i].2.number, ps[i].1, .string ⟨ps[i].2.data.toArray⟩][j]? := by
    intro j hj
    obtain ⟨b, off, e, hc⟩ := q3 (i * 4 + j) (by omega)
    have hx := recFlat_at ps i j hi' hj
    rw [List.getElem?_eq_getElem (by omega)] at hx
    exact ⟨b, off, e, hc.trans hx⟩
  obtain ⟨b, off, rfl, k0⟩ := cell 0 (by omega)
  have same : ∀ j, j < 4 → w.cell? ⟨b, off + (i * 4 + j), none⟩ = [Value.int .i64 ps[i].2.client, .int .i64 ps[i].2.number, ps[i].1, .string ⟨ps[i].2.data.toArray⟩][j]? := by
    intro j hj
    obtain ⟨b', off', e, hc⟩ := cell j hj
    injection e with e
    injection e with e1 e2
    subst e1 e2
    exact hc
  refine ⟨b, off, rfl, ps[i].1, ?_⟩
  simp only [List.getElem_map]
  exact ⟨same 0 (by omega), same 1 (by omega), same 2 (by omega), same 3 (by omega), h1 _ (List.getElem_mem _)⟩
theorem recFlat_one {w : World} {ps : List (Value × Rec.R)} (h : ∀ p ∈ ps, Ints w p.1 p.2.tags) : ∀ y ∈ recFlat ps, y.oneCell' = true := by
  intro y hy
  unfold recFlat at hy
  rw [List.mem_flatMap] at hy
  obtain ⟨p, hp, hy⟩ := hy
  obtain ⟨a, n, c, e⟩ := Ints.isSlice (h p hp)
  simp only [List.mem_cons, List.not_mem_nil, or_false] at hy
  rcases hy with rfl | rfl | rfl | rfl
  · rfl
  · rfl
  · rw [e]; rfl
  · rfl
theorem tR : ElemN Try.prog 39 26 (.agg #[.int .i64 0, .int .i64 0, .slice none 0 0, .string ⟨#[]⟩]) 4 56 := ⟨Try.underlying39, by kernel_rfl, rfl, by omega⟩
end Go.Proofs.Ytjflbjlpibekhaa
