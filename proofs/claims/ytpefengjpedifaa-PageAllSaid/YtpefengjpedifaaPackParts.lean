/-
  Layer 2: parts, as they come in; the statements' own small functions.
-/
import Derived.Test.YtpefengjpedifaaPackAlive
namespace Go.Proofs.Ytpefengjpedifaa
open Go.RowKit

/-- A part's cells. -/
def partCells (p : Pack.Part) : List Value := [.int .i64 p.kind, .int .i64 p.n, .int .i64 p.most, .string ⟨p.s.toArray⟩, .bool p.is]
/-- A part stands here. -/
def PartAt (w : World) (b o : Nat) (p : Pack.Part) : Prop :=
  w.cell? ⟨b, o, none⟩ = some (.int .i64 p.kind) ∧ w.cell? ⟨b, o + 1, none⟩ = some (.int .i64 p.n) ∧ w.cell? ⟨b, o + 2, none⟩ = some (.int .i64 p.most) ∧ w.cell? ⟨b, o + 3, none⟩ = some (.string ⟨p.s.toArray⟩) ∧ w.cell? ⟨b, o + 4, none⟩ = some (.bool p.is)
theorem PartAt.of {w w' : World} {b o : Nat} {p : Pack.Part} (h : PartAt w b o p) (hb : w'.heap[b]? = w.heap[b]?) : PartAt w' b o p := by
  obtain ⟨h1, h2, h3, h4, h5⟩ := h
  have key : ∀ i, w'.cell? ⟨b, i, none⟩ = w.cell? ⟨b, i, none⟩ := fun i => World.cell?_of_block (w := w) hb
  exact ⟨(key _).trans h1, (key _).trans h2, (key _).trans h3, (key _).trans h4, (key _).trans h5⟩
/-- A slice of parts reads as these. -/
def Parts (w : World) (v : Value) (ps : List Pack.Part) : Prop :=
  ∃ (a : Option Addr) (cap : Nat), v = .slice a ps.length cap ∧ ps.length ≤ cap ∧ cap ≤ maxLen ∧ (∀ i (h : i < ps.length), ps[i].s.length ≤ maxLen) ∧
    ∀ i (h : i < ps.length), ∃ b off, a = some ⟨b, off, none⟩ ∧ PartAt w b (off + i * 5) ps[i]
theorem Parts.below {w w' : World} {v : Value} {ps : List Pack.Part} (h : Parts w v ps) (hb : Below w.heap.size w w') : Parts w' v ps := by
  obtain ⟨a, cap, rfl, h1, h2, h4, h3⟩ := h
  refine ⟨a, cap, rfl, h1, h2, h4, fun i hi => ?_⟩
  obtain ⟨b, off, e, hc⟩ := h3 i hi
  exact ⟨b, off, e, hc.of (hb.block b (World.block_lt_of_cell? w _ hc.1))⟩

theorem mass_take (ps : List Pack.Part) (k : Nat) (hk : k < ps.length) : ps.length + (((ps.take k).map (fun p => p.s.length)).sum + ps[k].s.length) ≤ Pack.mass ps := by
  unfold Pack.mass
  have h1 : ps = ps.take k ++ ps[k] :: ps.drop (k + 1) := by
    conv => lhs; rw [← List.take_append_drop k ps, List.drop_eq_getElem_cons hk]
  have h2 : (ps.map (fun p => p.s.length)).sum = ((ps.take k).map (fun p => p.s.length)).sum + (ps[k].s.length + ((ps.drop (k + 1)).map (fun p => p.s.length)).sum) := by
    conv => lhs; rw [h1, List.map_append, List.map_cons, List.sum_append, List.sum_cons]
  omega
theorem sum_snoc (ps : List Pack.Part) (k : Nat) (hk : k < ps.length) : ((ps.take (k + 1)).map (fun p => p.s.length)).sum = ((ps.take k).map (fun p => p.s.length)).sum + ps[k].s.length := by
  rw [take_succ_getD ps k hk, List.map_append, List.sum_append, List.map_cons, List.map_nil, List.sum_cons, List.sum_nil, Nat.add_zero]

theorem bytes_of_take (ps : List Pack.Part) (k : Nat) (hm : Pack.mass ps ≤ 2097152) : (Pack.written (ps.take k)).length ≤ 60000000 := by
  have h1 := Pack.written_le (ps.take k)
  have h2 : (ps.take k).length ≤ ps.length := by simp; omega
  have h3 : ((ps.take k).map (fun p => p.s.length)).sum ≤ (ps.map (fun p => p.s.length)).sum := by
    conv => rhs; rw [← List.take_append_drop k ps, List.map_append, List.sum_append]
    omega
  unfold Pack.mass at hm
  omega
theorem step_kind0 (p : Pack.Part) (hk : p.kind = 0) (l : List UInt8) : (if [p.n].all okNum then l ++ nums [p.n] else l) = l ++ p.bytes ∧ [p.n].all okNum = p.good := by
  unfold Pack.Part.bytes Pack.Part.good
  simp only [hk, if_true, all_one]
  unfold okNum
  by_cases h : 0 ≤ p.n ∧ p.n ≤ 4611686018427387904
  · simp only [h, and_self, decide_true, if_true, and_true]
    simp [nums]
  · simp only [h, decide_false, if_false, Bool.false_eq_true, and_true]
    simp
theorem step_kind1 (p : Pack.Part) (hk : p.kind = 1) (l : List UInt8) : (if p.s.length ≤ 65536 then l ++ (Pack.num p.s.length ++ p.s) else l) = l ++ p.bytes ∧ decide (p.s.length ≤ 65536) = p.good := by
  unfold Pack.Part.bytes Pack.Part.good
  have h0 : ¬ p.kind = 0 := by omega
  rw [if_neg h0, if_neg h0, if_pos hk, if_pos hk]
  refine ⟨?_, rfl⟩
  split <;> simp
theorem step_kind2 (p : Pack.Part) (hk : p.kind = 2) (l : List UInt8) : l ++ [if p.is then 1 else 0] = l ++ p.bytes ∧ p.good = true := by
  unfold Pack.Part.bytes Pack.Part.good
  have h0 : ¬ p.kind = 0 := by omega
  have h1 : ¬ p.kind = 1 := by omega
  rw [if_neg h0, if_neg h1, if_pos hk, if_neg h0, if_neg h1]
  exact ⟨rfl, rfl⟩
theorem step_kind3 (p : Pack.Part) (h0 : p.kind ≠ 0) (h1 : p.kind ≠ 1) (h2 : p.kind ≠ 2) (l : List UInt8) : l = l ++ p.bytes ∧ p.good = true := by
  unfold Pack.Part.bytes Pack.Part.good
  rw [if_neg h0, if_neg h1, if_neg h2, if_neg h0, if_neg h1]
  simp

theorem Own.mono {w : World} {b b' : Nat} {v : Value} {l : List UInt8} (h : Own w b v l) (hb : b' ≤ b) : Own w b' v l := by
  obtain ⟨h1, h | ⟨g, cap, cur, e, hg, r⟩⟩ := h
  · exact ⟨h1, .inl h⟩
  · exact ⟨h1, .inr ⟨g, cap, cur, e, Nat.le_trans hb hg, r⟩⟩
theorem Own.ext {w w' : World} {b : Nat} {v : Value} {l : List UInt8} (h : Own w b v l) (hb : Ext w w') : Own w' b v l := by
  obtain ⟨h1, h | ⟨g, cap, cur, e, hg, hh, r⟩⟩ := h
  · exact ⟨h1, .inl h⟩
  · exact ⟨h1, .inr ⟨g, cap, cur, e, hg, by rw [hb.block g (Array.getElem?_eq_some_iff.1 hh).1]; exact hh, r⟩⟩
theorem Ints.two (w : World) (o : Obj) (n : Int) : Ints ((w.alloc o).alloc (.cells #[.int .i64 n] 3)) (.slice (some ⟨w.heap.size + 1, 0, none⟩) 1 1) [n] := by
  have := Ints.one (w.alloc o) n
  rwa [World.size_alloc] at this
end Go.Proofs.Ytpefengjpedifaa
