/-
  Layer 5: entries of the program's, of the document's (the statements' own); a cut that is read as it was, and a chain.
-/
import Derived.Test.YtboopfbflfimlaaEntL
import Derived.Test.YtboopfbflfimlaaLibN
namespace Go.Proofs.Ytboopfbflfimlaa
set_option linter.unusedSimpArgs false
set_option linter.unusedVariables false
set_option maxRecDepth 100000
open Go.RowKit

/-- The cells of entries, each with its cut's slice. -/
def entFlat (ps : List (Value × Ent.E)) : List Value := ps.flatMap fun p => [.int .i64 p.2.number, .int .i64 p.2.kind, p.1, .int .i64 p.2.tag, .int .i64 p.2.term, .int .i64 p.2.pos]
theorem entFlat_append (ps qs : List (Value × Ent.E)) : entFlat (ps ++ qs) = entFlat ps ++ entFlat qs := by simp [entFlat]
theorem entFlat_length (ps : List (Value × Ent.E)) : (entFlat ps).length = ps.length * 6 := by
  induction ps with
  | nil => rfl
  | cons p ps ih =>
    simp only [entFlat, List.flatMap_cons, List.length_append, List.length_cons, List.length_nil] at ih ⊢
    omega
theorem entFlat_at : ∀ (ps : List (Value × Ent.E)) (i j : Nat) (hi : i < ps.length), j < 6 → (entFlat ps)[i * 6 + j]? = [Value.int .i64 ps[i].2.number, .int .i64 ps[i].2.kind, ps[i].1, .int .i64 ps[i].2.tag, .int .i64 ps[i].2.term, .int .i64 ps[i].2.pos][j]? := by
  intro ps
  induction ps with
  | nil => intro i j hi; exact absurd hi (by simp)
  | cons p ps ih =>
    intro i j hi hj
    unfold entFlat
    rw [List.flatMap_cons]
    cases i with
    | zero => rw [Nat.zero_mul, Nat.zero_add, List.getElem?_append_left (by simpa using hj)]; rfl
    | succ i =>
      rw [List.getElem?_append_right (by simp; omega)]
      have e : (i + 1) * 6 + j - [Value.int IntKind.i64 p.2.number, .int .i64 p.2.kind, p.1, .int .i64 p.2.tag, .int .i64 p.2.term, .int .i64 p.2.pos].length = i * 6 + j := by
        simp only [List.length_cons, List.length_nil]
        omega
      rw [e]
      exact ih i j (by simpa using hi) hj
theorem ents_of_flat {w : World} {v : Value} {ps : List (Value × Ent.E)} (h1 : ∀ p ∈ ps, Ints w p.1 p.2.cut) (h2 : SlN 6 w v ps.length (entFlat ps)) : Ents w v (ps.map (·.2)) := by
  obtain ⟨a, cap, rfl, q1, q2, q4, q5, q3⟩ := h2
  refine ⟨a, cap, by simp, by simpa using q1, q2, q4, fun i hi => ?_⟩
  have hi' : i < ps.length := by simpa using hi
  have hl := entFlat_length ps
  have cell : ∀ j, j < 6 → ∃ b off, a = some ⟨b, off, none⟩ ∧ w.cell? ⟨b, off + (i * 6 + j), none⟩ = [Value.int .i64 ps[i].2.number, .int .i64 ps[i].2.kind, ps[i].1, .int .i64 ps[i].2.tag, .int .i64 ps[i].2.term, .int .i64 ps[i].2.pos][j]? := by
    intro j hj
    obtain ⟨b, off, e, hc⟩ := q3 (i * 6 + j) (by omega)
    have hx := entFlat_at ps i j hi' hj
    rw [List.getElem?_eq_getElem (by omega)] at hx
    exact ⟨b, off, e, hc.trans hx⟩
  obtain ⟨b, off, rfl, k0⟩ := cell 0 (by omega)
  have same : ∀ j, j < 6 → w.cell? ⟨b, off + (i * 6 + j), none⟩ = [Value.int .i64 ps[i].2.number, .int .i64 ps[i].2.kind, ps[i].1, .int .i64 ps[i].2.tag, .int .i64 ps[i].2.term, .int .i64 ps[i].2.pos][j]? := by
    intro j hj
    obtain ⟨b', off', e, hc⟩ := cell j hj
    injection e with e
    injection e with e1 e2
    subst e1 e2
    exact hc
  refine ⟨b, off, rfl, ps[i].1, ?_⟩
  simp only [List.getElem_map]
  exact ⟨same 0 (by omega), same 1 (by omega), same 2 (by omega), same 3 (by omega), same 4 (by omega), same 5 (by omega), h1 _ (List.getElem_mem _)⟩
theorem entFlat_one {w : World} {ps : List (Value × Ent.E)} (h : ∀ p ∈ ps, Ints w p.1 p.2.cut) : ∀ y ∈ entFlat ps, y.oneCell' = true := by
  intro y hy
  unfold entFlat at hy
  rw [List.mem_flatMap] at hy
  obtain ⟨p, hp, hy⟩ := hy
  obtain ⟨a, n, c, e⟩ := Ints.isSlice (h p hp)
  simp only [List.mem_cons, List.not_mem_nil, or_false] at hy
  rcases hy with rfl | rfl | rfl | rfl | rfl | rfl
  · rfl
  · rfl
  · rw [e]; rfl
  · rfl
  · rfl
  · rfl
theorem tE : ElemN Try.prog 45 31 (.agg #[.int .i64 0, .int .i64 0, .slice none 0 0, .int .i64 0, .int .i64 0, .int .i64 0]) 6 64 := ⟨Try.underlying45, by kernel_rfl, rfl, by omega⟩

/-- A row of entries of the call's own: what it holds; the cuts' slices were there ahead of it. -/
def OwnEnts (w0 w : World) (base : Nat) (v : Value) (l : List Ent.E) : Prop := ∃ ps : List (Value × Ent.E), ps.map (·.2) = l ∧ (∀ p ∈ ps, Ints w0 p.1 p.2.cut) ∧ w.ownsRow base 31 6 v l.length (entFlat ps)
theorem OwnEnts.ents {w0 w : World} {base : Nat} {v : Value} {l : List Ent.E} (h : OwnEnts w0 w base v l) (hE : Ext w0 w) : Ents w v l := by
  obtain ⟨ps, rfl, h1, h2⟩ := h
  refine ents_of_flat (fun p hp => (h1 p hp).below hE) ?_
  have := SlN.ofOwn h2
  rwa [List.length_map] at this
theorem OwnEnts.nil (w0 w : World) (base : Nat) : OwnEnts w0 w base (.slice none 0 0) [] := ⟨[], rfl, by simp, World.ownsRow_nil _ _ _ _⟩
theorem OwnEnts.ext {w0 w w' : World} {base : Nat} {v : Value} {l : List Ent.E} (h : OwnEnts w0 w base v l) (hE : Ext w w') : OwnEnts w0 w' base v l := by
  obtain ⟨ps, h1, h2, h3⟩ := h
  exact ⟨ps, h1, h2, rowExt h3 hE⟩
theorem OwnEnts.isSlice {w0 w : World} {base : Nat} {v : Value} {l : List Ent.E} (h : OwnEnts w0 w base v l) : ∃ a c, v = .slice a l.length c := by
  obtain ⟨ps, h1, h2, h3⟩ := h
  rcases h3.2 with ⟨rfl, h0⟩ | ⟨g, c, cur, rfl, _⟩
  · rw [h0]; exact ⟨_, _, rfl⟩
  · exact ⟨_, _, rfl⟩
/-- A block with one entry in it. -/
theorem SlN.one6 (w : World) {T : TypeId} (u : Value) (e : Ent.E) : SlN 6 (w.alloc (.cells #[.int .i64 e.number, .int .i64 e.kind, u, .int .i64 e.tag, .int .i64 e.term, .int .i64 e.pos] T)) (.slice (some ⟨w.heap.size, 0, none⟩) 1 1) 1 (entFlat [(u, e)]) := by
  refine ⟨_, _, rfl, Nat.le_refl _, by simp [maxLen], fun e => by simp at e, rfl, fun j hj => ⟨_, _, rfl, ?_⟩⟩
  have hj6 : j < 6 := by simpa [entFlat] using hj
  rw [Nat.zero_add, World.cell?_alloc_mark]
  simp [entFlat]

set_option maxHeartbeats 4000000 in
theorem own5_any (v : Value) (l : List Ent.E) (w : World) (hv : Ents w v l) (hl : l.length * 64 ≤ 140737488355328) :
    Calls Try.prog 20 #[v] w fun x w' => ∃ u, x = .returned u ∧ OwnEnts w w' w.heap.size u l ∧ Ext w w' := by
  have HV := Lib.hid hv
  obtain ⟨a, cap, rfl, hcap, hmax⟩ := hv.shape
  clear hv
  have te := tE
  go_enter Try.func20, Try.ntmps20
  go_wp2_with fail
  go_loopw [3, 5, 8] (fun o _ i wr => ∃ k : Nat, k ≤ l.length ∧ i = .int .i64 k ∧ Hid (OwnEnts w wr w.heap.size o (l.take k)) ∧ Ext w wr) (fun _ _ i _ => l.length - (intOf i).toNat)
  case atStart => exact ⟨0, by omega, rfl, OwnEnts.nil _ _ _, Ext.refl _⟩
  case round =>
    obtain ⟨k, hk, rfl, ho, hE⟩ := hrel
    by_cases hlt : k < l.length
    · obtain ⟨a', cap', e', _, _, _, hc⟩ := HV.out
      obtain ⟨b, off, rfl, t, p0, p1, p2, p3, p4, p5, ht⟩ := hc k hlt
      injection e' with e1' e2' e3'
      subst e1'
      clear hc e2' e3'
      have hb := World.block_lt_of_cell? _ _ p0
      have key : ∀ i, wr.cell? ⟨b, i, none⟩ = w.cell? ⟨b, i, none⟩ := fun i => hE.cell (p := ⟨b, i, none⟩) hb
      rw [← key] at p0 p1 p2 p3 p4 p5
      clear key hb
      obtain ⟨a2, cap2, rfl, hcap2, hmax2, _, _⟩ := ht.open
      have hnx := take_succ_getD l k hlt
      have HT := Lib.hid ht
      obtain ⟨ps, hps, hpi, hown⟩ := ho.out
      generalize l[k] = R at *
      obtain ⟨n, kd, c, tg, m, p⟩ := R
      simp only at *
      have HNX := Lib.hid hnx
      have hlk : (l.take k).length = k := by rw [List.length_take]; omega
      rw [hlk] at hown
      have HPS := Lib.hid hps
      have HPI := Lib.hid hpi
      obtain ⟨ao, no, co, rfl⟩ := ownSlice hown
      have hEa : Ext wr (wr.alloc (.cells #[.int .i64 n, .int .i64 kd, .slice a2 c.length cap2, .int .i64 tg, .int .i64 m, .int .i64 p] 26)) := Ext.alloc _ _
      have hEb : Ext (wr.alloc (.cells #[.int .i64 n, .int .i64 kd, .slice a2 c.length cap2, .int .i64 tg, .int .i64 m, .int .i64 p] 26)) ((wr.alloc (.cells #[.int .i64 n, .int .i64 kd, .slice a2 c.length cap2, .int .i64 tg, .int .i64 m, .int .i64 p] 26)).alloc (.cells #[.int .i64 n, .int .i64 kd, .slice a2 c.length cap2, .int .i64 tg, .int .i64 m, .int .i64 p] 31)) := Ext.alloc _ _
      have O2 := Lib.hid (rowExt (rowExt hown hEa) hEb)
      have HSL := Lib.hid (SlN.one6 (T := 31) (wr.alloc (.cells #[.int .i64 n, .int .i64 kd, .slice a2 c.length cap2, .int .i64 tg, .int .i64 m, .int .i64 p] 26)) (.slice a2 c.length cap2) ⟨n, kd, c, tg, m, p⟩)
      have HSL2 := Lib.hid (show SlN 6 ((wr.alloc (.cells #[.int .i64 n, .int .i64 kd, .slice a2 c.length cap2, .int .i64 tg, .int .i64 m, .int .i64 p] 26)).alloc (.cells #[.int .i64 n, .int .i64 kd, .slice a2 c.length cap2, .int .i64 tg, .int .i64 m, .int .i64 p] 31)) (.slice (some ⟨wr.heap.size + 1, 0, none⟩) 1 1) 1 (entFlat [(.slice a2 c.length cap2, ⟨n, kd, c, tg, m, p⟩)]) by have := HSL.out; rwa [World.size_alloc] at this)
      have hone := entFlat_one (w := w) (ps := [(.slice a2 c.length cap2, ⟨n, kd, c, tg, m, p⟩)]) (by intro q hq; obtain rfl := List.mem_singleton.1 hq; exact HT.out)
      have hk1 : k + 1 ≤ maxLen := by unfold maxLen; omega
      have hk2 : (k + 1) * 64 ≤ 140737488355328 := by omega
      have hEw := Lib.hid ((hE.trans hEa).trans hEb)
      clear hps hpi hown hnx hlk ht
      go_wp2_with (at_builtin; refine wpList_appN rfl (.tmp 12) (.tmp 14) te rfl rfl rfl O2.out HSL2.out hone hk1 hk2 hEw.out.size ?_; intro v9 w9 hown9 hg9)
      obtain ⟨a9, n9, c9, rfl⟩ := ownSlice hown9
      have hE9 : Ext w w9 := Below.grown hEw.out hg9 hEw.out.size (fun j hj => (O2.out.lt j hj).1)
      have HO9 := Lib.hid hown9
      clear hown9 hg9
      go_wp2_with fail
      go_roundw
      case rel =>
        refine ⟨k + 1, by omega, by go_num, ?_, hE9⟩
        unfold Hid
        rw [HNX.out]
        refine ⟨ps ++ [(.slice a2 c.length cap2, ⟨n, kd, c, tg, m, p⟩)], by rw [List.map_append, HPS.out]; rfl, ?_, ?_⟩
        · intro q hq
          rcases List.mem_append.1 hq with h | h
          · exact HPI.out q h
          · obtain rfl := List.mem_singleton.1 h
            exact HT.out
        · rw [List.length_append, List.length_take, Nat.min_eq_left hk, entFlat_append]
          exact HO9.out
      case measure => simp [intOf]; omega
    · have hall : l.take k = l := List.take_of_length_le (by omega)
      rw [hall] at ho
      obtain ⟨ao, co, rfl⟩ := ho.out.isSlice
      clear hall
      go_wp2_with fail
      go_ret
      exact ⟨_, rfl, ho.out, hE⟩
end Go.Proofs.Ytboopfbflfimlaa
