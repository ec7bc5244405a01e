/-
  Merged: Layer 9: the library's slices.
-/
import Derived.Lib.SliceRun
import Derived.Test.YtaijgpdlgcgfaaaGreatBsSgA

namespace Go.Proofs.YtaijgpdlgcgfaaaGreat
set_option linter.unusedSimpArgs false
set_option linter.unusedVariables false
set_option maxRecDepth 100000
open Go.RowKit
/- Layer 9: the library's slices.Clone and slices.Delete at rows of records; a segment's drop. -/
/-- append within the capacity, whatever the shape of what is appended, in a drawn region. -/
theorem wp_fits {P : Program} {w : World} {o : Oper} {a : Act} {K : Act → World → Prop} {Q : Exit → Act → World → Prop} (s x : Operand) {t e : TypeId} {z : Value} {size bytes : Nat} (E : ElemN P t e z size bytes)
    (ho : o.op = .call { callee := .builtin .append, args := #[s, x], argTypes := #[t, t] }) {base g k cap : Nat} {xs : List Value} (hs : a.eval s = .slice (some ⟨g, 0, none⟩) k cap) (hown : w.ownsRow base e size (.slice (some ⟨g, 0, none⟩) k cap) k xs)
    {ao : Option Addr} {m c : Nat} {news : List Value} (hx : a.eval x = .slice ao m c) (hn : news.length = m * size) (hnone : ao = none → m = 0 ∧ c = 0) (hc : ∀ ad, ao = some ad → ∀ j u, news[j]? = some u → w.cell? (ad.add j) = some u) (h1 : ∀ y ∈ news, y.oneCell' = true) (hfit : k + m ≤ cap)
    (h : ∀ w', w'.ownsRow base e size (.slice (some ⟨g, 0, none⟩) (k + m) cap) (k + m) (xs ++ news) → w.grownBy w' (some g) → K (a.put o.dst (.slice (some ⟨g, 0, none⟩) (k + m) cap)) w') : o.wp P a w K Q := by
  obtain ⟨i, hi, hz, h2, h3⟩ := info_parts E.info
  cases ao with
  | some ad =>
    obtain ⟨w', hrun, r1, r2⟩ := run_append_fits (P := P) w base t o.type e i size E.slice hi h2 g k cap xs hown ad m c news hn (hc ad rfl) h1 hfit
    unfold Oper.wp execOp
    simp only [ho, resolve, invoke, builtin, Sem.run_bind, Sem.run_pure, Result.andThen_ok, List.map_toArray, List.map_cons, List.map_nil, hs, hx, hrun]
    exact h w' r1 r2
  | none =>
    obtain ⟨rfl, rfl⟩ := hnone rfl
    have hnews : news = [] := List.eq_nil_of_length_eq_zero (by simpa using hn)
    subst hnews
    have hrun := run_append_owned_none (P := P) w base t o.type e i size E.slice hi _ k xs hown
    unfold Oper.wp execOp
    simp only [ho, resolve, invoke, builtin, Sem.run_bind, Sem.run_pure, Result.andThen_ok, List.map_toArray, List.map_cons, List.map_nil, hs, hx, hrun]
    exact h w (by simpa using hown) (World.grownBy.refl _ _)
/-- Cells behind a row's length turn: the row stays. -/
theorem ownBeyond {base size g n cap : Nat} {e : TypeId} {xs : List Value} : ∀ (vs : List Value) (o : Nat) (w : World), w.ownsRow base e size (.slice (some ⟨g, 0, none⟩) n cap) n xs → n * size ≤ o →
    (w.setCells g o vs).ownsRow base e size (.slice (some ⟨g, 0, none⟩) n cap) n xs ∧ w.grownBy (w.setCells g o vs) (some g) := by
  intro vs
  induction vs with
  | nil => intro o w h _; exact ⟨h, World.grownBy.refl _ _⟩
  | cons v vs ih =>
    intro o w h ho
    obtain ⟨h1, h2⟩ := h.stored o v
    rw [List.set_eq_of_length_le (by rw [h.1]; exact ho)] at h1
    obtain ⟨h3, h4⟩ := ih (o + 1) _ h1 (by omega)
    exact ⟨h3, h2.trans h4⟩
/-- clear, of elements of many cells. -/
theorem run_clearN {P : Program} (w : World) (t e ty : TypeId) (z : Value) (ht : P.underlying t = some (.slice e)) (hv : ∀ w, (zeroValue e).run P w = .ok z w) (h1 : ∀ v ∈ z.cells, v.oneCell' = true) (hp : 0 < z.cells.size) (b o n c : Nat) (hn : 0 < n)
    (hc : ∀ j, j < n * z.cells.size → (w.cell? ⟨b, o + j, none⟩).isSome = true) (hf : ∀ j, j < n * z.cells.size → w.frozen? ⟨b, o + j, none⟩ = false) :
    (Builtin.clear_ #[t] ty #[.slice (some ⟨b, o, none⟩) n c]).run P w = .ok (.tuple #[]) (w.setCells b o (Builtin.zeroCells z.cells n).toList) := by
  have hlen : (Builtin.zeroCells z.cells n).toList.length = n * z.cells.size := by simp [Builtin.zeroCells]
  have hst := run_storeCells_cells (P := P) b o (Builtin.zeroCells z.cells n).toList 0 w (by rw [hlen]; simpa using hc) (by rw [hlen]; simpa using hf) (by
    intro v hv'
    simp only [Builtin.zeroCells, Array.toList_map, List.mem_map] at hv'
    obtain ⟨i, _, rfl⟩ := hv'
    have hlt : i % z.cells.size < z.cells.size := Nat.mod_lt _ hp
    rw [getElem!_pos z.cells _ hlt]
    exact h1 _ (Array.getElem_mem hlt))
  simp only [Nat.add_zero] at hst
  obtain ⟨m, rfl⟩ : ∃ m, n = m + 1 := ⟨n - 1, by omega⟩
  simp [Builtin.clear_, run_underlying ht, hv, hst]
theorem recFlat_drop (ps : List (Value × Rec.R)) (k : Nat) : (recFlat ps).drop (k * 4) = recFlat (ps.drop k) := by
  rcases Nat.le_total ps.length k with h | h
  · rw [List.drop_of_length_le h, List.drop_of_length_le (by rw [recFlat_length]; omega)]
    rfl
  · conv => lhs; rw [← List.take_append_drop k ps, recFlat_append]
    rw [List.drop_left' (by rw [recFlat_length, List.length_take]; omega)]
theorem ownCutN {w : World} {base g n cap size : Nat} {e : TypeId} {xs : List Value} (h : w.ownsRow base e size (.slice (some ⟨g, 0, none⟩) n cap) n xs) (k : Nat) (hk : k ≤ n) : w.ownsRow base e size (.slice (some ⟨g, 0, none⟩) k cap) k (xs.take (k * size)) := by
  obtain ⟨h1, h2⟩ := h
  have hm : k * size ≤ n * size := Nat.mul_le_mul_right _ hk
  refine ⟨by rw [List.length_take]; omega, ?_⟩
  rcases h2 with ⟨hv, _⟩ | ⟨g', cap', cur, hv, q1, q2, q3, q4, q5, q6⟩
  · cases hv
  · injection hv with e1 e2 e3
    injection e1 with e1
    injection e1 with e1
    subst e1 e3
    refine .inr ⟨g, cap, cur, rfl, q1, q2, by omega, q4, q5, ?_⟩
    rw [← q6, List.take_take]
    congr 1
    omega
/-- A row's cells, up to its capacity. -/
theorem ownCellAll {w : World} {base g n cap size : Nat} {e : TypeId} {xs : List Value} (h : w.ownsRow base e size (.slice (some ⟨g, 0, none⟩) n cap) n xs) : ∀ j, j < cap * size → (w.cell? ⟨g, j, none⟩).isSome = true := by
  intro j hj
  rcases h.2 with ⟨hv, _⟩ | ⟨g', cap', cur, hv, q1, q2, q3, q4, q5, q6⟩
  · cases hv
  · injection hv with e1 e2 e3
    injection e1 with e1
    injection e1 with e1
    subst e1 e3
    rw [cell_of_heap q2 j]
    rw [Array.getElem?_eq_getElem (by omega)]
    rfl

set_option maxHeartbeats 4000000 in
theorem delete9_any (B k : Nat) (lv : Value) (ps : List (Value × Rec.R)) (w : World) (h : w.ownsRow B 27 4 lv ps.length (recFlat ps)) (h1 : ∀ y ∈ recFlat ps, y.oneCell' = true) (hk : k ≤ ps.length) (hl : ps.length ≤ 100000) :
    Calls Tryz.prog 177 #[lv, .int .i64 0, .int .i64 (k : Nat)] w fun e w' => ∃ lv', e = .returned lv' ∧ w'.ownsRow B 27 4 lv' (ps.drop k).length (recFlat (ps.drop k)) ∧ w.grownBy w' lv.ownBlock ∧ lv'.ownBlock = lv.ownBlock := by
  obtain ⟨a, n, c, rfl⟩ := ownSlice h
  have hn : n = ps.length := by
    obtain ⟨_, _, e, _⟩ := SlN.ofOwn h
    injection e
  subst hn
  have hcap : ps.length ≤ c ∧ c ≤ 9223372036854775807 := by
    obtain ⟨_, _, e, h2, h3, _⟩ := SlN.ofOwn h
    injection e with _ _ e
    unfold maxLen at h3
    omega
  have H := Lib.hid h
  obtain ⟨n, hn⟩ : ∃ n, ps.length = n := ⟨_, rfl⟩
  have HN := Lib.hid hn
  rw [hn] at hk hl hcap H ⊢
  clear h
  by_cases h0 : k = 0
  · subst h0
    clear hn
    go_enter Tryz.func177, Tryz.ntmps177
    go_wp2
    all_goals
      go_ret
      refine ⟨_, rfl, ?_, World.grownBy.refl _ _, rfl⟩
      rw [List.drop_zero, HN.out]
      exact H.out
  · obtain ⟨g, rfl⟩ : ∃ g, a = some ⟨g, 0, none⟩ := by
      rcases H.out.2 with ⟨e, e2⟩ | ⟨g, _, _, e, _⟩
      · omega
      · injection e with e
        exact ⟨g, e⟩
    have ti := tR
    clear hn
    go_enter Tryz.func177, Tryz.ntmps177
    go_wp2_with fail
    have hcut := ownCutN (H.out) 0 (Nat.zero_le _)
    rw [Nat.zero_mul, List.take_zero] at hcut
    have hnl : ((recFlat ps).drop (k * 4)).length = (n - k) * 4 := by rw [List.length_drop, recFlat_length, HN.out]; omega
    have hn1 : ∀ y ∈ (recFlat ps).drop (k * 4), y.oneCell' = true := fun y hy => h1 y (List.mem_of_mem_drop hy)
    have hno : (if c = k then (some ⟨g, 0, none⟩ : Option Addr) else some ⟨g, k * 4, none⟩) = none → n - k = 0 ∧ c - k = 0 := by split <;> simp
    have hcells : ∀ ad, (if c = k then (some ⟨g, 0, none⟩ : Option Addr) else some ⟨g, k * 4, none⟩) = some ad → ∀ j u, ((recFlat ps).drop (k * 4))[j]? = some u → w.drew.cell? (ad.add j) = some u := by
      intro ad had j u hu
      rw [List.getElem?_drop] at hu
      have hj : k * 4 + j < n * 4 := by
        have := (List.getElem?_eq_some_iff.1 hu).1
        rw [recFlat_length, HN.out] at this
        exact this
      rw [if_neg (by omega)] at had
      injection had with had
      subst had
      rw [Addr.add_lit]
      exact (H.out.cellAt _ hj).trans hu
    have hfit : 0 + (n - k) ≤ c := by omega
    have hcd := show w.drew.ownsRow B 27 4 (.slice (some ⟨g, 0, none⟩) 0 c) 0 [] from hcut
    go_region_law (rw [if_pos (by rfl)]; refine wp_fits (.tmp 22) (.tmp 25) ti rfl rfl hcd rfl hnl hno hcells hn1 hfit ?_; intro w2 hown2 hg2)
    simp only [Nat.zero_add, List.nil_append, recFlat_drop] at hown2
    have hg3 : w.grownBy w2 (some g) := ⟨hg2.os, hg2.tape, hg2.output, hg2.size, hg2.block⟩
    obtain ⟨m, hm⟩ : ∃ m, n - k = m := ⟨_, rfl⟩
    rw [hm] at hown2 ⊢
    have hmn : m < n := by omega
    have hmc : ¬ c = m := by omega
    have hmc2 : m ≤ c := by omega
    have hdl : (ps.drop k).length = m := by rw [List.length_drop, HN.out, hm]
    have hcl : ∀ ty, (Builtin.clear_ #[175] ty #[.slice (some ⟨g, m * 4, none⟩) (n - m) (c - m)]).run Tryz.prog w2 = .ok (.tuple #[]) (w2.setCells g (m * 4) (Builtin.zeroCells (Value.agg #[.int .i64 0, .int .i64 0, .slice none 0 0, .string ⟨#[]⟩]).cells (n - m)).toList) := fun ty =>
      run_clearN w2 175 27 ty (.agg #[.int .i64 0, .int .i64 0, .slice none 0 0, .string ⟨#[]⟩]) Tryz.underlying175 (fun w => by kernel_rfl) (by simp [Value.cells, Value.oneCell']) (by simp [Value.cells]) g (m * 4) (n - m) (c - m) (by omega)
        (fun j hj => ownCellAll hown2 _ (by have : (Value.agg #[.int .i64 0, .int .i64 0, .slice none 0 0, .string ⟨#[]⟩]).cells.size = 4 := rfl; rw [this] at hj; omega)) (fun j _ => hown2.frozenAt _)
    obtain ⟨Z, hZ⟩ : ∃ Z, (Builtin.zeroCells (Value.agg #[.int .i64 0, .int .i64 0, .slice none 0 0, .string ⟨#[]⟩]).cells (n - m)).toList = Z := ⟨_, rfl⟩
    rw [hZ] at hcl
    obtain ⟨h5, h6⟩ := ownBeyond Z (m * 4) w2 hown2 (Nat.le_refl _)
    have HF := Lib.hid (And.intro h5 (hg3.trans h6))
    have HDL := Lib.hid hdl
    have HDM := Lib.hid (show ps.length - k = m by rw [HN.out, hm])
    clear hZ hown2 hg2 hg3 h5 h6 hcd hcells hno hnl hn1 hcut hm hfit hdl
    go_wp2
    all_goals
      go_ret
      refine ⟨_, rfl, ?_, HF.out.2, rfl⟩
      have hf := HF.out.1
      first | rw [HDL.out] | rw [HDM.out]
      first | exact hf | (simp only [show c = k by assumption] at hf; exact hf)
end Go.Proofs.YtaijgpdlgcgfaaaGreat
