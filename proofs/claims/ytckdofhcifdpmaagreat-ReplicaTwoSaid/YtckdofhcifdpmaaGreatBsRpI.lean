/-
  Merged: Layer 11: Entries.
-/
import Derived.Test.YtckdofhcifdpmaaGreatBsEnt
import Derived.Test.YtckdofhcifdpmaaGreatBsRpF

namespace Go.Proofs.YtckdofhcifdpmaaGreat
set_option linter.unusedSimpArgs false
set_option linter.unusedVariables false
set_option maxRecDepth 100000
open Go.RowKit
/- Layer 11: Entries. -/
theorem entFlat_set (u : Value) (e : Ent.E) : ∀ (ps : List (Value × Ent.E)) (k : Nat), k < ps.length → ((((((entFlat ps).set (k * 6) (.int .i64 e.number)).set (k * 6 + 1) (.int .i64 e.kind)).set (k * 6 + 2) u).set (k * 6 + 3) (.int .i64 e.tag)).set (k * 6 + 4) (.int .i64 e.term)).set (k * 6 + 5) (.int .i64 e.pos) = entFlat (ps.set k (u, e)) := by
  intro ps
  induction ps with
  | nil => intro k hk; exact absurd hk (by simp)
  | cons p ps ih =>
    intro k hk
    cases k with
    | zero => rfl
    | succ k =>
      have h1 := ih k (by simpa using hk)
      show _ = (_ : List Value)
      have e0 : ∀ j, (k + 1) * 6 + j = (k * 6 + j) + 1 + 1 + 1 + 1 + 1 + 1 := fun j => by omega
      have e1 : (k + 1) * 6 = k * 6 + 1 + 1 + 1 + 1 + 1 + 1 := by omega
      rw [e0 1, e0 2, e0 3, e0 4, e0 5, e1]
      show _ = [Value.int .i64 p.2.number, .int .i64 p.2.kind, p.1, .int .i64 p.2.tag, .int .i64 p.2.term, .int .i64 p.2.pos] ++ entFlat (ps.set k (u, e))
      rw [← h1]
      rfl
theorem row_fill6 {w : World} {base g n cap k : Nat} {ps : List (Value × Ent.E)} (h : w.ownsRow base 77 6 (.slice (some ⟨g, 0, none⟩) n cap) ps.length (entFlat ps)) (hk : k < ps.length) (u : Value) (e : Ent.E) :
    ∃ w', (((((w.setCell ⟨g, k * 6, none⟩ (.int .i64 e.number)).setCell ⟨g, k * 6 + 1, none⟩ (.int .i64 e.kind)).setCell ⟨g, k * 6 + 2, none⟩ u).setCell ⟨g, k * 6 + 3, none⟩ (.int .i64 e.tag)).setCell ⟨g, k * 6 + 4, none⟩ (.int .i64 e.term)).setCell ⟨g, k * 6 + 5, none⟩ (.int .i64 e.pos) = w' ∧
      w'.ownsRow base 77 6 (.slice (some ⟨g, 0, none⟩) n cap) ps.length (entFlat (ps.set k (u, e))) ∧ But g w w' := by
  obtain rfl := ownLen h
  refine ⟨_, rfl, ?_, ?_⟩
  · have h1 := (h.stored (k * 6) (.int .i64 e.number)).1
    have h2 := (h1.stored (k * 6 + 1) (.int .i64 e.kind)).1
    have h3 := (h2.stored (k * 6 + 2) u).1
    have h4 := (h3.stored (k * 6 + 3) (.int .i64 e.tag)).1
    have h5 := (h4.stored (k * 6 + 4) (.int .i64 e.term)).1
    have h6 := (h5.stored (k * 6 + 5) (.int .i64 e.pos)).1
    rw [entFlat_set u e ps k hk] at h6
    exact h6
  · exact (((((butSet w g _ _).trans (butSet _ g _ _)).trans (butSet _ g _ _)).trans (butSet _ g _ _)).trans (butSet _ g _ _)).trans (butSet _ g _ _)
/-- Entries that are told: in part their own already. -/
structure Mine11 (w : World) (es ps : List (Value × Ent.E)) (k : Nat) (lv : Value) (wr : World) : Prop where
  ext : Ext w wr
  row : wr.ownsRow w.heap.size 77 6 lv ps.length (entFlat ps)
  ents : ps.map (·.2) = es.map (·.2)
  mine : ∀ i (h : i < ps.length), i < k → RowN w.heap.size wr ps[i].1 ps[i].2.cut
  rest : ∀ i, k ≤ i → ps[i]? = es[i]?
theorem Mine11.later {w wr w' : World} {es ps : List (Value × Ent.E)} {k : Nat} {lv : Value} (h : Mine11 w es ps k lv wr) (hE : Ext wr w') : Mine11 w es ps k lv w' := ⟨h.ext.trans hE, rowExt h.row hE, h.ents, fun i hi hk => (h.mine i hi hk).ext hE, h.rest⟩
theorem Mine11.len {w wr : World} {es ps : List (Value × Ent.E)} {k : Nat} {lv : Value} (h : Mine11 w es ps k lv wr) : ps.length = es.length := by
  have := congrArg List.length h.ents
  simpa using this
theorem Mine11.next {w wr w' : World} {es ps : List (Value × Ent.E)} {k g n c : Nat} (h : Mine11 w es ps k (.slice (some ⟨g, 0, none⟩) n c) wr) (hk : k < ps.length) (u : Value) (e : Ent.E) (he : ps[k].2 = e) (hu : RowN w.heap.size wr u e.cut) (hrow : w'.ownsRow w.heap.size 77 6 (.slice (some ⟨g, 0, none⟩) n c) ps.length (entFlat (ps.set k (u, e)))) (hb : But g wr w') : Mine11 w es (ps.set k (u, e)) (k + 1) (.slice (some ⟨g, 0, none⟩) n c) w' := by
  have hg := h.row.lt g rfl
  obtain ⟨cur, hcur⟩ := ownAt h.row (show (Value.slice (some ⟨g, 0, none⟩) n c).ownBlock = some g from rfl)
  have hrn : ∀ {v : Value} {l : List Int}, RowN w.heap.size wr v l → RowN w.heap.size w' v l := fun hv => by
    obtain ⟨b, m, hb', ho⟩ := hv
    exact ⟨b, m, hb', rowBut ho (rowBeside ho hcur (by decide)) hb⟩
  refine ⟨Ext.newQ11 h.ext hg.1 hb, by simpa using hrow, ?_, fun i hi hik => ?_, fun i hi => ?_⟩
  · rw [← h.ents, List.map_set]
    apply List.ext_getElem (by simp)
    intro j h1 h2
    rw [List.getElem_set]
    split
    · next e' => subst e'; simp [he]
    · rfl
  · have hi' : i < ps.length := by simpa using hi
    simp only [List.getElem_set]
    split
    · exact hrn hu
    · next hne => exact hrn (h.mine i hi' (by omega))
  · rw [List.getElem?_set_ne (by omega)]
    exact h.rest i (by omega)
set_option maxHeartbeats 8000000 in
theorem entries11_any {w : World} {B x p : Nat} {vp ev : Value} {es : List (Value × Ent.E)} {id term : Int} {W : Rep.What} (h : RepAt w B x p vp ev es id term W) (hl : es.length ≤ 13107) (hc : ∀ q ∈ es, q.2.cut.length ≤ 1000000) :
    Calls Tryz.prog 24 #[.pointer (some ⟨x, 0, none⟩)] w fun e w' => ∃ u ps, e = .returned u ∧ Ext w w' ∧ w'.ownsRow w.heap.size 77 6 u ps.length (entFlat ps) ∧ ps.map (·.2) = W.l ∧ ∀ q ∈ ps, RowN w.heap.size w' q.1 q.2.cut := by
  have c3 : w.cell? ⟨x, 3, none⟩ = some ev := cell_of_heap h.heap 3
  obtain ⟨a, c, rfl, hnc, hcm, _⟩ := h.open
  have HCL := Lib.hid (cloneE_any _ es w (SlN.ofOwn h.row) h.one (by omega))
  have HIN := Lib.hid h.ints
  have HC := Lib.hid hc
  have HES := Lib.hid h.ents
  obtain ⟨n, hn⟩ : ∃ n, es.length = n := ⟨_, rfl⟩
  rw [hn] at HCL c3 hl
  have HN := Lib.hid hn
  clear h hc hn hnc hcm
  go_enter Tryz.func24, Tryz.ntmps24
  go_wp2_with fail
  refine HCL.out.mono ?_
  rintro e w2 ⟨u, rfl, hrow, hE2⟩
  obtain ⟨ua, un, uc, rfl⟩ := ownSlice hrow
  obtain rfl := ownLen hrow
  have HI0 := Lib.hid (show Mine11 w es es 0 (.slice ua un uc) w2 from ⟨hE2, by rw [HN.out]; exact hrow, rfl, fun i hi hk => absurd hk (by omega), fun i _ => rfl⟩)
  clear hrow hE2 c3 HCL
  go_wp2_with fail
  go_loopw [13] (fun i wr => ∃ (k : Nat) (ps : List (Value × Ent.E)), k ≤ un ∧ i = .int .i64 k ∧ Hid (Mine11 w es ps k (.slice ua un uc) wr)) (fun i _ => un - (intOf i).toNat)
  case atStart => exact ⟨0, es, by omega, rfl, HI0⟩
  case round =>
    obtain ⟨k, ps, hk, rfl, hI⟩ := hrel
    by_cases hlt : k < un
    · have hkp : k < ps.length := by rw [hI.out.len, HN.out]; exact hlt
      have hke : k < es.length := by rw [HN.out]; exact hlt
      have hpk : ps[k] = es[k] := by
        have := hI.out.rest k (Nat.le_refl _)
        rw [List.getElem?_eq_getElem hkp, List.getElem?_eq_getElem hke] at this
        injection this
      obtain ⟨te, hte⟩ : ∃ z, ps[k].1 = z := ⟨_, rfl⟩
      obtain ⟨E, hE⟩ : ∃ z, ps[k].2 = z := ⟨_, rfl⟩
      have hmem : es[k] ∈ es := List.getElem_mem hke
      have hti : ∀ w', Ext w w' → Ints w' te E.cut := fun w' hE' => by
        have := HIN.out _ hmem
        rw [← hpk, hte, hE] at this
        exact this.below hE'
      have hcl : E.cut.length ≤ 1000000 := by
        have := HC.out _ hmem
        rw [← hpk, hE] at this
        exact this
      obtain ⟨ta, tn, tc, rfl⟩ := intsSlice (hti wr hI.out.ext)
      have hlen : ps.length = un := by rw [hI.out.len]; exact HN.out
      have hrow := hI.out.row
      rw [hlen] at hrow
      have hg : ∃ g, ua = some ⟨g, 0, none⟩ ∧ un ≤ uc ∧ uc ≤ maxLen := by
        rcases hrow.2 with ⟨e, e2⟩ | ⟨g, cap, cur, e, _, _, h1, h2, _⟩
        · omega
        · injection e with e3 e4 e5
          exact ⟨g, e3, by omega, by omega⟩
      obtain ⟨g, rfl, huc, hum⟩ := hg
      unfold maxLen at hum
      have hat : ∀ j, j < 6 → wr.cell? ⟨g, k * 6 + j, none⟩ = [Value.int .i64 E.number, .int .i64 E.kind, .slice ta tn tc, .int .i64 E.tag, .int .i64 E.term, .int .i64 E.pos][j]? := fun j hj => by
        have h1 := hrow.cellAt (k * 6 + j) (by omega)
        rw [h1, entFlat_at ps k j hkp hj, hte, hE]
      obtain ⟨e0, e1, e2, e3, e4, e5⟩ := E
      have p0 : wr.cell? ⟨g, k * 6, none⟩ = some (.int .i64 e0) := hat 0 (by omega)
      have p1 : wr.cell? ⟨g, k * 6 + 1, none⟩ = some (.int .i64 e1) := hat 1 (by omega)
      have p2 : wr.cell? ⟨g, k * 6 + 2, none⟩ = some (.slice ta tn tc) := hat 2 (by omega)
      have p3 : wr.cell? ⟨g, k * 6 + 3, none⟩ = some (.int .i64 e3) := hat 3 (by omega)
      have p4 : wr.cell? ⟨g, k * 6 + 4, none⟩ = some (.int .i64 e4) := hat 4 (by omega)
      have p5 : wr.cell? ⟨g, k * 6 + 5, none⟩ = some (.int .i64 e5) := hat 5 (by omega)
      have hEa : Ext wr (wr.alloc (.cells #[.int .i64 e0, .int .i64 e1, .slice ta tn tc, .int .i64 e3, .int .i64 e4, .int .i64 e5] 77)) := Ext.alloc _ _
      have HOWN := Lib.hid (own11_any (.slice ta tn tc) ⟨e0, e1, e2, e3, e4, e5⟩ (wr.alloc (.cells #[.int .i64 e0, .int .i64 e1, .slice ta tn tc, .int .i64 e3, .int .i64 e4, .int .i64 e5] 77)) (hti _ (hI.out.ext.trans hEa)) hcl)
      have HI1 := Lib.hid (hI.out.later hEa)
      have HE := Lib.hid hE
      have HLEN := Lib.hid (And.intro hkp (show ps.length = un by rw [hI.out.len]; exact HN.out))
      clear hat hrow hti hcl hte hE hpk hmem hke hEa hlen
      go_wp2_with fail
      refine HOWN.out.mono ?_
      unfold entV
      rintro e' w4 ⟨u, rfl, hu, hE4⟩
      obtain ⟨xa, xn, xc, rfl⟩ := ownSlice hu.choose_spec.choose_spec.2
      have hI4 := HI1.out.later hE4
      have hrow4' := hI4.row
      have hrow4 := hI4.row
      rw [HLEN.out.2] at hrow4
      obtain ⟨w5, hw5, hr5, hb5⟩ := row_fill6 hrow4' HLEN.out.1 (.slice xa xn xc) ⟨e0, e1, e2, e3, e4, e5⟩
      have HW5 := Lib.hid hw5
      have HI5 := Lib.hid (hI4.next HLEN.out.1 (.slice xa xn xc) ⟨e0, e1, e2, e3, e4, e5⟩ HE.out (hu.lower HI1.out.ext.size) hr5 hb5)
      have ct : ∀ j, j < 6 → ∃ v, w4.cell? ⟨g, k * 6 + j, none⟩ = some v := fun j hj => by
        have h1 := hrow4.cellAt (k * 6 + j) (by omega)
        rw [entFlat_at ps k j HLEN.out.1 hj] at h1
        match j, hj with
        | 0, _ => exact ⟨_, h1⟩
        | 1, _ => exact ⟨_, h1⟩
        | 2, _ => exact ⟨_, h1⟩
        | 3, _ => exact ⟨_, h1⟩
        | 4, _ => exact ⟨_, h1⟩
        | 5, _ => exact ⟨_, h1⟩
      obtain ⟨v0, q0⟩ := ct 0 (by omega)
      obtain ⟨v1, q1⟩ := ct 1 (by omega)
      obtain ⟨v2, q2⟩ := ct 2 (by omega)
      obtain ⟨v3, q3⟩ := ct 3 (by omega)
      obtain ⟨v4, q4⟩ := ct 4 (by omega)
      obtain ⟨v5, q5⟩ := ct 5 (by omega)
      simp only [Nat.add_zero] at q0
      have z0 := hrow4.frozenAt (k * 6)
      have z1 := hrow4.frozenAt (k * 6 + 1)
      have z2 := hrow4.frozenAt (k * 6 + 2)
      have z3 := hrow4.frozenAt (k * 6 + 3)
      have z4 := hrow4.frozenAt (k * 6 + 4)
      have z5 := hrow4.frozenAt (k * 6 + 5)
      clear hI4 hrow4 hrow4' hw5 hr5 hb5 hu hE4 ct p0 p1 p2 p3 p4 p5
      go_wp2_with fail
      rw [HW5.out]
      go_roundw
      case rel => exact ⟨k + 1, _, by omega, by go_num, HI5⟩
      case measure => simp [intOf]; omega
    · obtain rfl : k = un := by omega
      go_wp2_with fail
      go_ret
      refine ⟨_, ps, rfl, hI.out.ext, hI.out.row, by rw [hI.out.ents]; exact HES.out, fun q hq => ?_⟩
      obtain ⟨i, hi, rfl⟩ := List.getElem_of_mem hq
      exact hI.out.mine i hi (by have := hI.out.len; have := HN.out; omega)
end Go.Proofs.YtckdofhcifdpmaaGreat
