/-
  Merged: Layer 12: own: entries with cuts of their own.
-/
import Derived.Test.YtnoeconcpgdjlaaBsEnt
import Derived.Test.YtnoeconcpgdjlaaBsQuB
import Derived.Test.YtnoeconcpgdjlaaBsVec

namespace Go.Proofs.Ytnoeconcpgdjlaa
set_option linter.unusedSimpArgs false
set_option linter.unusedVariables false
set_option maxRecDepth 100000
open Go.RowKit
/- Layer 12: own: entries with cuts of their own. -/
theorem entFlat_cut (u : Value) : ∀ (ps : List (Value × Ent.E)) (k : Nat) (hk : k < ps.length), (entFlat ps).set (k * 6 + 2) u = entFlat (ps.set k (u, ps[k].2)) := by
  intro ps
  induction ps with
  | nil => intro k hk; exact absurd hk (by simp)
  | cons p ps ih =>
    intro k hk
    cases k with
    | zero => rfl
    | succ k =>
      have h1 := ih k (by simpa using hk)
      show _ = (_ : List Value)
      have e1 : (k + 1) * 6 + 2 = (k * 6 + 2) + 1 + 1 + 1 + 1 + 1 + 1 := by omega
      rw [e1]
      show _ = [Value.int .i64 p.2.number, .int .i64 p.2.kind, p.1, .int .i64 p.2.tag, .int .i64 p.2.term, .int .i64 p.2.pos] ++ entFlat (ps.set k (u, (ps[k]'(by simpa using hk)).2))
      rw [← h1]
      rfl
/-- Entries of which the first k have cuts of their own. -/
structure Mine12 (w : World) (es ps : List (Value × Ent.E)) (k : Nat) (lv : Value) (wr : World) : Prop where
  ext : Ext w wr
  row : wr.ownsRow w.heap.size 74 6 lv ps.length (entFlat ps)
  ents : ps.map (·.2) = es.map (·.2)
  mine : ∀ i (h : i < ps.length), i < k → RowN w.heap.size wr ps[i].1 ps[i].2.cut
  rest : ∀ i, k ≤ i → ps[i]? = es[i]?
theorem Mine12.later {w wr w' : World} {es ps : List (Value × Ent.E)} {k : Nat} {lv : Value} (h : Mine12 w es ps k lv wr) (hE : Ext wr w') : Mine12 w es ps k lv w' := ⟨h.ext.trans hE, rowExt h.row hE, h.ents, fun i hi hk => (h.mine i hi hk).ext hE, h.rest⟩
theorem Mine12.len {w wr : World} {es ps : List (Value × Ent.E)} {k : Nat} {lv : Value} (h : Mine12 w es ps k lv wr) : ps.length = es.length := by
  have := congrArg List.length h.ents
  simpa using this
theorem Mine12.next {w wr : World} {es ps : List (Value × Ent.E)} {k g n c : Nat} (h : Mine12 w es ps k (.slice (some ⟨g, 0, none⟩) n c) wr) (hk : k < ps.length) (u : Value) (hu : RowN w.heap.size wr u ps[k].2.cut) : Mine12 w es (ps.set k (u, ps[k].2)) (k + 1) (.slice (some ⟨g, 0, none⟩) n c) (wr.setCell ⟨g, k * 6 + 2, none⟩ u) := by
  have hg := h.row.lt g rfl
  have hb : But g wr (wr.setCell ⟨g, k * 6 + 2, none⟩ u) := butSet _ _ _ _
  obtain ⟨cur, hcur⟩ := ownAt h.row (show (Value.slice (some ⟨g, 0, none⟩) n c).ownBlock = some g from rfl)
  have hrn : ∀ {v : Value} {l : List Int}, RowN w.heap.size wr v l → RowN w.heap.size (wr.setCell ⟨g, k * 6 + 2, none⟩ u) v l := fun hv => by
    obtain ⟨b, m, hb', ho⟩ := hv
    exact ⟨b, m, hb', rowBut ho (rowBeside ho hcur (by decide)) hb⟩
  obtain rfl := ownLen h.row
  refine ⟨Ext.newQ11 h.ext hg.1 hb, ?_, ?_, fun i hi hik => ?_, fun i hi => ?_⟩
  · have h1 := (h.row.stored (k * 6 + 2) u).1
    rw [entFlat_cut u ps k hk] at h1
    simpa using h1
  · rw [← h.ents, List.map_set]
    apply List.ext_getElem (by simp)
    intro j h1 h2
    rw [List.getElem_set]
    split
    · next e' => subst e'; simp
    · rfl
  · have hi' : i < ps.length := by simpa using hi
    simp only [List.getElem_set]
    split
    · next e => subst e; exact hrn hu
    · next hne => exact hrn (h.mine i hi' (by omega))
  · rw [List.getElem?_set_ne (by omega)]
    exact h.rest i (by omega)
def Own12 (w : World) (ps : List (Value × Ent.E)) (e : Ending) (w' : World) : Prop := ∃ u qs, e = .returned u ∧ Ext w w' ∧ w'.ownsRow w.heap.size 74 6 u qs.length (entFlat qs) ∧ qs.map (·.2) = ps.map (·.2) ∧ ∀ q ∈ qs, RowN w.heap.size w' q.1 q.2.cut
set_option maxHeartbeats 8000000 in
theorem own12_any (v : Value) (es : List (Value × Ent.E)) (w : World) (hv : SlN 6 w v es.length (entFlat es)) (hi : ∀ q ∈ es, Ints w q.1 q.2.cut) (hl : es.length ≤ 13107) (hc : ∀ q ∈ es, q.2.cut.length ≤ 1000000) :
    Calls Try.prog 39 #[v] w (Own12 w es) := by
  have HCL := Lib.hid (cloneE_any v es w hv (entFlat_one hi) (by omega))
  have HIN := Lib.hid hi
  have HC := Lib.hid hc
  obtain ⟨n, hn⟩ : ∃ n, es.length = n := ⟨_, rfl⟩
  rw [hn] at HCL hl
  have HN := Lib.hid hn
  clear hv hi hc hn
  go_enter Try.func39, Try.ntmps39
  go_wp2_with fail
  refine HCL.out.mono ?_
  rintro e w2 ⟨u, rfl, hrow, hE2⟩
  obtain ⟨ua, un, uc, rfl⟩ := ownSlice hrow
  obtain rfl := ownLen hrow
  have HI0 := Lib.hid (show Mine12 w es es 0 (.slice ua un uc) w2 from ⟨hE2, by rw [HN.out]; exact hrow, rfl, fun i hi hk => absurd hk (by omega), fun i _ => rfl⟩)
  clear hrow hE2 HCL
  go_wp2_with fail
  go_loopw [8] (fun i wr => ∃ (k : Nat) (ps : List (Value × Ent.E)), k ≤ un ∧ i = .int .i64 k ∧ Hid (Mine12 w es ps k (.slice ua un uc) wr)) (fun i _ => un - (intOf i).toNat)
  case atStart => exact ⟨0, es, by omega, rfl, HI0⟩
  case round =>
    obtain ⟨k, ps, hk, rfl, hI⟩ := hrel
    by_cases hlt : k < un
    · have hkp : k < ps.length := by rw [hI.out.len, HN.out]; exact hlt
      have hke : k < es.length := by rw [HN.out]; exact hlt
      have hpk : ps[k] = es[k] := by
        have := hI.out.rest k (Nat.le_refl _)
        rw [List.getElem?_eq_getElem hkp, List.getElem?_eq_getElem hke] at this
        injection this
      obtain ⟨te, hte⟩ : ∃ z, ps[k].1 = z := ⟨_, rfl⟩
      obtain ⟨l, hl'⟩ : ∃ z, ps[k].2.cut = z := ⟨_, rfl⟩
      have hmem : es[k] ∈ es := List.getElem_mem hke
      have hti : ∀ w', Ext w w' → Ints w' te l := fun w' hE' => by
        have := HIN.out _ hmem
        rw [← hpk, hte, hl'] at this
        exact this.below hE'
      have hcl : l.length ≤ 1000000 := by
        have := HC.out _ hmem
        rw [← hpk, hl'] at this
        exact this
      obtain ⟨ta, tn, tc, rfl⟩ := intsSlice (hti wr hI.out.ext)
      have hlen : ps.length = un := by rw [hI.out.len]; exact HN.out
      have hrow := hI.out.row
      rw [hlen] at hrow
      have hg : ∃ g, ua = some ⟨g, 0, none⟩ ∧ un ≤ uc ∧ uc ≤ maxLen := by
        rcases hrow.2 with ⟨e, e2⟩ | ⟨g, cap, cur, e, _, _, h1, h2, _⟩
        · omega
        · injection e with e3 e4 e5
          exact ⟨g, e3, by omega, by omega⟩
      obtain ⟨g, rfl, huc, hum⟩ := hg
      unfold maxLen at hum
      have p2 : wr.cell? ⟨g, k * 6 + 2, none⟩ = some (.slice ta tn tc) := by
        have h1 := hrow.cellAt (k * 6 + 2) (by omega)
        rw [h1, entFlat_at ps k 2 hkp (by omega), hte]
        rfl
      have HCI := Lib.hid (cloneI_any (.slice ta tn tc) l wr (hti wr hI.out.ext) hcl)
      have HL := Lib.hid (And.intro hkp hl')
      clear hrow hti hcl hte hl' hpk hmem hke hlen
      go_wp2_with fail
      refine HCI.out.mono ?_
      rintro e w4 ⟨u4, rfl, ho4, hE4⟩
      have hI4 := hI.out.later hE4
      obtain ⟨a4, n4, c4, rfl⟩ := ownSlice ho4
      have HI5 := Lib.hid (hI4.next HL.out.1 (.slice a4 n4 c4) ⟨wr.heap.size, _, hI.out.ext.size, by rw [HL.out.2]; exact ho4⟩)
      have hr4 := hI4.row
      rw [show ps.length = un by rw [hI4.len]; exact HN.out] at hr4
      have z2 := hr4.frozenAt (k * 6 + 2)
      have q2 : w4.cell? ⟨g, k * 6 + 2, none⟩ = some (.slice ta tn tc) := cellExt hE4 p2
      clear hI4 hr4 ho4 hE4 p2 HCI
      go_wp2_with fail
      go_roundw
      case rel => exact ⟨k + 1, _, by omega, by go_num, HI5⟩
      case measure => simp [intOf]; omega
    · obtain rfl : k = un := by omega
      go_wp2_with fail
      go_ret
      refine ⟨_, ps, rfl, hI.out.ext, hI.out.row, hI.out.ents, fun q hq => ?_⟩
      obtain ⟨i, hi, rfl⟩ := List.getElem_of_mem hq
      exact hI.out.mine i hi (by have := hI.out.len; have := HN.out; omega)
end Go.Proofs.Ytnoeconcpgdjlaa
