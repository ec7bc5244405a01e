/-
  Merged: Entries that are read, as flat cells with their rows of numbers; slices; Layer 5: what Decode leaves of what was encoded; Layer 5: what Decode leaves of what was encoded; Layer 5: an entry out of what comes in; Layer 5: entries, rows of entries and of places, out of what comes in.
-/
import Derived.Test.YtkpcmedmiiohnaaRows
import Derived.Test.YtkpcmedmiiohnaaChecked
import Derived.SizedLaws
import Derived.Test.YtkpcmedmiiohnaaBsEnt
import Derived.Test.YtkpcmedmiiohnaaBsPack
import Derived.Test.YtkpcmedmiiohnaaBsVec

namespace Go.Proofs.Ytkpcmedmiiohnaa
set_option linter.unusedSimpArgs false
set_option linter.unusedVariables false
set_option maxRecDepth 100000
open Go.RowKit
/- Entries that are read, as flat cells with their rows of numbers. -/
theorem flat_of_ents {w : World} {v : Value} {l : List Ent.E} (h : Ents w v l) : ∃ ps : List (Value × Ent.E), ps.map (·.2) = l ∧ SlN 6 w v ps.length (entFlat ps) ∧ ∀ q ∈ ps, Ints w q.1 q.2.cut := by
  obtain ⟨a, cap, rfl, h1, h2, h3, h4⟩ := h
  have hf : ∀ i, ∃ t : Value, ∀ (hi : i < l.length), ∃ b o, a = some ⟨b, o, none⟩ ∧ (∀ j, j < 6 → w.cell? ⟨b, o + (i * 6 + j), none⟩ = [Value.int .i64 l[i].number, .int .i64 l[i].kind, t, .int .i64 l[i].tag, .int .i64 l[i].term, .int .i64 l[i].pos][j]?) ∧ Ints w t l[i].cut := by
    intro i
    by_cases hi : i < l.length
    · obtain ⟨b, o, e, t, p0, p1, p2, p3, p4, p5, ht⟩ := h4 i hi
      refine ⟨t, fun _ => ⟨b, o, e, fun j hj => ?_, ht⟩⟩
      have hs : o + (i * 6 + j) = o + i * 6 + j := by omega
      rw [hs]
      match j, hj with
      | 0, _ => exact p0
      | 1, _ => exact p1
      | 2, _ => exact p2
      | 3, _ => exact p3
      | 4, _ => exact p4
      | 5, _ => exact p5
    · exact ⟨undef, fun h => absurd h hi⟩
  obtain ⟨f, hf⟩ := Classical.axiomOfChoice hf
  have hz : (((List.range l.length).map f).zip l).length = l.length := by simp
  have hat : ∀ i (hi : i < (((List.range l.length).map f).zip l).length), (((List.range l.length).map f).zip l)[i] = (f i, l[i]'(by rw [hz] at hi; exact hi)) := fun i hi => by simp
  refine ⟨((List.range l.length).map f).zip l, List.map_snd_zip (by simp), ?_, fun q hq => ?_⟩
  · rw [hz]
    refine ⟨a, cap, rfl, h1, h2, h3, by rw [entFlat_length, hz], fun j hj => ?_⟩
    have hj6 : j < l.length * 6 := by rw [entFlat_length, hz] at hj; exact hj
    have hi : j / 6 < l.length := by omega
    obtain ⟨b, o, e, hc, _⟩ := hf (j / 6) hi
    refine ⟨b, o, e, ?_⟩
    have h5 := entFlat_at (((List.range l.length).map f).zip l) (j / 6) (j % 6) (by rw [hz]; exact hi) (Nat.mod_lt _ (by omega))
    have h6 := hc (j % 6) (Nat.mod_lt _ (by omega))
    have hsum : j / 6 * 6 + j % 6 = j := by omega
    rw [hsum] at h5 h6
    rw [h6]
    rw [hat] at h5
    rw [← h5, List.getElem?_eq_getElem hj]
  · obtain ⟨i, hi, rfl⟩ := List.getElem_of_mem hq
    rw [hat]
    obtain ⟨_, _, _, _, ht⟩ := hf i (by rw [hz] at hi; exact hi)
    exact ht
/- slices.EqualFunc of two rows of entries, by entry.Same. -/
theorem cellE {w w' : World} {b o : Nat} {v : Value} (h : Ext w w') (hc : w.cell? ⟨b, o, none⟩ = some v) : w'.cell? ⟨b, o, none⟩ = some v := (h.cell (p := ⟨b, o, none⟩) (World.block_lt_of_cell? w _ hc)).trans hc
def TellsIf (P : Prop) (w : World) (e : Ending) (w' : World) : Prop := ∃ b : Bool, e = .returned (.bool b) ∧ (b = true ↔ P) ∧ Ext w w'
theorem rows_eq_of {α : Type} {l m : List α} (hl : l.length = m.length) (h : ∀ i (h1 : i < l.length) (h2 : i < m.length), l[i] = m[i]) : l = m := List.ext_getElem hl h
set_option maxHeartbeats 4000000 in
theorem equalE_any (v u : Value) (ns ms : List Ent.E) (w : World) (hv : Ents w v ns) (hu : Ents w u ms) :
    Calls Try.prog 33 #[v, u, .func (.func 34) #[] #[]] w (TellsIf (ns = ms) w) := by
  have HV := Lib.hid hv
  have HU := Lib.hid hu
  obtain ⟨a, cap, rfl, hcap, hmax⟩ := hv.shape
  obtain ⟨a2, cap2, rfl, hcap2, hmax2⟩ := hu.shape
  clear hv hu
  by_cases hl : ns.length = ms.length
  · have h1' : ((ns.length : Int) != (ms.length : Int)) = false := by rw [hl]; simp
    obtain ⟨n, hn⟩ : ∃ n, ns.length = n := ⟨_, rfl⟩
    have hm : ms.length = n := by rw [← hl]; exact hn
    rw [hn, hm] at h1'
    rw [hn] at hcap
    rw [hm] at hcap2
    rw [hn, hm]
    have HL := Lib.hid (And.intro hn hm)
    have HVs := HV
    clear hl hn hm HVs
    go_enter Try.func33, Try.ntmps33
    go_wp2_with fail
    go_loopw [7, 8, 9, 17] (fun _ _ _ i wr => ∃ k : Nat, k ≤ n ∧ i = .int .i64 k ∧ Hid (∀ i, i < k → ∀ (h1 : i < ns.length) (h2 : i < ms.length), ns[i] = ms[i]) ∧ Hid (Ext w wr)) (fun _ _ _ i _ => n - (intOf i).toNat)
    case atStart => exact ⟨0, by omega, rfl, Lib.hid (fun i hi => absurd hi (by omega)), Lib.hid (Ext.refl _)⟩
    case round =>
      obtain ⟨k, hk, rfl, hr, hE⟩ := hrel
      by_cases hlt : k < n
      · have hk1 : k < ns.length := by rw [HL.out.1]; exact hlt
        have hk2 : k < ms.length := by rw [HL.out.2]; exact hlt
        obtain ⟨ra, rc, e', _, _, _, hc⟩ := HV.out.below hE.out
        obtain ⟨b, off, rfl, ta, p0, p1, p2, p3, p4, p5, hta⟩ := hc k hk1
        injection e' with e1 e2 e3
        subst e1
        obtain ⟨ra2, rc2, f', _, _, _, hc2⟩ := HU.out.below hE.out
        obtain ⟨b2, off2, rfl, tb, q0, q1, q2, q3, q4, q5, htb⟩ := hc2 k hk2
        injection f' with f1 f2 f3
        subst f1
        obtain ⟨a1, a2, a3, rfl⟩ := Ints.isSlice hta
        obtain ⟨b1, b2', b3, rfl⟩ := Ints.isSlice htb
        have HE := Lib.hid (And.intro hk1 hk2)
        obtain ⟨A, hA⟩ : ∃ A, ns[k] = A := ⟨_, rfl⟩
        obtain ⟨B, hB⟩ : ∃ B, ms[k] = B := ⟨_, rfl⟩
        rw [hA] at p0 p1 p3 p4 p5 hta
        rw [hB] at q0 q1 q3 q4 q5 htb
        have HAB := Lib.hid (And.intro hA hB)
        have HT := Lib.hid (And.intro hta htb)
        obtain ⟨A0, A1, A2, A3, A4, A5⟩ := A
        obtain ⟨B0, B1, B2, B3, B4, B5⟩ := B
        simp only at p0 p1 p3 p4 p5 q0 q1 q3 q4 q5
        clear hc hc2 e2 e3 f2 f3 hta htb hA hB
        have hEa : Ext wr (wr.alloc (.cells #[.int .i64 A0, .int .i64 A1, .slice a1 a2 a3, .int .i64 A3, .int .i64 A4, .int .i64 A5] 63)) := Ext.alloc _ _
        have hEb : Ext (wr.alloc (.cells #[.int .i64 A0, .int .i64 A1, .slice a1 a2 a3, .int .i64 A3, .int .i64 A4, .int .i64 A5] 63)) ((wr.alloc (.cells #[.int .i64 A0, .int .i64 A1, .slice a1 a2 a3, .int .i64 A3, .int .i64 A4, .int .i64 A5] 63)).alloc (.cells #[.int .i64 B0, .int .i64 B1, .slice b1 b2' b3, .int .i64 B3, .int .i64 B4, .int .i64 B5] 63)) := Ext.alloc _ _
        have HEw := Lib.hid (hEa.trans hEb)
        have HSM := Lib.hid (same5_any _ _ ⟨A0, A1, A2, A3, A4, A5⟩ ⟨B0, B1, B2, B3, B4, B5⟩ _ ⟨.slice a1 a2 a3, rfl, HT.out.1.below (hEa.trans hEb)⟩ ⟨.slice b1 b2' b3, rfl, HT.out.2.below (hEa.trans hEb)⟩)
        have r0 := cellE hEa q0
        have r1 := cellE hEa q1
        have r2 := cellE hEa q2
        have r3 := cellE hEa q3
        have r4 := cellE hEa q4
        have r5 := cellE hEa q5
        clear hEa hEb q0 q1 q2 q3 q4 q5
        go_wp2_with fail
        refine HSM.out.mono ?_
        cases hs : Ent.alike ⟨A0, A1, A2, A3, A4, A5⟩ ⟨B0, B1, B2, B3, B4, B5⟩ with
        | true =>
          have HS := Lib.hid ((Ent.alike_iff _ _).1 hs)
          clear hs
          rintro e w2 ⟨rfl, hE2⟩
          have HE2 := Lib.hid (hE.out.trans (HEw.out.trans hE2))
          clear hE2
          go_wp2_with fail
          go_roundw
          case rel =>
            refine ⟨k + 1, by omega, by go_num, Lib.hid fun i hi h1 h2 => ?_, HE2⟩
            rcases Nat.lt_or_ge i k with h | h
            · exact hr.out i h h1 h2
            · obtain rfl : i = k := by omega
              rw [HAB.out.1, HAB.out.2]
              exact HS.out
          case measure => simp [intOf]; omega
        | false =>
          have HS := Lib.hid hs
          clear hs
          rintro e w2 ⟨rfl, hE2⟩
          have HE2 := Lib.hid (hE.out.trans (HEw.out.trans hE2))
          clear hE2
          go_wp2_with fail
          go_ret
          refine ⟨false, rfl, ⟨fun h => (by cases h), fun h => ?_⟩, HE2.out⟩
          have h1 : ns[k]'HE.out.1 = ms[k]'HE.out.2 := by subst h; rfl
          rw [HAB.out.1, HAB.out.2] at h1
          have h2 := HS.out
          rw [(Ent.alike_iff _ _).2 h1] at h2
          cases h2
      · have hs := Lib.hid (rows_eq_of (l := ns) (m := ms) (by rw [HL.out.1, HL.out.2]) (fun i h1 h2 => hr.out i (by have := HL.out.1; omega) h1 h2))
        clear hr
        go_wp2_with fail
        go_ret
        exact ⟨true, rfl, ⟨fun _ => hs.out, fun _ => rfl⟩, hE.out⟩
  · have h1' : ((ns.length : Int) != (ms.length : Int)) = true := by rw [bne_iff_ne]; omega
    have HL := Lib.hid hl
    clear hl
    go_enter Try.func33, Try.ntmps33
    go_wp2_with fail
    go_ret
    exact ⟨false, rfl, ⟨fun h => (by cases h), fun h => absurd (by rw [h]) HL.out⟩, Ext.refl _⟩
/- Layer 5: what Decode leaves of what was encoded. -/
/- Layer 5: what Decode leaves of what was encoded; a cut that is read as it was, and a chain. -/
end Go.Proofs.Ytkpcmedmiiohnaa

namespace Go.Proofs.Ytkpcmedmiiohnaa
set_option linter.unusedSimpArgs false
set_option linter.unusedVariables false
set_option maxRecDepth 100000
open Go.ChangeShapes Go.WideShapes Go.ChangeAt Go.RowKit
/- Layer 5: an entry out of what comes in. -/
section
variable {H : Type} {enc : TypeId × Value → H} {w : World} {base : Nat} {spare : Nat → Bool} {held : Bool}

theorem sixOf {α : Type} {l : List α} (h : l.length = 6) : ∃ a b c d e f, l = [a, b, c, d, e, f] := by
  match l, h with
  | [a, b, c, d, e, f], _ => exact ⟨a, b, c, d, e, f, rfl⟩
theorem fiveOf {α : Type} {l : List α} (h : l.length = 5) : ∃ a b c d e, l = [a, b, c, d, e] := by
  match l, h with
  | [a, b, c, d, e], _ => exact ⟨a, b, c, d, e, rfl⟩
theorem twoOf {α : Type} {l : List α} (h : l.length = 2) : ∃ a b, l = [a, b] := by
  match l, h with
  | [a, b], _ => exact ⟨a, b, rfl⟩
set_option maxRecDepth 100000 in
theorem seqOfRaw {fuel : Nat} {cs : List Value} {x : DataW H × List MemPlace} (h : DataW.trod enc Try.prog w base spare held fuel 49 cs = some x) : ∃ c n : Int, cs = [.int .i64 c, .int .i64 n] := by
  obtain ⟨xs, n, _, rfl, hl, hlen, hf⟩ := DataW.trod_struct Try.underlying49 h
  have hc : Try.prog.cellsOf 49 = 2 := by kernel_rfl
  have hi : Try.prog.cellsOf 3 = 1 := by kernel_rfl
  rw [hc] at hl
  obtain ⟨c0, c1, rfl⟩ := twoOf hl
  obtain ⟨y0, y1, rfl⟩ := twoOf hlen
  have f0 := hf 0 _ rfl
  have f1 := hf 1 _ rfl
  simp only [hi, List.drop_zero, List.drop_succ_cons, List.take_succ_cons, List.take_zero, List.getElem?_cons_zero, List.getElem?_cons_succ] at f0 f1
  obtain ⟨n0, e0, _, _⟩ := DataW.trod_int Try.underlying3 f0
  obtain ⟨n1, e1, _, _⟩ := DataW.trod_int Try.underlying3 f1
  injection e0 with e0 _
  injection e1 with e1 _
  subst e0 e1
  exact ⟨n0, n1, rfl⟩
end
/- Layer 5: entries, rows of entries and of places, out of what comes in. -/
/-- A slice of places reads as these. -/
def Seqs (w : World) (v : Value) (l : List (Int × Int)) : Prop :=
  ∃ (a : Option Addr) (cap : Nat), v = .slice a l.length cap ∧ l.length ≤ cap ∧ cap ≤ maxLen ∧ (a = none → cap = 0) ∧ ∀ i (h : i < l.length), ∃ b off, a = some ⟨b, off, none⟩ ∧ w.cell? ⟨b, off + i * 2, none⟩ = some (.int .i64 l[i].1) ∧ w.cell? ⟨b, off + i * 2 + 1, none⟩ = some (.int .i64 l[i].2)
theorem Seqs.below {w w' : World} {v : Value} {l : List (Int × Int)} (h : Seqs w v l) (hb : Below w.heap.size w w') : Seqs w' v l := by
  obtain ⟨a, cap, rfl, h1, h2, h4, h3⟩ := h
  refine ⟨a, cap, rfl, h1, h2, h4, fun i hi => ?_⟩
  obtain ⟨b, off, e, hc, hd⟩ := h3 i hi
  have hlt := World.block_lt_of_cell? _ _ hc
  exact ⟨b, off, e, (hb.cell (p := ⟨b, off + i * 2, none⟩) hlt).trans hc, (hb.cell (p := ⟨b, off + i * 2 + 1, none⟩) hlt).trans hd⟩
theorem Seqs.shape {w : World} {v : Value} {l : List (Int × Int)} (h : Seqs w v l) : ∃ a c, v = .slice a l.length c ∧ l.length ≤ c ∧ c ≤ 9223372036854775807 := by
  obtain ⟨a, cap, rfl, h1, h2, _⟩ := h
  unfold maxLen at h2
  exact ⟨a, cap, rfl, h1, h2⟩

section
variable {H : Type} {enc : TypeId × Value → H} {w : World} {base : Nat} {spare : Nat → Bool} {held : Bool}

end
end Go.Proofs.Ytkpcmedmiiohnaa
