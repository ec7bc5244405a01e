/-
  Merged: Layer 15, the statements' helpers: the example, few, the row of all records.
-/
import Derived.Test.YtnldbdgchkknpaaBsOrC
import Derived.Test.YtnldbdgchkknpaaBsOrH

namespace Go.Proofs.Ytnldbdgchkknpaa
set_option linter.unusedSimpArgs false
set_option linter.unusedVariables false
set_option maxRecDepth 100000
open Go.RowKit Go.Shelf
/- Layer 15, the statements' helpers: the example, few, the row of all records. -/
namespace Ord
def exL : List Ent.E := [⟨1, 1, [1, 2], 0, 0, 0⟩, ⟨2, 1, [3, 2], 0, 0, 0⟩, ⟨3, 1, [3, 4], 0, 0, 0⟩]
def exC : List (List Int) := [[0, 0], [1, 2], [3, 2], [3, 4]]
theorem ex_of : Ord.of (Ord.zero 2) exL = exC := by decide
theorem ex_rows : Ord.rows exC = [(0, 0), (1, 0), (1, 1), (0, 1), (0, 2), (1, 2), (1, 3)] := by decide
theorem ex_add : Ord.addErr exC ⟨1, 1, [1, 2], 0, 0, 0⟩ = 150 := by decide
end Ord

def row15 (g : Nat) : Value := .slice (some ⟨g, 0, none⟩) 2 2
def exPs (g : Nat) : List (Value × Ent.E) := [(row15 g, ⟨1, 1, [1, 2], 0, 0, 0⟩), (row15 (g + 1), ⟨2, 1, [3, 2], 0, 0, 0⟩), (row15 (g + 1 + 1), ⟨3, 1, [3, 4], 0, 0, 0⟩)]
def al15 (w : World) : World := (((w.alloc (.cells #[.int .i64 1, .int .i64 2] 3)).alloc (.cells #[.int .i64 3, .int .i64 2] 3)).alloc (.cells #[.int .i64 3, .int .i64 4] 3)).alloc (.cells (entFlat (exPs w.heap.size)).toArray 55)
theorem al15_is (w : World) : (((w.alloc (.cells #[.int .i64 1, .int .i64 2] 3)).alloc (.cells #[.int .i64 3, .int .i64 2] 3)).alloc (.cells #[.int .i64 3, .int .i64 4] 3)).alloc (.cells #[.int .i64 1, .int .i64 1, .slice (some ⟨w.heap.size, 0, none⟩) 2 2, .int .i64 0, .int .i64 0, .int .i64 0, .int .i64 2, .int .i64 1, .slice (some ⟨w.heap.size + 1, 0, none⟩) 2 2, .int .i64 0, .int .i64 0, .int .i64 0, .int .i64 3, .int .i64 1, .slice (some ⟨w.heap.size + 1 + 1, 0, none⟩) 2 2, .int .i64 0, .int .i64 0, .int .i64 0] 55) = al15 w := rfl
theorem ints_new15 (w : World) (x y : Int) : Ints (w.alloc (.cells #[.int .i64 x, .int .i64 y] 3)) (row15 w.heap.size) [x, y] := (show OwnI _ w.heap.size _ [x, y] from World.ownsRow_lit w #[.int .i64 x, .int .i64 y] 2 (Nat.le_refl _) (by simp [maxLen]) rfl).ints
theorem al15_ext (w : World) : Ext w (al15 w) := (((Ext.alloc _ _).trans (Ext.alloc _ _)).trans (Ext.alloc _ _)).trans (Ext.alloc _ _)
theorem al15_ents (w : World) : Ents (al15 w) (.slice (some ⟨w.heap.size + 1 + 1 + 1, 0, none⟩) 3 3) Ord.exL ∧ (al15 w).cell? ⟨w.heap.size + 1 + 1 + 1, 0, none⟩ = some (.int .i64 1) ∧ (al15 w).cell? ⟨w.heap.size + 1 + 1 + 1, 1, none⟩ = some (.int .i64 1) ∧ (al15 w).cell? ⟨w.heap.size + 1 + 1 + 1, 2, none⟩ = some (row15 w.heap.size) ∧
    (al15 w).cell? ⟨w.heap.size + 1 + 1 + 1, 3, none⟩ = some (.int .i64 0) ∧ (al15 w).cell? ⟨w.heap.size + 1 + 1 + 1, 4, none⟩ = some (.int .i64 0) ∧ (al15 w).cell? ⟨w.heap.size + 1 + 1 + 1, 5, none⟩ = some (.int .i64 0) ∧ Ints (al15 w) (row15 w.heap.size) [1, 2] := by
  obtain ⟨g, hg⟩ : ∃ z, w.heap.size = z := ⟨_, rfl⟩
  obtain ⟨w1, hw1⟩ : ∃ z, w.alloc (.cells #[.int .i64 1, .int .i64 2] 3) = z := ⟨_, rfl⟩
  obtain ⟨w2, hw2⟩ : ∃ z, w1.alloc (.cells #[.int .i64 3, .int .i64 2] 3) = z := ⟨_, rfl⟩
  obtain ⟨w3, hw3⟩ : ∃ z, w2.alloc (.cells #[.int .i64 3, .int .i64 4] 3) = z := ⟨_, rfl⟩
  have z1 : w1.heap.size = g + 1 := by rw [← hw1, World.size_alloc, hg]
  have z2 : w2.heap.size = g + 1 + 1 := by rw [← hw2, World.size_alloc, z1]
  have z3 : w3.heap.size = g + 1 + 1 + 1 := by rw [← hw3, World.size_alloc, z2]
  have i1 : Ints w1 (row15 g) [1, 2] := by rw [← hw1, ← hg]; exact ints_new15 _ _ _
  have i2 : Ints w2 (row15 (g + 1)) [3, 2] := by rw [← hw2, ← z1]; exact ints_new15 _ _ _
  have i3 : Ints w3 (row15 (g + 1 + 1)) [3, 4] := by rw [← hw3, ← z2]; exact ints_new15 _ _ _
  have e2 : Ext w1 w2 := by rw [← hw2]; exact Ext.alloc _ _
  have e3 : Ext w2 w3 := by rw [← hw3]; exact Ext.alloc _ _
  have e4 := Ext.alloc w3 (.cells (entFlat (exPs g)).toArray 55)
  have hal : al15 w = w3.alloc (.cells (entFlat (exPs g)).toArray 55) := by unfold al15; rw [hw1, hw2, hw3, hg]
  rw [hal, hg]
  have hn := heap_alloc_new w3 (.cells (entFlat (exPs g)).toArray 55)
  rw [z3] at hn
  have ho := World.ownsRow_lit (e := 55) (size := 6) (base := 0) w3 (entFlat (exPs g)).toArray 3 (Nat.zero_le _) (by simp [maxLen]) rfl
  rw [z3] at ho
  refine ⟨ents_of_flat (ps := exPs g) ?_ (show SlN 6 _ _ 3 (entFlat (exPs g)) from SlN.ofOwn ho), cell_of_heap hn 0, cell_of_heap hn 1, cell_of_heap hn 2, cell_of_heap hn 3, cell_of_heap hn 4, cell_of_heap hn 5, i1.below (e2.trans (e3.trans e4))⟩
  intro p hp
  simp only [exPs, List.mem_cons, List.not_mem_nil, or_false] at hp
  rcases hp with rfl | rfl | rfl
  · exact i1.below (e2.trans (e3.trans e4))
  · exact i2.below (e3.trans e4)
  · exact i3.below e4
theorem Ord.at_ex {s l : Int} {is : Bool} (h : Ord.AtIs Ord.exC 3 s l is) : s = 0 ∧ l = 1 ∧ is = true := by
  cases is with
  | false =>
    obtain ⟨_, _, h⟩ := h
    have : (Ord.last Ord.exC).sum = 7 := by decide
    omega
  | true =>
    obtain ⟨i, hi, h⟩ := h
    obtain rfl : i = 3 := by omega
    rw [Ord.ex_rows] at h
    simp at h
    exact ⟨h.1.symm, h.2.symm, rfl⟩
theorem Ord.find_ex {k : Int} {is : Bool} (h : Ord.FindIs Ord.exC 1 3 k is) : k = 6 ∧ is = true := by
  cases is with
  | false => exact absurd (by rw [Ord.ex_rows]; rfl) (h.2 6)
  | true =>
    obtain ⟨i, rfl, h⟩ := h
    rw [Ord.ex_rows] at h
    refine ⟨?_, rfl⟩
    rcases Nat.lt_or_ge i 7 with q | q
    · have : i = 0 ∨ i = 1 ∨ i = 2 ∨ i = 3 ∨ i = 4 ∨ i = 5 ∨ i = 6 := by omega
      rcases this with rfl | rfl | rfl | rfl | rfl | rfl | rfl <;> simp at h ⊢
    · rw [List.getElem?_eq_none (by simpa using q)] at h
      cases h
set_option maxHeartbeats 4000000 in
theorem alive15_any (w : World) : Calls Try.prog 10 #[] w fun e w' => e = .returned (.bool true) ∧ Ext w w' := by
  have hal := al15_ents w
  have hE0 := al15_ext w
  obtain ⟨w0, hw0⟩ : ∃ z, al15 w = z := ⟨_, rfl⟩
  obtain ⟨g, hg⟩ : ∃ z, w.heap.size = z := ⟨_, rfl⟩
  rw [hw0, hg] at hal
  rw [hw0] at hE0
  have HAL := Lib.hid hal
  have HE0 := Lib.hid hE0
  have hof := of15_any 2 _ _ w0 HAL.out.1 (by decide) (by decide)
  have HOF := Lib.hid hof
  have HW0 := Lib.hid (And.intro hw0 hg)
  clear hal hE0 hof hw0 hg
  go_enter Try.func10, Try.ntmps10
  go_upto_region 2 with fail
  rw [al15_is, HW0.out.1, HW0.out.2]
  go_wp2_with fail
  refine HOF.out.mono ?_
  rintro e w1 (⟨hn, _⟩ | ⟨p, m, _, rfl, hlen, hp, hE1⟩)
  · exact absurd (by decide) hn
  rw [Ord.ex_of] at hp hlen
  obtain rfl : m = 3 := by have : Ord.exC.length = 4 := rfl; omega
  have HP1 := Lib.hid hp
  have HE1 := Lib.hid hE1
  clear hp hE1 hlen
  go_wp2_with fail
  refine (at15_any 3 HP1.out (by decide)).mono ?_
  rintro e w2 ⟨s, l, is, rfl, hat, hE2⟩
  obtain ⟨rfl, rfl, rfl⟩ := Ord.at_ex hat
  obtain ⟨w3, hw3⟩ : ∃ z, w2.alloc (.cells #[.int .i64 0, .int .i64 1] 36) = z := ⟨_, rfl⟩
  have hE3 : Ext w2 w3 := by rw [← hw3]; exact Ext.alloc _ _
  obtain ⟨q, hq⟩ : ∃ z, w2.heap.size = z := ⟨_, rfl⟩
  have hB3 : w3.heap[q]? = some (.cells #[.int .i64 0, .int .i64 1] 36 (0, 0)) := by rw [← hw3, ← hq]; exact heap_alloc_new _ _
  have HW3 := Lib.hid (And.intro hw3 hq)
  have HB3 := Lib.hid hB3
  have HE3 := Lib.hid (HE1.out.trans (hE2.trans hE3))
  have HP3 := Lib.hid (HP1.out.ext (hE2.trans hE3))
  clear hat hE2 hE3 hw3 hq hB3
  go_upto_region 6 with fail
  rw [HW3.out.1, HW3.out.2]
  go_wp2_with fail
  refine (find15_any 1 3 HP3.out (by decide)).mono ?_
  rintro e w4 ⟨k, is, rfl, hf, hE4⟩
  obtain ⟨rfl, rfl⟩ := Ord.find_ex hf
  have HB4 := Lib.hid (heap_ext HB3.out hE4)
  have HE4 := Lib.hid (HE3.out.trans hE4)
  have HP4 := Lib.hid (HP3.out.ext hE4)
  clear hf hE4
  go_wp2_with fail
  refine (after15_any 1 HP4.out).mono ?_
  rintro e w5 ⟨he, hE5⟩
  have h6 : Ord.after Ord.exC 1 = 3 := by decide
  have h7 : decide ((0 : Int) ≤ 1 ∧ (1 : Int) < (Ord.exC.length : Int)) = true := by decide
  rw [h6, h7] at he
  subst he
  have HB5 := Lib.hid (heap_ext HB4.out hE5)
  have HE5 := Lib.hid (HE4.out.trans hE5)
  have HP5 := Lib.hid (HP4.out.ext hE5)
  clear hE5 h6 h7
  have c0 := cell_of_heap HB5.out 0
  have c1 := cell_of_heap HB5.out 1
  simp only [List.getElem?_toArray, List.getElem?_cons_zero, List.getElem?_cons_succ] at c0 c1
  go_wp2_with fail
  refine (len15_any HP5.out).mono ?_
  rintro e w6 ⟨he, hE6⟩
  have h6 : (Ord.last Ord.exC).sum = 7 := by decide
  rw [h6] at he
  subst he
  have HE6 := Lib.hid (HE5.out.trans hE6)
  have HP6 := Lib.hid (HP5.out.ext hE6)
  clear hE6 h6 c0 c1
  have hE06 := HE6.out
  have d0 := cellExt15 HAL.out.2.1 hE06
  have d1 := cellExt15 HAL.out.2.2.1 hE06
  have d2 := cellExt15 HAL.out.2.2.2.1 hE06
  have d3 := cellExt15 HAL.out.2.2.2.2.1 hE06
  have d4 := cellExt15 HAL.out.2.2.2.2.2.1 hE06
  have d5 := cellExt15 HAL.out.2.2.2.2.2.2.1 hE06
  have hi6 := HAL.out.2.2.2.2.2.2.2.below hE06
  unfold row15 at d2 hi6
  have HADD := Lib.hid (add15_any (w := w6) (entV (.slice (some ⟨g, 0, none⟩) 2 2) ⟨1, 1, [1, 2], 0, 0, 0⟩) ⟨1, 1, [1, 2], 0, 0, 0⟩ HP6.out ⟨_, rfl, hi6⟩ (by decide) (by decide) HE6.out.size)
  unfold entV at HADD
  simp only at HADD
  clear hE06 hi6
  go_wp2_with fail
  refine HADD.out.mono ?_
  rintro e w7 ⟨he, _, hB⟩
  rw [Ord.ex_add] at he
  subst he
  have HE7 := Lib.hid (show Ext w w7 from Below.trans (B := w.heap.size) (HE0.out.trans HE6.out) (hB.mono HE0.out.size))
  clear hB d0 d1 d2 d3 d4 d5
  go_wp2_with fail
  go_ret
  exact ⟨rfl, HE7.out⟩

/-- Are they few, and bring few? -/
def GivesFew15 (l : List Ent.E) (w : World) (e : Ending) (w' : World) : Prop := ∃ b, e = .returned (.bool b) ∧ Ext w w' ∧ (b = true → l.length ≤ 60 ∧ ∀ e ∈ l, ∀ n ∈ e.cut, n ≤ 200 ∨ 1000000 < n)
set_option maxHeartbeats 4000000 in
theorem few15_any (v : Value) (l : List Ent.E) (w : World) (hv : Ents w v l) : Calls Try.prog 9 #[v] w (GivesFew15 l w) := by
  have HV := Lib.hid hv
  obtain ⟨a, cap, rfl, hcap, hmax⟩ := hv.shape
  clear hv
  go_enter Try.func9, Try.ntmps9
  go_wp2_with fail
  go_loopw [4, 6, 9] (fun _ _ i wr => ∃ k : Nat, k ≤ l.length ∧ i = .int .i64 k ∧ Hid (Ext w wr ∧ ∀ e ∈ l.take k, ∀ n ∈ e.cut, n ≤ 200 ∨ 1000000 < n)) (fun _ _ i _ => l.length - (intOf i).toNat)
  case atStart => exact ⟨0, by omega, rfl, Lib.hid ⟨Ext.refl _, by simp⟩⟩
  case round =>
    obtain ⟨k, hk, rfl, hI⟩ := hrel
    obtain ⟨ws, hws⟩ : ∃ z, z = wr := ⟨_, rfl⟩
    subst hws
    by_cases hlt : k < l.length
    · obtain ⟨a', cap', e', _, _, _, hc⟩ := HV.out
      obtain ⟨b, off, rfl, t, p0, p1, p2, p3, p4, p5, ht⟩ := hc k hlt
      injection e' with e1' e2' e3'
      subst e1'
      clear hc e2' e3'
      have hb := World.block_lt_of_cell? _ _ p0
      have key : ∀ i, ws.cell? ⟨b, i, none⟩ = w.cell? ⟨b, i, none⟩ := fun i => hI.out.1.cell (p := ⟨b, i, none⟩) hb
      rw [← key] at p0 p1 p2 p3 p4 p5
      clear key hb
      obtain ⟨a2, cap2, rfl, hcap2, hmax2, _, hcc⟩ := ht.open
      unfold maxLen at hmax2
      have hnx := take_succ_getD l k hlt
      obtain ⟨R, hR⟩ : ∃ z, l[k] = z := ⟨_, rfl⟩
      rw [hR] at p0 p1 p2 p3 p4 p5 ht hcap2 hcc hnx
      obtain ⟨q0, q1, c, q3, q4, q5⟩ := R
      simp only at p0 p1 p2 p3 p4 p5 ht hcap2 hcc ⊢
      have HNX := Lib.hid hnx
      have HCC := Lib.hid hcc
      have hp2 := p2
      obtain ⟨w3, hw3⟩ : ∃ z, ws.alloc (.cells #[.int .i64 q0, .int .i64 q1, .slice a2 c.length cap2, .int .i64 q3, .int .i64 q4, .int .i64 q5] 56) = z := ⟨_, rfl⟩
      obtain ⟨g, hg⟩ : ∃ z, ws.heap.size = z := ⟨_, rfl⟩
      have hE3 : Ext ws w3 := by rw [← hw3]; exact Ext.alloc _ _
      have hB3 : w3.heap[g]? = some (.cells #[.int .i64 q0, .int .i64 q1, .slice a2 c.length cap2, .int .i64 q3, .int .i64 q4, .int .i64 q5] 56 (0, 0)) := by rw [← hw3, ← hg]; exact heap_alloc_new _ _
      have HW3 := Lib.hid (And.intro hw3 hg)
      have HE3 := Lib.hid (hI.out.1.trans hE3)
      have z2 := cell_of_heap hB3 2
      simp only [List.getElem?_toArray, List.getElem?_cons_zero, List.getElem?_cons_succ] at z2
      clear hcc hnx hp2 hw3 hg hE3 hB3 ht hR
      go_upto_region 4 with fail
      rw [HW3.out.1, HW3.out.2]
      go_wp2_with fail
      go_loopw [6, 16] (fun _ i w5 => ∃ j : Nat, j ≤ c.length ∧ i = .int .i64 j ∧ Hid (w5 = w3 ∧ ∀ n ∈ c.take j, n ≤ 200 ∨ 1000000 < n)) (fun _ i _ => c.length - (intOf i).toNat)
      case atStart => exact ⟨0, by omega, rfl, Lib.hid ⟨rfl, by simp⟩⟩
      case round =>
        obtain ⟨j, hj, rfl, hJ⟩ := hrel
        have hJw := hJ.out.1
        subst hJw
        by_cases hltj : j < c.length
        · obtain ⟨bx, ox, rfl, hx⟩ := HCC.out j hltj
          have hx3 := cellExt15 hx HE3.out
          have hsucc := take_succ_getD c j hltj
          obtain ⟨x, hxx⟩ : ∃ z, c[j] = z := ⟨_, rfl⟩
          rw [hxx] at hx3 hsucc
          have HSU := Lib.hid hsucc
          clear hx hsucc hxx
          by_cases h2 : 200 < x
          · by_cases h3 : x ≤ 1000000
            · go_wp2_with fail
              go_ret
              exact ⟨false, rfl, HE3.out, fun h => (by cases h)⟩
            · go_wp2_with fail
              go_roundw
              case rel =>
                refine ⟨j + 1, by omega, by simp, Lib.hid ⟨by trivial, fun n hn => ?_⟩⟩
                rw [HSU.out] at hn
                rcases List.mem_append.1 hn with hn | hn
                · exact hJ.out.2 n hn
                · rw [List.mem_singleton.1 hn]
                  omega
              case measure => simp [intOf]; omega
          · go_wp2_with fail
            go_roundw
            case rel =>
              refine ⟨j + 1, by omega, by simp, Lib.hid ⟨by trivial, fun n hn => ?_⟩⟩
              rw [HSU.out] at hn
              rcases List.mem_append.1 hn with hn | hn
              · exact hJ.out.2 n hn
              · rw [List.mem_singleton.1 hn]
                omega
            case measure => simp [intOf]; omega
        · have hall : c.take j = c := List.take_of_length_le (by omega)
          have hq := hJ.out.2
          rw [hall] at hq
          have HQ := Lib.hid hq
          clear hq hall
          go_wp2_with fail
          go_roundw
          case rel =>
            refine ⟨k + 1, by omega, by simp, Lib.hid ⟨HE3.out, fun e he => ?_⟩⟩
            rw [HNX.out] at he
            rcases List.mem_append.1 he with he | he
            · exact hI.out.2 e he
            · rw [List.mem_singleton.1 he]
              exact HQ.out
          case measure => simp [intOf]; omega
    · have hall : l.take k = l := List.take_of_length_le (by omega)
      have hq := hI.out.2
      rw [hall] at hq
      have HQ := Lib.hid hq
      clear hq hall
      go_wp2_with fail
      go_ret
      exact ⟨_, rfl, hI.out.1, fun h => ⟨by simp at h; omega, HQ.out⟩⟩
end Go.Proofs.Ytnldbdgchkknpaa
