/-
  Merged: Layer 15, the program: At, Find.
-/
import Derived.Test.YtnldbdgchkknpaaBsOrF

namespace Go.Proofs.Ytnldbdgchkknpaa
set_option linter.unusedSimpArgs false
set_option linter.unusedVariables false
set_option maxRecDepth 100000
open Go.RowKit Go.Shelf
/- Layer 15, the program: At, Find. -/
attribute [local go_sem] Oper.semAt_some

/-- What At tells of a position. -/
def Ord.AtIs (cs : List (List Int)) (pos s l : Int) : Bool → Prop
  | true => ∃ i : Nat, pos = (i : Int) ∧ (Ord.rows cs)[i]? = some (s, l)
  | false => s = 0 ∧ l = 0 ∧ (pos < 0 ∨ (Ord.last cs).sum ≤ pos)
def GivesAt15 (cs : List (List Int)) (pos : Int) (w : World) (e : Ending) (w' : World) : Prop :=
  ∃ s l is, e = .returned (.tuple #[.agg #[.int .i64 s, .int .i64 l], .bool is]) ∧ Ord.AtIs cs pos s l is ∧ Ext w w'

theorem cellsKept15 {W W' : World} {row : Option Nat} (hg : W.grownBy W' row) (hr : ∀ r, row = some r → ∃ o : Obj, W.heap[r]? = some o ∧ o.isCells = false) {k : Nat} {cs : Array Value} {t : TypeId} {fr : Nat × Nat} (h : W.heap[k]? = some (.cells cs t fr)) : W'.heap[k]? = some (.cells cs t fr) := by
  refine (hg.block k (Array.getElem?_eq_some_iff.1 h).1 fun e => ?_).trans h
  obtain ⟨o, ho, hc⟩ := hr k e.symm
  rw [h] at ho
  cases ho
  cases hc
/-- The place that the last one of those that were told would make. -/
def Ord.plc (cs : List (List Int)) (k : Nat) (pos : Int) (pre : List Nat) : Array Value :=
  match pre.getLast? with
  | none => #[.int .i64 0, .int .i64 0]
  | some x => #[.int .i64 (x : Nat), .int .i64 (Ord.base cs k x + pos - Ord.start cs k x)]
theorem Ord.plc_snoc (cs : List (List Int)) (k : Nat) (pos : Int) (pre : List Nat) (x : Nat) : Ord.plc cs k pos (pre ++ [x]) = #[.int .i64 (x : Nat), .int .i64 (Ord.base cs k x + pos - Ord.start cs k x)] := by simp [Ord.plc]
theorem Ord.at_math {sh : Nat} {cs : List (List Int)} (h : Ord.Ok sh cs) (k : Nat) (hk : k + 1 < cs.length) (pos : Int) (jj : Nat) (hj : jj ≤ sh) (h1 : ∀ t ∈ List.range jj, Ord.start cs k t ≤ pos) (h2 : jj < sh → pos < Ord.start cs k jj) (h3 : Ord.start cs k 0 ≤ pos) (h4 : pos < Ord.start cs k sh) :
    ∃ x, jj = x + 1 ∧ Ord.AtIs cs pos (x : Nat) (Ord.base cs k x + pos - Ord.start cs k x) true := by
  have hj0 : jj ≠ 0 := by
    rintro rfl
    rcases Nat.eq_zero_or_pos sh with h0 | h0
    · subst h0
      omega
    · have := h2 h0
      omega
  obtain ⟨x, rfl⟩ : ∃ x, jj = x + 1 := ⟨jj - 1, by omega⟩
  refine ⟨x, rfl, ?_⟩
  have hx := h1 x (by simp)
  have hn : pos < Ord.start cs k (x + 1) := by
    rcases Nat.lt_or_ge (x + 1) sh with q | q
    · exact h2 q
    · obtain rfl : x + 1 = sh := by omega
      exact h4
  have hs := Ord.start_succ h k x hk (by omega)
  have hp := (Ord.start_any h k x hk).1
  have hg := h.get k x hk (by omega) pos.toNat (pos - Ord.start cs k x).toNat (by rw [← Ord.start_is h k x hk]; omega) (by omega)
  refine ⟨pos.toNat, by omega, ?_⟩
  rw [hg, Ord.base_is h k x hk (by omega)]
  congr 2
  omega
/-- Within the range. -/
structure InAt (w : World) (cs : List (List Int)) (k : Nat) (pos : Int) (q r : Nat) (pre : List Nat) (W : World) : Prop where
  bl : Below w.heap.size w W
  posAt : W.heap[q]? = some (.cells #[.int .i64 pos] 3 (0, 0))
  res : W.heap[q + 1]? = some (.cells #[.int .i64 0, .int .i64 0] 36 (0, 0))
  plc : W.heap[r]? = some (.cells (Ord.plc cs k pos pre) 36 (0, 0))
theorem InAt.own (w : World) (cs : List (List Int)) (k : Nat) (pos : Int) (q r B : Nat) (hB : w.heap.size ≤ B) : OwnFrom B (fun pre W => InAt w cs k pos q r pre W) := fun s W W' row h hg hr =>
  ⟨h.bl.grown hg (by have := h.bl.size; omega) (fun k e => by have := (hr k e).1; omega), cellsKept15 hg (fun r e => (hr r e).2) h.posAt, cellsKept15 hg (fun r e => (hr r e).2) h.res, cellsKept15 hg (fun r e => (hr r e).2) h.plc⟩
set_option maxHeartbeats 4000000 in
theorem at15_any {w : World} {B p : Nat} {cs : List (List Int)} (pos : Int) (h : IsOrd w B p cs) (hlong : cs.length ≤ 4398046511106) :
    Calls Try.prog 14 #[.pointer (some ⟨p, 0, none⟩), .int .i64 pos] w (GivesAt15 cs pos w) := by
  obtain ⟨sh, ho⟩ := h.ok
  have HO := Lib.hid ho
  have HH := Lib.hid h
  obtain ⟨q, hq⟩ : ∃ q, w.heap.size = q := ⟨_, rfl⟩
  obtain ⟨w1, hw1⟩ : ∃ z, w.alloc (.cells #[.int .i64 pos] 3) = z := ⟨_, rfl⟩
  obtain ⟨w2, hw2⟩ : ∃ z, w1.alloc (.cells #[.int .i64 0, .int .i64 0] 36) = z := ⟨_, rfl⟩
  have hE1 : Ext w w1 := by rw [← hw1]; exact Ext.alloc _ _
  have hE2 : Ext w1 w2 := by rw [← hw2]; exact Ext.alloc _ _
  have hs1 : w1.heap.size = q + 1 := by rw [← hw1, World.size_alloc, hq]
  have hB1 : w1.heap[q]? = some (.cells #[.int .i64 pos] 3 (0, 0)) := by rw [← hw1, ← hq]; exact heap_alloc_new _ _
  have hB2 : w2.heap[q + 1]? = some (.cells #[.int .i64 0, .int .i64 0] 36 (0, 0)) := by rw [← hw2, ← hs1]; exact heap_alloc_new _ _
  have HQ := Lib.hid (And.intro hq (And.intro hw1 (And.intro hs1 hw2)))
  have HX := Lib.hid (And.intro (hE1.trans hE2) (And.intro (heap_ext hB1 hE2) hB2))
  have HI := Lib.hid (h.ext HX.out.1)
  have hqc : w2.cell? ⟨q, 0, none⟩ = some (.int .i64 pos) := by rw [cell_of_heap HX.out.2.1 0]; rfl
  have HQC := Lib.hid hqc
  have HBR := Lib.hid (bringer15_any (F := 29) Try.func29 rfl (by kernel_rfl) HI.out hlong q (fun k => decide (pos < (cs.getD k []).sum)) (fun i j hij hj hi => by
      have := (HO.out.le i j (by omega) hj hij).sum
      simp only [List.getD_eq_getElem?_getD, List.getElem?_eq_getElem hj, List.getElem?_eq_getElem (show i < cs.length by omega), Option.getD_some, decide_eq_true_eq] at hi ⊢
      omega) (Lib.hid fun wy hy k hk a n c hi => by
      have := atFn15_any (.slice a n c) cs[k] pos q wy hi (cellExt15 HQC.out hy)
      rw [HO.out.total k hk] at this
      simp only [List.getD_eq_getElem?_getD, List.getElem?_eq_getElem hk, Option.getD_some]
      exact this))
  have HL := Lib.hid hlong
  clear hq hw1 hw2 hE1 hE2 hs1 hB1 hB2 h ho hlong
  refine (callsIn_wide (n := 3)).1 ?_
  refine callsIn_of_wp_marks Try.func14 rfl trivial ?_ rfl
  refine wpIn_wide.2 ?_
  simp only [Try.ntmps14, List.size_toArray, List.length_cons, List.length_nil, Nat.reduceAdd, Nat.reduceSub, Array.replicate_succ, Array.replicate_zero, List.push_toArray, List.append_toArray, List.nil_append, List.cons_append]
  go_upto_region 1 with fail
  rw [HQ.out.1, HQ.out.2.1]
  try rw [HQ.out.2.2.2]
  go_wp2_with fail
  refine HBR.out.mono ?_
  rintro e w3 ⟨m, rfl, hm, hlo, hhi, hE3⟩
  have HM := Lib.hid (And.intro hm (And.intro hlo hhi))
  have HE3 := Lib.hid (HX.out.1.trans hE3)
  have HB3 := Lib.hid (And.intro (heap_ext HX.out.2.1 hE3) (heap_ext HX.out.2.2 hE3))
  clear hm hlo hhi hE3 hqc
  obtain ⟨is, his⟩ : ∃ z, decide (0 < m ∧ m < cs.length) = z := ⟨_, rfl⟩
  rw [his]
  have HIS := Lib.hid his
  clear his
  cases is with
  | false =>
    have c1 := cell_of_heap HB3.out.2 0
    have c2 := cell_of_heap HB3.out.2 1
    have f1 := frozen_of_heap HB3.out.2 0
    have f2 := frozen_of_heap HB3.out.2 1
    simp only [List.getElem?_toArray, List.getElem?_cons_zero, List.getElem?_cons_succ] at c1 c2
    go_wp2_with fail
    obtain ⟨w4, hw4⟩ : ∃ z, (w3.setCell ⟨q + 1, 0, none⟩ (.int .i64 0)).setCell ⟨q + 1, 1, none⟩ (.int .i64 0) = z := ⟨_, rfl⟩
    have e1 := heap_setCell HB3.out.2 0 (.int .i64 0)
    have e2 := heap_setCell e1 1 (.int .i64 0)
    rw [hw4] at e2 ⊢
    have d1 := cell_of_heap e2 0
    have d2 := cell_of_heap e2 1
    simp only [List.setIfInBounds_toArray, List.set_cons_zero, List.set_cons_succ, List.getElem?_toArray, List.getElem?_cons_zero, List.getElem?_cons_succ] at d1 d2
    have hE4 : Ext w w4 := by
      rw [← hw4]
      exact (Below.setCell (B := w.heap.size) (Below.setCell (B := w.heap.size) HE3.out (by rw [HQ.out.1]; simp) _) (by rw [HQ.out.1]; simp) _)
    refine ⟨.tuple #[.agg #[.int .i64 0, .int .i64 0], .bool false], by simp [results, Try.results14, go_sem, d1, d2], 0, 0, false, rfl, ⟨rfl, rfl, ?_⟩, hE4⟩
    have hp := HO.out.pos
    have hz := HO.out.zero
    have hla := HO.out.last_is
    have h1 := of_decide_eq_false HIS.out
    obtain ⟨h2, h3, h4⟩ := HM.out
    rcases Nat.eq_zero_or_pos m with h0 | h0
    · have := h4 0 (by omega) hp
      simp only [List.getD_eq_getElem?_getD, List.getElem?_eq_getElem hp, Option.getD_some, decide_eq_true_eq] at this
      left
      omega
    · have := h3 (cs.length - 1) (by omega)
      simp only [List.getD_eq_getElem?_getD, List.getElem?_eq_getElem (show cs.length - 1 < cs.length by omega), Option.getD_some, decide_eq_false_iff_not] at this
      right
      rw [hla]
      omega
  | true =>
    obtain ⟨k, rfl⟩ : ∃ k, m = k + 1 := ⟨m - 1, by have := (of_decide_eq_true HIS.out).1; omega⟩
    have hk := (of_decide_eq_true HIS.out).2
    have hlo : cs[k].sum ≤ pos := by
      have := HM.out.2.1 k (by omega)
      simp only [List.getD_eq_getElem?_getD, List.getElem?_eq_getElem (show k < cs.length by omega), Option.getD_some, decide_eq_false_iff_not] at this
      omega
    have hhi : pos < cs[k + 1].sum := by
      have := HM.out.2.2 (k + 1) (by omega) hk
      simp only [List.getD_eq_getElem?_getD, List.getElem?_eq_getElem hk, Option.getD_some, decide_eq_true_eq] at this
      omega
    have HK := Lib.hid hk
    have HB := Lib.hid (show Ord.start cs k 0 ≤ pos ∧ pos < Ord.start cs k sh from ⟨by rw [Ord.start_zero HO.out k hk]; exact hlo, by rw [Ord.start_all HO.out k hk]; exact hhi⟩)
    clear hlo hhi hk
    go_upto_region 5 with fail
    obtain ⟨r, hr⟩ : ∃ z, w3.heap.size = z := ⟨_, rfl⟩
    obtain ⟨w4, hw4⟩ : ∃ z, w3.alloc (.cells #[.int .i64 0, .int .i64 0] 36) = z := ⟨_, rfl⟩
    have hE4 : Ext w3 w4 := by rw [← hw4]; exact Ext.alloc _ _
    have hB4 : w4.heap[r]? = some (.cells #[.int .i64 0, .int .i64 0] 36 (0, 0)) := by rw [← hw4, ← hr]; exact heap_alloc_new _ _
    rw [hr, hw4]
    have hrq : q + 1 < r := by rw [← hr]; exact (Array.getElem?_eq_some_iff.1 HB3.out.2).1
    clear hr hw4
    go_wp2_with fail
    have hbr := brought15_any p (k + 1) w4
    refine hbr.mono ?_
    rintro e w5 ⟨b1, b2, rfl, hE5, hb1, hb2⟩
    have HE5 := Lib.hid (HE3.out.trans (hE4.trans hE5))
    have HB5 := Lib.hid (And.intro (heap_ext HB3.out.1 (hE4.trans hE5)) (And.intro (heap_ext HB3.out.2 (hE4.trans hE5)) (heap_ext hB4 hE5)))
    have hst := brought_stops (3 - 1) (by omega) b1 b2 k B p sh cs w w5 HH.out HO.out HK.out HL.out HE5.out hb1 hb2
    have HST := Lib.hid hst
    clear hE4 hB4 hbr hE5 hb1 hb2 hst
    go_wp2_with fail
    refine (wpIn_wide (n := 3)).1 ?_
    have hsz5 : w.heap.size ≤ w5.heap.size := HE5.out.size
    have hqw : w.heap.size = q := HQ.out.1
    have hrl : r < w5.heap.size := (Array.getElem?_eq_some_iff.1 HB5.out.2.2).1
    refine wpIn_rangeAlloc (n := 3) rfl (by omega) (gf := 36) (lb := #[.pointer (some ⟨b1, 0, none⟩), .pointer (some ⟨b2, 0, none⟩)]) rfl trivial (enters_of Try.func36 (by kernel_rfl) rfl)
      HST.out (fun _ _ _ h k => h.trans k) (fun W l o o' h1 h2 h3 h4 => belowK_b (w := w) (Nat.le_refl _) W l o o' (by omega) h2 h3 h4) (Below.refl _ _) (fun _ => rfl)
      (fun pre W => InAt w cs k pos q r pre W ∧ ∀ t ∈ pre, Ord.start cs k t ≤ pos)
      (fun c pre W => c = .exit 0 ∧ ∃ pre0 x, pre = pre0 ++ [x] ∧ InAt w cs k pos q r pre0 W ∧ (∀ t ∈ pre0, Ord.start cs k t ≤ pos) ∧ pos < Ord.start cs k x)
      (OwnFrom.and (InAt.own w cs k pos q r _ hsz5) (ownFrom_pure _ (fun pre : List Nat => ∀ t ∈ pre, Ord.start cs k t ≤ pos)))
      (fun c s W W' row hs hg hr => by
        obtain ⟨e, pre0, x, h1, h2, h3⟩ := hs
        exact ⟨e, pre0, x, h1, InAt.own w cs k pos q r _ hsz5 pre0 W W' row h2 hg hr, h3⟩)
      ⟨⟨HE5.out, HB5.out.1, HB5.out.2.1, HB5.out.2.2⟩, by simp⟩
      (fun x W => W.alloc (.cells #[.int .i64 (x : Nat), .int .i64 (Ord.base cs k x)] 36))
      (fun x q2 => { tmps := #[.pointer (some ⟨p, 0, none⟩), .int .i64 pos, undef, .pointer (some ⟨q, 0, none⟩), .pointer (some ⟨q + 1, 0, none⟩), .bool false, .int .i64 ((k : Int) + 1), .bool true, .pointer (some ⟨r, 0, none⟩), .int .i64 (Ord.start cs k x), .pointer (some ⟨q2, 0, none⟩), .tuple #[.int .i64 ((k : Int) + 1), .bool true], .pointer (some ⟨p, 0, none⟩), .func (.func 29) #[] #[.pointer (some ⟨q, 0, none⟩)], .tuple #[.int .i64 ((k : Int) + 1), .bool true], .int .i64 ((k : Int) + 1), .bool true, .bool true, .bool false, undef, .pointer (some ⟨p, 0, none⟩), .int .i64 ((k : Int) + 1), .func (.func 36) #[] #[.pointer (some ⟨b1, 0, none⟩), .pointer (some ⟨b2, 0, none⟩)], .int .i64 (Ord.start cs k x), .agg #[.int .i64 (x : Nat), .int .i64 (Ord.base cs k x)], undef, undef, undef, undef, undef, undef, undef, undef, undef, undef, undef, undef, undef], defers := [] })
      (fun pre x q2 W => (InAt w cs k pos q r pre W ∧ ∀ t ∈ pre, Ord.start cs k t ≤ pos) ∧ W.heap[q2]? = some (.cells #[.int .i64 (x : Nat), .int .i64 (Ord.base cs k x)] 36 (0, 0)) ∧ r < q2)
      ?assign ?gx ?ownb ?body ?done ?stop
    case assign =>
      intro l x W K hK
      dsimp only [Ord.encs]
      gi_wp2
      exact hK
    case gx =>
      rintro pre x W ⟨h1, h2⟩
      have hE := Ext.alloc W (.cells #[.int .i64 (x : Nat), .int .i64 (Ord.base cs k x)] 36)
      exact ⟨⟨⟨⟨h1.bl.trans (hE.mono h1.bl.size), heap_ext h1.posAt hE, heap_ext h1.res hE, heap_ext h1.plc hE⟩, h2⟩, heap_alloc_new _ _, (Array.getElem?_eq_some_iff.1 h1.plc).1⟩, (KeepsOthers.alloc W _).from _, hE.mono h1.bl.size⟩
    case ownb =>
      rintro x q2 pre W W' row ⟨⟨h1, h2⟩, h3, h4⟩ hg hr
      exact ⟨⟨InAt.own w cs k pos q r _ hsz5 pre W W' row h1 hg hr, h2⟩, cellsKept15 hg (fun r e => (hr r e).2) h3, h4⟩
    case body =>
      rintro l pre x q2 X ⟨⟨h1, h2⟩, h3, h4⟩ hlen
      have H1 := Lib.hid h1
      have H2 := Lib.hid h2
      have H3 := Lib.hid h3
      obtain ⟨hs0, hs1⟩ := Ord.start_any HO.out k x HK.out
      obtain ⟨hb0, hb1⟩ := Ord.base_any HO.out k x HK.out
      have hp0 : 0 ≤ pos := by
        have := (Ord.start_any HO.out k 0 HK.out).1
        have := HB.out.1
        omega
      have hp1 : pos ≤ 1000000 := by
        have := (Ord.start_any HO.out k sh HK.out).2
        have := HB.out.2
        omega
      have c0 := cell_of_heap h1.posAt 0
      have c1 := cell_of_heap h3 0
      have c2 := cell_of_heap h3 1
      simp only [List.getElem?_toArray, List.getElem?_cons_zero, List.getElem?_cons_succ] at c0 c1 c2
      have f0 := frozen_of_heap h1.plc 0
      have f1 := frozen_of_heap h1.plc 1
      obtain ⟨pz0, pz1, hpz⟩ : ∃ a b, Ord.plc cs k pos pre = #[a, b] := by
        unfold Ord.plc
        split <;> exact ⟨_, _, rfl⟩
      have hplc := h1.plc
      rw [hpz] at hplc
      have g0 := cell_of_heap hplc 0
      have g1 := cell_of_heap hplc 1
      simp only [List.getElem?_toArray, List.getElem?_cons_zero, List.getElem?_cons_succ] at g0 g1
      obtain ⟨S, hS⟩ : ∃ z, Ord.start cs k x = z := ⟨_, rfl⟩
      obtain ⟨A, hA⟩ : ∃ z, Ord.base cs k x = z := ⟨_, rfl⟩
      rw [hS] at hs0 hs1 ⊢
      rw [hA] at hb0 hb1 c2 ⊢
      have HS := Lib.hid (And.intro hS hA)
      have HPL := Lib.hid hplc
      have hw1 : IntKind.i64.wrap (A + pos) = A + pos := IntWalk.i64_in _ (by omega)
      have hw2 : IntKind.i64.wrap (A + pos - S) = A + pos - S := IntWalk.i64_in _ (by omega)
      clear h1 h2 h3 hS hA hpz hplc
      by_cases hgt : pos < S
      · gi_wp2
        exact ⟨KeepsFrom.refl _ _, rfl, pre, x, rfl, H1.out, H2.out, by rw [HS.out.1]; exact hgt⟩
      · gi_wp2
        have e1 := heap_setCell HPL.out 0 (.int .i64 (x : Nat))
        have e2 := heap_setCell e1 1 (.int .i64 (A + pos - S))
        have hqr : q ≠ r := by omega
        have hqr1 : q + 1 ≠ r := by omega
        refine ⟨((KeepsOthers.setCell _ _ _).trans (KeepsOthers.setCell _ _ _)).from _, ((Below.refl _ _).setCell (by dsimp only; omega) _).setCell (by dsimp only; omega) _, ⟨(H1.out.bl.setCell (by dsimp only; omega) _).setCell (by dsimp only; omega) _, ?_, ?_, ?_⟩, ?_⟩
        · exact (Below.heap_setCell _ _ _ _ (by simpa using hqr)).trans ((Below.heap_setCell _ _ _ _ (by simpa using hqr)).trans H1.out.posAt)
        · exact (Below.heap_setCell _ _ _ _ (by simpa using hqr1)).trans ((Below.heap_setCell _ _ _ _ (by simpa using hqr1)).trans H1.out.res)
        · rw [Ord.plc_snoc, HS.out.1, HS.out.2]
          exact e2
        · intro t ht
          rcases List.mem_append.1 ht with ht | ht
          · exact H2.out t ht
          · rw [List.mem_singleton.1 ht, HS.out.1]
            omega
    case done =>
      rintro D xs W hD rfl ⟨h1, h2⟩ hK
      obtain ⟨x, hx, hat⟩ := Ord.at_math HO.out k HK.out pos sh (Nat.le_refl _) h2 (fun h => absurd h (Nat.lt_irrefl _)) HB.out.1 HB.out.2
      have HAT := Lib.hid hat
      have hplc := h1.plc
      rw [hx, List.range_succ, Ord.plc_snoc] at hplc
      have c0 := cell_of_heap hplc 0
      have c1 := cell_of_heap hplc 1
      have d0 := cell_of_heap h1.res 0
      have d1 := cell_of_heap h1.res 1
      have f0 := frozen_of_heap h1.res 0
      have f1 := frozen_of_heap h1.res 1
      simp only [List.getElem?_toArray, List.getElem?_cons_zero, List.getElem?_cons_succ] at c0 c1 d0 d1
      obtain ⟨L, hL⟩ : ∃ z, Ord.base cs k x + pos - Ord.start cs k x = z := ⟨_, rfl⟩
      rw [hL] at HAT c1
      have HI1 := Lib.hid h1
      clear h1 h2 hplc hat hL hx
      go_wp2_with fail
      have e1 := heap_setCell HI1.out.res 0 (.int .i64 (x : Nat))
      have e2 := heap_setCell e1 1 (.int .i64 L)
      have hDq : D ≠ q + 1 := by omega
      have hK2 := (Below.heap_setCell (W.setCell ⟨q + 1, 0, none⟩ (.int .i64 (x : Nat))) ⟨q + 1, 1, none⟩ (.int .i64 L) D (by simpa using hDq)).trans ((Below.heap_setCell W ⟨q + 1, 0, none⟩ (.int .i64 (x : Nat)) D (by simpa using hDq)).trans hK)
      have hBz : Below w.heap.size w ((W.setCell ⟨q + 1, 0, none⟩ (.int .i64 (x : Nat))).setCell ⟨q + 1, 1, none⟩ (.int .i64 L)) := (HI1.out.bl.setCell (by dsimp only; omega) _).setCell (by dsimp only; omega) _
      obtain ⟨Z, hZ⟩ : ∃ z, (W.setCell ⟨q + 1, 0, none⟩ (.int .i64 (x : Nat))).setCell ⟨q + 1, 1, none⟩ (.int .i64 L) = z := ⟨_, rfl⟩
      rw [hZ] at e2 hK2 hBz ⊢
      have e3 : (Z.putObj D (.deferred none)).heap[q + 1]? = _ := (World.putObj_heap_other (Ne.symm hDq)).trans e2
      have d2 := cell_of_heap e3 0
      have d3 := cell_of_heap e3 1
      simp only [List.setIfInBounds_toArray, List.set_cons_zero, List.set_cons_succ, List.getElem?_toArray, List.getElem?_cons_zero, List.getElem?_cons_succ] at d2 d3
      refine ⟨by simp, .inl ⟨D, _, rfl, run_takeDeferred hK2, ?_⟩⟩
      refine ⟨.tuple #[.agg #[.int .i64 (x : Nat), .int .i64 L], .bool true], by simp [results, Try.results14, go_sem, d2, d3], (x : Nat), L, true, rfl, HAT.out, hBz.trans (belowK_b (w := w) (Nat.le_refl _) Z D _ _ (by omega) hK2 rfl rfl)⟩
    case stop =>
      rintro D c pre W hD ⟨j, hj, rfl⟩ ⟨rfl, pre0, xl, h0, h1, h2, h3⟩ hK
      have hh : pre0 = List.range j ∧ xl = j := by
        rw [List.range_succ] at h0
        have := List.append_inj' h0 rfl
        exact ⟨this.1.symm, by simpa using this.2.symm⟩
      obtain ⟨rfl, rfl⟩ := hh
      obtain ⟨x, hx, hat⟩ := Ord.at_math HO.out k HK.out pos xl (by omega) h2 (fun _ => h3) HB.out.1 HB.out.2
      have HAT := Lib.hid hat
      have hplc := h1.plc
      rw [hx, List.range_succ, Ord.plc_snoc] at hplc
      have c0 := cell_of_heap hplc 0
      have c1 := cell_of_heap hplc 1
      have d0 := cell_of_heap h1.res 0
      have d1 := cell_of_heap h1.res 1
      have f0 := frozen_of_heap h1.res 0
      have f1 := frozen_of_heap h1.res 1
      simp only [List.getElem?_toArray, List.getElem?_cons_zero, List.getElem?_cons_succ] at c0 c1 d0 d1
      obtain ⟨L, hL⟩ : ∃ z, Ord.base cs k x + pos - Ord.start cs k x = z := ⟨_, rfl⟩
      rw [hL] at HAT c1
      have HI1 := Lib.hid h1
      clear h0 h1 h2 h3 hplc hat hL hx
      refine wpIn_wide.2 ?_
      go_wp2_with fail
      have e1 := heap_setCell HI1.out.res 0 (.int .i64 (x : Nat))
      have e2 := heap_setCell e1 1 (.int .i64 L)
      have hDq : D ≠ q + 1 := by omega
      have hK2 := (Below.heap_setCell (W.setCell ⟨q + 1, 0, none⟩ (.int .i64 (x : Nat))) ⟨q + 1, 1, none⟩ (.int .i64 L) D (by simpa using hDq)).trans ((Below.heap_setCell W ⟨q + 1, 0, none⟩ (.int .i64 (x : Nat)) D (by simpa using hDq)).trans hK)
      have hBz : Below w.heap.size w ((W.setCell ⟨q + 1, 0, none⟩ (.int .i64 (x : Nat))).setCell ⟨q + 1, 1, none⟩ (.int .i64 L)) := (HI1.out.bl.setCell (by dsimp only; omega) _).setCell (by dsimp only; omega) _
      obtain ⟨Z, hZ⟩ : ∃ z, (W.setCell ⟨q + 1, 0, none⟩ (.int .i64 (x : Nat))).setCell ⟨q + 1, 1, none⟩ (.int .i64 L) = z := ⟨_, rfl⟩
      rw [hZ] at e2 hK2 hBz ⊢
      have e3 : (Z.putObj D (.deferred none)).heap[q + 1]? = _ := (World.putObj_heap_other (Ne.symm hDq)).trans e2
      have d2 := cell_of_heap e3 0
      have d3 := cell_of_heap e3 1
      simp only [List.setIfInBounds_toArray, List.set_cons_zero, List.set_cons_succ, List.getElem?_toArray, List.getElem?_cons_zero, List.getElem?_cons_succ] at d2 d3
      refine ⟨by simp, .inl ⟨D, _, rfl, run_takeDeferred hK2, ?_⟩⟩
      refine ⟨.tuple #[.agg #[.int .i64 (x : Nat), .int .i64 L], .bool true], by simp [results, Try.results14, go_sem, d2, d3], (x : Nat), L, true, rfl, HAT.out, hBz.trans (belowK_b (w := w) (Nat.le_refl _) Z D _ _ (by omega) hK2 rfl rfl)⟩
end Go.Proofs.Ytnldbdgchkknpaa
