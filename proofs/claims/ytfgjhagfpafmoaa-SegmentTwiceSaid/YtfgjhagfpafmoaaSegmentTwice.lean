/-
  SegmentTwice: what is appended once more is there once; another record in its place is refused: for every input the statement's function returns true, and leaves what came in as it was.
-/
import Derived.Test.YtfgjhagfpafmoaaBsRec
import Derived.Test.YtfgjhagfpafmoaaSgJ
import Derived.Test.YtfgjhagfpafmoaaSgL
import Derived.Test.YtfgjhagfpafmoaaSgM
import Derived.Test.YtfgjhagfpafmoaaSgRow2
namespace Go.Proofs.Ytfgjhagfpafmoaa
set_option linter.unusedSimpArgs false
set_option linter.unusedVariables false
open Go.ChangeShapes Go.WideShapes Go.ChangeAt Go.RowKit

set_option maxRecDepth 100000 in
set_option maxHeartbeats 40000000 in
theorem segmentTwice_walk (a : Option Addr) (n c : Nat) (l : List Rec.R) (kk : Int) (v : Value) (r : Rec.R) (W : World) (h0 : Recs W (.slice a n c) l) (hv : IsRec W v r) (hkk : -9223372036854775808 ≤ kk ∧ kk ≤ 9223372036854775807) :
    Calls Try.prog 4 #[.slice a n c, .int .i64 kk, v] W fun e W' => e = .returned (.bool true) ∧ Below W.heap.size W W' := by
  have HL0 := Lib.hid h0
  have hln : l.length = n ∧ n ≤ c ∧ c ≤ 9223372036854775807 := by
    obtain ⟨_, _, e, h1, h2, _⟩ := h0
    injection e with e1 e2 e3
    subst e3
    unfold maxLen at h2
    omega
  obtain ⟨hln, hnc, hc9⟩ := hln
  have HN := Lib.hid hln
  have HV := Lib.hid hv
  obtain ⟨ta, tn, tc, rfl⟩ := hv.shape
  obtain ⟨q0, hq0⟩ : ∃ q : Int, r.client = q := ⟨_, rfl⟩
  obtain ⟨q1, hq1⟩ : ∃ q : Int, r.number = q := ⟨_, rfl⟩
  obtain ⟨q3, hq3⟩ : ∃ q : ByteArray, (⟨r.data.toArray⟩ : ByteArray) = q := ⟨_, rfl⟩
  rw [hq0, hq1, hq3] at HV ⊢
  obtain ⟨w1, hw1⟩ : ∃ w1, W.alloc (.cells #[.int .i64 q0, .int .i64 q1, .slice ta tn tc, .string q3] 35) = w1 := ⟨_, rfl⟩
  obtain ⟨X, hX⟩ : ∃ X, W.heap.size = X := ⟨_, rfl⟩
  obtain ⟨B, hB⟩ : ∃ B, w1.heap.size = B := ⟨_, rfl⟩
  have hE1 : Ext W w1 := by rw [← hw1]; exact Ext.alloc _ _
  have hx1 : w1.heap[X]? = some (.cells #[.int .i64 q0, .int .i64 q1, .slice ta tn tc, .string q3] 35 (0, 0)) := by rw [← hw1, ← hX]; exact heap_alloc_new _ _
  have hXB : X < B := by rw [← hB]; exact (Array.getElem?_eq_some_iff.1 hx1).1
  have HW1 := Lib.hid (And.intro hw1 (And.intro hX (And.intro hB (And.intro hE1 hx1))))
  clear hv h0 hln hq0 hq1 hq3 hw1 hX hB hE1 hx1
  go_enter Try.func4, Try.ntmps4
  go_upto_region 1 with fail
  rw [HW1.out.1, HW1.out.2.1]
  go_wp2_with fail
  refine (opened9_any (.slice none 0 0) [] w1 (bytes_none w1)).mono ?_
  rintro e w2 ⟨p, g, rfl, hs2, hE2⟩
  rw [Seg.row_nil, HW1.out.2.2.1] at hs2
  obtain ⟨w3, hw3⟩ : ∃ w3, w2.alloc (.cells #[.pointer (some ⟨p, 0, none⟩), .pointer (some ⟨g, 0, none⟩)] 26) = w3 := ⟨_, rfl⟩
  obtain ⟨Y, hY⟩ : ∃ Y, w2.heap.size = Y := ⟨_, rfl⟩
  have hE3 : Ext w2 w3 := by rw [← hw3]; exact Ext.alloc _ _
  have hy3 : w3.heap[Y]? = some (.cells #[.pointer (some ⟨p, 0, none⟩), .pointer (some ⟨g, 0, none⟩)] 26 (0, 0)) := by rw [← hw3, ← hY]; exact heap_alloc_new _ _
  have hBl : Below B w1 w3 := by rw [← HW1.out.2.2.1]; exact hE2.trans hE3
  have HI0 := Lib.hid (And.intro (hs2.ext hE3).full (And.intro hBl hy3))
  have HW3 := Lib.hid (And.intro hw3 hY)
  clear hs2 hE2 hw3 hY hE3 hy3 hBl
  go_upto_region 2 with fail
  rw [HW3.out.1, HW3.out.2]
  have hend : ∀ w', Below B w1 w' → Below W.heap.size W w' := fun w' h => Below.trans (B := W.heap.size) HW1.out.2.2.2.1 (h.mono (by rw [HW1.out.2.1]; omega))
  have HEND := Lib.hid hend
  clear hend
  by_cases hbad : 40 < n ∨ kk < 0 ∨ (n : Int) ≤ kk
  · by_cases h40 : 40 < n
    · go_wp2_with fail
      refine (alive9_any _).mono ?_
      rintro e w4 ⟨rfl, hE4⟩
      have hfin := (HEND.out w3 HI0.out.2.1).trans (hE4.mono (HEND.out w3 HI0.out.2.1).size)
      clear hE4
      go_wp2_with fail
      go_ret
      exact ⟨rfl, hfin⟩
    by_cases hk0 : kk < 0
    · go_wp2_with fail
      refine (alive9_any _).mono ?_
      rintro e w4 ⟨rfl, hE4⟩
      have hfin := (HEND.out w3 HI0.out.2.1).trans (hE4.mono (HEND.out w3 HI0.out.2.1).size)
      clear hE4
      go_wp2_with fail
      go_ret
      exact ⟨rfl, hfin⟩
    have hkn : (n : Int) ≤ kk := by omega
    go_wp2_with fail
    refine (alive9_any _).mono ?_
    rintro e w4 ⟨rfl, hE4⟩
    have hfin := (HEND.out w3 HI0.out.2.1).trans (hE4.mono (HEND.out w3 HI0.out.2.1).size)
    clear hE4
    go_wp2_with fail
    go_ret
    exact ⟨rfl, hfin⟩
  have h40 : ¬ 40 < n := by omega
  obtain ⟨K, hK⟩ : ∃ K : Nat, kk = (K : Int) := ⟨kk.toNat, by omega⟩
  subst hK
  have hKn : K < n := by omega
  clear hbad hkk
  have d1 : decide (40 < (n : Int)) = false := decide_eq_false (by omega)
  have d2 : decide ((K : Int) < 0) = false := decide_eq_false (by omega)
  have d3 : decide (n ≤ K) = false := decide_eq_false (by omega)
  go_wp2_with fail
  clear d1 d2 d3
  go_loopw [41] (fun i wr => ∃ (k : Nat), k ≤ n ∧ i = .int .i64 k ∧ Hid (IsSeg wr B wr.heap.size g p (Seg.row (l.take k)) ∧ Below B w1 wr ∧ wr.heap[Y]? = some (.cells #[.pointer (some ⟨p, 0, none⟩), .pointer (some ⟨g, 0, none⟩)] 26 (0, 0)) ∧ (∀ x ∈ l.take k, Rec.right x = true))) (fun i _ => n - (intOf i).toNat)
  case atStart => exact ⟨0, by omega, rfl, Lib.hid ⟨by rw [List.take_zero]; exact HI0.out.1, HI0.out.2.1, HI0.out.2.2, fun x hx => by rw [List.take_zero] at hx; cases hx⟩⟩
  case round =>
    obtain ⟨k, hk, rfl, hI⟩ := hrel
    by_cases hlt : k < n
    · have hkl : k < l.length := by rw [HN.out]; exact hlt
      obtain ⟨_, _, e1, _, _, _, hc⟩ := HL0.out
      obtain ⟨ab, ao, rfl, t9, p0, p1, p2, p3, ht9⟩ := hc k hkl
      injection e1 with e1 e2 e3
      subst e1
      obtain ⟨a1, a2, a3, rfl⟩ : ∃ x y z, t9 = .slice x y z := by
        obtain ⟨x, cc, e, _⟩ := ht9.open
        exact ⟨x, _, cc, e⟩
      have hbw := HEND.out wr hI.out.2.1
      have p0 := cell_below p0 hbw
      have p1 := cell_below p1 hbw
      have p2 := cell_below p2 hbw
      have p3 := cell_below p3 hbw
      obtain ⟨R9, hR9⟩ : ∃ R, l[k] = R := ⟨_, rfl⟩
      rw [hR9] at p0 p1 p3 ht9
      obtain ⟨y0, hy0⟩ : ∃ q : Int, R9.client = q := ⟨_, rfl⟩
      obtain ⟨y1, hy1⟩ : ∃ q : Int, R9.number = q := ⟨_, rfl⟩
      obtain ⟨y3, hy3⟩ : ∃ q : ByteArray, (⟨R9.data.toArray⟩ : ByteArray) = q := ⟨_, rfl⟩
      have hrec : ∀ w', Below W.heap.size W w' → IsRec w' (.agg #[.int .i64 y0, .int .i64 y1, .slice a1 a2 a3, .string y3]) R9 := fun w' h => by
        rw [← hy0, ← hy1, ← hy3]
        exact ⟨_, rfl, ht9.below h⟩
      rw [hy0] at p0
      rw [hy1] at p1
      rw [hy3] at p3
      have HREC := Lib.hid hrec
      have HR9 := Lib.hid hR9
      clear hrec hR9 hy0 hy1 hy3 ht9 hc e2 e3 hbw
      obtain ⟨w4, hw4⟩ : ∃ w4, wr.alloc (.cells #[.int .i64 y0, .int .i64 y1, .slice a1 a2 a3, .string y3] 35) = w4 := ⟨_, rfl⟩
      obtain ⟨Z, hZ⟩ : ∃ Z, wr.heap.size = Z := ⟨_, rfl⟩
      have hE4 : Ext wr w4 := by rw [← hw4]; exact Ext.alloc _ _
      have hz4 : w4.heap[Z]? = some (.cells #[.int .i64 y0, .int .i64 y1, .slice a1 a2 a3, .string y3] 35 (0, 0)) := by rw [← hw4, ← hZ]; exact heap_alloc_new _ _
      have hBwr : B ≤ wr.heap.size := by rw [← HW1.out.2.2.1]; exact hI.out.2.1.size
      have hBw4 : Below B w1 w4 := hI.out.2.1.trans (hE4.mono hBwr)
      have hBs : B ≤ w4.heap.size := Nat.le_trans hBwr hE4.size
      obtain ⟨va, vp, lv, ps, hseg⟩ := (hI.out.1.ext hE4).full
      have happ := append9_any hseg (Nat.le_refl _) (k : Int) (by omega) (.agg #[.int .i64 y0, .int .i64 y1, .slice a1 a2 a3, .string y3]) R9 (fun w' ht => HREC.out w' (HEND.out w' (hBw4.trans (ht.below hBs))))
      have HAPP := Lib.hid happ
      have hy4 := heap_ext hI.out.2.2.1 hE4
      have HW4 := Lib.hid (And.intro hw4 (And.intro hZ (And.intro hy4 (And.intro hBw4 hBs))))
      have g4 : w4.cell? ⟨Y, 1, none⟩ = some (.pointer (some ⟨g, 0, none⟩)) := cell_of_heap hy4 1
      have z0 : w4.cell? ⟨Z, 0, none⟩ = some (.int .i64 y0) := cell_of_heap hz4 0
      have z1 : w4.cell? ⟨Z, 1, none⟩ = some (.int .i64 y1) := cell_of_heap hz4 1
      have z2 : w4.cell? ⟨Z, 2, none⟩ = some (.slice a1 a2 a3) := cell_of_heap hz4 2
      have z3 : w4.cell? ⟨Z, 3, none⟩ = some (.string y3) := cell_of_heap hz4 3
      clear hw4 hZ hE4 hz4 hBwr hBw4 hBs hseg happ hy4
      go_upto_region 7 with fail
      rw [HW4.out.1, HW4.out.2.1]
      go_wp2_with fail
      refine HAPP.out.mono ?_
      clear g4 z0 z1 z2 z3 p0 p1 p2 p3
      rintro e w5 ⟨rfl, hs5, ht5, hk5⟩
      have hy5 : w5.heap[Y]? = some (.cells #[.pointer (some ⟨p, 0, none⟩), .pointer (some ⟨g, 0, none⟩)] 26 (0, 0)) := (hk5.2 Y _ _ _ HW4.out.2.2.1 (by decide) (by decide) (by decide) (by decide) (by decide)).trans HW4.out.2.2.1
      have hBw5 : Below B w1 w5 := HW4.out.2.2.2.1.trans (ht5.below HW4.out.2.2.2.2)
      have htk : (l.take k).length = k := by rw [List.length_take]; omega
      cases hr : Rec.right R9 with
      | false =>
        obtain ⟨he, _⟩ := Seg.row_bad (l := l.take k) (k : Int) hr
        rw [he]
        have HB5 := Lib.hid hBw5
        clear he hs5 ht5 hk5 hy5 hBw5 htk
        go_wp2_with fail
        refine (alive9_any w5).mono ?_
        rintro e w6 ⟨rfl, hE6⟩
        have hfin := (HEND.out w5 HB5.out).trans (hE6.mono (HEND.out w5 HB5.out).size)
        clear hE6
        go_wp2_with fail
        go_ret
        exact ⟨rfl, hfin⟩
      | true =>
        have hra := Seg.row_app hI.out.2.2.2 hr (by omega)
        rw [htk] at hra
        have hsn : l.take k ++ [R9] = l.take (k + 1) := by rw [List.take_succ_eq_append_getElem hkl, HR9.out]
        rw [hsn] at hra
        rw [hra.1]
        rw [hra.2] at hs5
        have hall : ∀ x ∈ l.take (k + 1), Rec.right x = true := by
          intro x hx
          rw [← hsn] at hx
          rcases List.mem_append.1 hx with hx | hx
          · exact hI.out.2.2.2 x hx
          · rw [List.mem_singleton.1 hx]
            exact hr
        have HI5 := Lib.hid (And.intro hs5 (And.intro hBw5 (And.intro hy5 hall)))
        clear hra hsn hs5 ht5 hk5 hy5 hBw5 htk hall hr
        go_wp2_with fail
        go_roundw
        case rel => exact ⟨k + 1, by omega, by go_num, HI5⟩
        case measure => simp [intOf]; omega
    · obtain rfl : k = n := by omega
      have hfull : l.take k = l := List.take_of_length_le (by rw [HN.out]; exact Nat.le_refl _)
      rw [hfull] at hI
      clear hfull
      have hKl : K < l.length := by rw [HN.out]; exact hKn
      have hBwr : B ≤ wr.heap.size := by rw [← HW1.out.2.2.1]; exact hI.out.2.1.size
      have hEd := Ext.drew wr
      have hBd : Below B w1 wr.drew := hI.out.2.1.trans (hEd.mono hBwr)
      have hBs : B ≤ wr.drew.heap.size := hBwr
      obtain ⟨_, _, e1, _, _, _, hc⟩ := HL0.out
      obtain ⟨ab, ao, rfl, t9, o0, o1, o2, o3, ht9⟩ := hc K hKl
      injection e1 with e1 e2 e3
      subst e1
      obtain ⟨a1, a2, a3, rfl⟩ : ∃ x y z, t9 = .slice x y z := by
        obtain ⟨x, cc, e, _⟩ := ht9.open
        exact ⟨x, _, cc, e⟩
      obtain ⟨R9, hR9⟩ : ∃ R, l[K] = R := ⟨_, rfl⟩
      rw [hR9] at o0 o1 o3 ht9
      have hr9 : Rec.right R9 = true := by rw [← hR9]; exact hI.out.2.2.2 _ (List.getElem_mem hKl)
      obtain ⟨y0, hy0⟩ : ∃ q : Int, R9.client = q := ⟨_, rfl⟩
      obtain ⟨y1, hy1⟩ : ∃ q : Int, R9.number = q := ⟨_, rfl⟩
      obtain ⟨y3, hy3⟩ : ∃ q : ByteArray, (⟨R9.data.toArray⟩ : ByteArray) = q := ⟨_, rfl⟩
      have hrec : ∀ w', Below W.heap.size W w' → IsRec w' (.agg #[.int .i64 y0, .int .i64 y1, .slice a1 a2 a3, .string y3]) R9 := fun w' h => by
        rw [← hy0, ← hy1, ← hy3]
        exact ⟨_, rfl, ht9.below h⟩
      rw [hy0] at o0
      rw [hy1] at o1
      rw [hy3] at o3
      have hcl : ∀ w', Below W.heap.size W w' → w'.cell? ⟨ab, ao + K * 4, none⟩ = some (.int .i64 y0) ∧ w'.cell? ⟨ab, ao + K * 4 + 1, none⟩ = some (.int .i64 y1) ∧ w'.cell? ⟨ab, ao + K * 4 + 2, none⟩ = some (.slice a1 a2 a3) ∧ w'.cell? ⟨ab, ao + K * 4 + 3, none⟩ = some (.string y3) := fun w' h => ⟨cell_below o0 h, cell_below o1 h, cell_below o2 h, cell_below o3 h⟩
      have HREC := Lib.hid hrec
      have HCL := Lib.hid hcl
      have hsame : ∀ w', Below W.heap.size W w' → Calls Try.prog 17 #[.agg #[.int .i64 y0, .int .i64 y1, .slice a1 a2 a3, .string y3], .agg #[.int .i64 q0, .int .i64 q1, .slice ta tn tc, .string q3]] w' fun e w'' => e = .returned (.bool (Rec.same R9 r)) ∧ Ext w' w'' := fun w' h => refSame4_any _ _ R9 r w' (hrec w' h) (HV.out.below h)
      have hag := Seg.row_again (l := l) hI.out.2.2.2 hr9 K hKl
      rw [hR9, Rec.same_self, if_pos rfl] at hag
      have hag2 : (Seg.row l).appErr (K : Int) r = (if Rec.same R9 r then 0 else 1) ∧ (Seg.row l).app (K : Int) r = Seg.row l := by
        cases hrr : Rec.right r with
        | true =>
          have := Seg.row_again (l := l) hI.out.2.2.2 hrr K hKl
          rw [hR9] at this
          exact this
        | false =>
          have hs : Rec.same R9 r = false := by
            cases h : Rec.same R9 r with
            | false => rfl
            | true =>
              rw [(Rec.same_iff _ _).1 h, hrr] at hr9
              cases hr9
          rw [hs]
          exact Seg.row_bad (K : Int) hrr
      obtain ⟨sm, hsm⟩ : ∃ sm, Rec.same R9 r = sm := ⟨_, rfl⟩
      rw [hsm] at hag2 hsame
      have HSAME := Lib.hid hsame
      have HAG := Lib.hid (And.intro hag hag2)
      obtain ⟨va, vp, lv, ps, hseg⟩ := (hI.out.1.ext hEd).full
      have happ := append9_any hseg (Nat.le_refl _) (K : Int) (by omega) (.agg #[.int .i64 y0, .int .i64 y1, .slice a1 a2 a3, .string y3]) R9 (fun w' ht => hrec w' (HEND.out w' (hBd.trans (ht.below hBs))))
      rw [hag.1, hag.2] at happ
      have HAPP := Lib.hid happ
      have hyd := heap_ext hI.out.2.2.1 hEd
      obtain ⟨p0, p1, p2, p3⟩ := hcl wr.drew (HEND.out _ hBd)
      have g0 : wr.drew.cell? ⟨Y, 1, none⟩ = some (.pointer (some ⟨g, 0, none⟩)) := cell_of_heap hyd 1
      have HD := Lib.hid (And.intro hyd (And.intro hBd hBs))
      clear hrec hcl hsame hag hag2 happ hseg hyd hBd hBs hBwr hEd hc e2 e3 ht9 o0 o1 o2 o3 hy0 hy1 hy3 hR9 hsm
      go_wp2_with fail
      go_region_law (go_simp; go_at_call 18; refine HAPP.out.mono ?_; rintro e w5 ⟨rfl, hs5, ht5, hk5⟩)
      all_goals
        have hy5 : w5.heap[Y]? = some (.cells #[.pointer (some ⟨p, 0, none⟩), .pointer (some ⟨g, 0, none⟩)] 26 (0, 0)) := (hk5.2 Y _ _ _ HD.out.1 (by decide) (by decide) (by decide) (by decide) (by decide)).trans HD.out.1
        have hBw5 : Below B w1 w5 := HD.out.2.1.trans (ht5.below HD.out.2.2)
        have hBs5 : B ≤ w5.heap.size := Nat.le_trans HD.out.2.2 ht5.size
        obtain ⟨va, vp, lv, ps, hseg⟩ := hs5
        have happ := append9_any hseg (Nat.le_refl _) (K : Int) (by omega) (.agg #[.int .i64 q0, .int .i64 q1, .slice ta tn tc, .string q3]) r (fun w' ht => HV.out.below (HEND.out w' (hBw5.trans (ht.below hBs5))))
        rw [HAG.out.2.1, HAG.out.2.2] at happ
        have HAPP2 := Lib.hid happ
        have hx5 : w5.heap[X]? = some (.cells #[.int .i64 q0, .int .i64 q1, .slice ta tn tc, .string q3] 35 (0, 0)) := (hBw5.block X hXB).trans HW1.out.2.2.2.2
        have g5 : w5.cell? ⟨Y, 1, none⟩ = some (.pointer (some ⟨g, 0, none⟩)) := cell_of_heap hy5 1
        have x0 : w5.cell? ⟨X, 0, none⟩ = some (.int .i64 q0) := cell_of_heap hx5 0
        have x1 : w5.cell? ⟨X, 1, none⟩ = some (.int .i64 q1) := cell_of_heap hx5 1
        have x2 : w5.cell? ⟨X, 2, none⟩ = some (.slice ta tn tc) := cell_of_heap hx5 2
        have x3 : w5.cell? ⟨X, 3, none⟩ = some (.string q3) := cell_of_heap hx5 3
        have H5 := Lib.hid (And.intro hy5 (And.intro hBw5 hBs5))
        clear p0 p1 p2 p3 g0 ht5 hk5 hy5 hBw5 hBs5 hseg happ hx5
        cases sm
        all_goals
          simp only [Bool.false_eq_true, if_true, if_false] at HAPP2
          go_wp2_with fail
          refine HAPP2.out.mono ?_
          rintro e w6 ⟨rfl, hs6, ht6, hk6⟩
          have hy6 : w6.heap[Y]? = some (.cells #[.pointer (some ⟨p, 0, none⟩), .pointer (some ⟨g, 0, none⟩)] 26 (0, 0)) := (hk6.2 Y _ _ _ H5.out.1 (by decide) (by decide) (by decide) (by decide) (by decide)).trans H5.out.1
          have hBw6 : Below B w1 w6 := H5.out.2.1.trans (ht6.below H5.out.2.2)
          have hBs6 : B ≤ w6.heap.size := Nat.le_trans H5.out.2.2 ht6.size
          have hEd := Ext.drew w6
          have hBd := hBw6.trans (hEd.mono hBs6)
          obtain ⟨p0, p1, p2, p3⟩ := HCL.out w6.drew (HEND.out _ hBd)
          have hx6 : w6.drew.heap[X]? = some (.cells #[.int .i64 q0, .int .i64 q1, .slice ta tn tc, .string q3] 35 (0, 0)) := (hBd.block X hXB).trans HW1.out.2.2.2.2
          have x0 : w6.drew.cell? ⟨X, 0, none⟩ = some (.int .i64 q0) := cell_of_heap hx6 0
          have x1 : w6.drew.cell? ⟨X, 1, none⟩ = some (.int .i64 q1) := cell_of_heap hx6 1
          have x2 : w6.drew.cell? ⟨X, 2, none⟩ = some (.slice ta tn tc) := cell_of_heap hx6 2
          have x3 : w6.drew.cell? ⟨X, 3, none⟩ = some (.string q3) := cell_of_heap hx6 3
          have HS6 := Lib.hid (HSAME.out w6.drew (HEND.out _ hBd))
          have H6 := Lib.hid (And.intro hs6 (And.intro hy6 (And.intro hBw6 (And.intro hBs6 hEd))))
          clear hs6 ht6 hk6 hy6 hBw6 hBs6 hEd hBd hx6 g5
          go_wp2_with fail
          go_region_law (go_simp; go_at_call 17; refine HS6.out.mono ?_; rintro e w7 ⟨rfl, hE7⟩)
          all_goals
            have hE67 : Ext w6 w7 := H6.out.2.2.2.2.trans hE7
            have H7 := Lib.hid (And.intro (H6.out.2.2.1.trans (hE67.mono H6.out.2.2.2.1)) hE67)
            have HALL := Lib.hid (And.intro (Seg.row_len hI.out.2.2.2) (Seg.row_w hI.out.2.2.2))
            clear hE67 hE7 HS6 p0 p1 p2 p3 x0 x1 x2 x3
            go_wp2_with fail
            refine (alive9_any w7).mono ?_
            rintro e w8 ⟨rfl, hE8⟩
            have hE68 := H7.out.2.trans hE8
            have g8 : w8.cell? ⟨Y, 1, none⟩ = some (.pointer (some ⟨g, 0, none⟩)) := cell_of_heap (heap_ext H6.out.2.1 hE68) 1
            obtain ⟨va, vp, lv, ps, hseg⟩ := H6.out.1
            have hlen := hseg.len_any hE68
            rw [HALL.out.1, HN.out] at hlen
            have HLEN := Lib.hid hlen
            have H8 := Lib.hid (And.intro hE8 (And.intro hE68 hseg))
            clear hE8 hE68 hseg hlen
            go_wp2_with fail
            refine HLEN.out.mono ?_
            rintro e w9 ⟨rfl, hE9⟩
            have hE69 := H8.out.2.1.trans hE9
            have g9 : w9.cell? ⟨Y, 1, none⟩ = some (.pointer (some ⟨g, 0, none⟩)) := cell_of_heap (heap_ext H6.out.2.1 hE69) 1
            have hall := all9_any (H8.out.2.2.ext hE69)
            rw [HALL.out.2, List.drop_zero] at hall
            have HAS := Lib.hid hall
            have H9 := Lib.hid hE69
            clear hE9 hE69 hall g8
            go_wp2_with fail
            refine HAS.out.mono ?_
            rintro e w10 ⟨u, qs, rfl, hO, hq, hE10⟩
            have hrs := hO.recs
            rw [hq] at hrs
            have hE7A : Ext w6 w10 := H9.out.trans hE10
            have hBA : Below B w1 w10 := H6.out.2.2.1.trans (hE7A.mono H6.out.2.2.2.1)
            have HSA := Lib.hid (refSameAll9 u _ l w10 hrs (HL0.out.below (HEND.out _ hBA)))
            have HA := Lib.hid (And.intro hE7A hBA)
            clear hO hq hE10 hrs hE7A hBA g9
            go_wp2_with fail
            refine HSA.out.mono ?_
            rintro e w11 ⟨rfl, hE11⟩
            have hfin := (HEND.out w10 HA.out.2).trans (hE11.mono (HEND.out w10 HA.out.2).size)
            clear hE11
            go_wp2_with fail
            go_ret
            exact ⟨rfl, hfin⟩

namespace segmentTwice
theorem own : ownKnob Try.prog.godebug = none := by kernel_rfl
theorem laidOut : laidOutB Try.prog = true := by kernel_rfl
set_option linter.unusedVariables false in
set_option maxRecDepth 100000 in
theorem lifted (os : Os) (started : os.Started) (H : Type) (enc : TypeId × Value → H) :
    ReturnsInHanded {} Try.checked os 4 .any (Rows.segmentTwiceSpec.pre6 enc Try.prog Try.f4 Rows.segmentTwiceRow.domain false) (Rows.segmentTwiceSpec.post enc Try.prog Try.f4 false true false false) := by
  refine returnsInHanded_of_change_sized (C := Try.checked) own started (by kernel_rfl) Try.func4
    (ChangeSpec.witness6 (enc := enc) (C := Try.checked) false ⟨#[], #[.slice none 0 0, .int .i64 0, .agg #[.int .i64 0, .int .i64 0, .slice none 0 0, .string ByteArray.empty]], []⟩ 8 (by kernel_rfl) (by kernel_rfl) (by kernel_rfl) (by kernel_rfl)) ?_
  intro W base args ds gs before hval0 hW hcnd hsz _
  have hval : ∀ (j : Nat) t v, Try.f4.params[j]? = some t → args[j]? = some v → Value.okWide Try.prog W .any base t v := hval0
  have hW' := hW
  obtain ⟨p, q, hA0, hV, rfl, hfz, hnd⟩ := hW'
  have hA : DataW.TrodAll enc Try.prog W 0 (fun _ => true) true Try.f4.params.toList args.toList ds p := hA0
  rw [Try.params4] at hA hval
  obtain ⟨v0, vs0, d0, ds0, p0, q0, hargs, rfl, rfl, h0, r0⟩ := trodAll_cons hA
  obtain ⟨v1, vs1, d1, ds1, p1, q1, rfl, rfl, rfl, h1, r1⟩ := trodAll_cons r0
  obtain ⟨v2, vs2, d2, ds2, p2, q2, rfl, rfl, rfl, h2, r2⟩ := trodAll_cons r1
  obtain ⟨rfl, rfl, rfl⟩ := trodAll_nil r2
  obtain rfl : args = #[v0, v1, v2] := by cases args; simp_all
  obtain ⟨rfl, rfl⟩ := trodVars_none hV
  have k0 := h0
  have lt0 : ∀ x ∈ p0, x.block < W.heap.size := by obtain ⟨m, hm⟩ := k0; exact DataW.trod_lt m _ _ _ hm
  obtain ⟨a0, len0, cap0, rfl⟩ := okWide_slice Try.underlying42 (hval 0 42 v0 rfl rfl)
  obtain ⟨l0, w0⟩ : ∃ l, Recs W (.slice a0 len0 cap0) l := by
    obtain ⟨fuel, hf⟩ := h0
    obtain ⟨v, l, hcs, hb⟩ := recs_of_raw hf
    simp [Value.cells] at hcs
    subst hcs
    exact ⟨l, hb⟩
  have sz0 : len0 * 56 ≤ 140737488351232 := by obtain ⟨fuel, hf⟩ := h0; exact reach_of_raw (P := Try.prog) (x := (d0, p0)) (j := 0) hsz (by rw [Try.params4]; rfl) rfl Try.underlying42 (by kernel_rfl) hf
  have k1 := h1
  have lt1 : ∀ x ∈ p1, x.block < W.heap.size := by obtain ⟨m, hm⟩ := k1; exact DataW.trod_lt m _ _ _ hm
  obtain ⟨a1, rfl, _, _, w1⟩ := open_int Try.underlying3 (hval 1 3 v1 rfl rfl) h1
  have k2 := h2
  have lt2 : ∀ x ∈ p2, x.block < W.heap.size := by obtain ⟨m, hm⟩ := k2; exact DataW.trod_lt m _ _ _ hm
  obtain ⟨l2, w2⟩ := rec_arg (hval 2 35 v2 rfl rfl) h2
  clear hA0 hval0
  refine (segmentTwice_walk a0 len0 cap0 l0 a1 v2 l2 W w0 w2 (bounds_i64 w1)).mono fun e W' ⟨he, bel⟩ => ?_
  subst he
  exact ⟨_, rfl, _, _, _, [], _, [], hW, trodAll_mk1 (shut_bool Try.underlying4 _), (trodAll_cons_mk (Below.trod laidOut (by kernel_rfl) (of_decide_eq_true (by kernel_rfl)) k0 bel lt0) (trodAll_cons_mk (Below.trod laidOut (by kernel_rfl) (of_decide_eq_true (by kernel_rfl)) k1 bel lt1) (trodAll_cons_mk (Below.trod laidOut (by kernel_rfl) (of_decide_eq_true (by kernel_rfl)) k2 bel lt2) trodAll_mk0))), rfl, bel.frame _, fun h => by cases h⟩
theorem over : Rows.segmentTwiceRow.holds Try.pinned (OpenSpec.ofChange Rows.segmentTwiceSpec) :=
  OpenClaim.holds_of_wide 4 Try.f4 rfl rfl rfl rfl rfl rfl rfl ⟨rfl, rfl, rfl, rfl, rfl⟩ rfl rfl rfl rfl rfl (by kernel_rfl) Try.func4 (by kernel_rfl)
    (of_decide_eq_true (by kernel_rfl)) (by unfold Func.isWrapper; first | (rw [if_pos (by decide +kernel)]; kernel_rfl) | (rw [if_neg (by decide +kernel)]; exact ⟨rfl, rfl⟩))
    (fun os started H enc _ => lifted os started H enc)
theorem proved : Rows.SegmentTwiceSaid := over
end segmentTwice
end Go.Proofs.Ytfgjhagfpafmoaa
