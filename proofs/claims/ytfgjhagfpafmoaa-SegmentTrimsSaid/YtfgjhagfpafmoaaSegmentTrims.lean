/-
  SegmentTrims: what is trimmed is told to be gone, what is not is there as it was; a lesser trim changes nothing: for every input the statement's function returns true, and leaves what came in as it was.
-/
import Derived.Test.YtfgjhagfpafmoaaBsRec
import Derived.Test.YtfgjhagfpafmoaaSgJ
import Derived.Test.YtfgjhagfpafmoaaSgL
import Derived.Test.YtfgjhagfpafmoaaSgM
import Derived.Test.YtfgjhagfpafmoaaSgRow2
namespace Go.Proofs.Ytfgjhagfpafmoaa
set_option linter.unusedSimpArgs false
set_option linter.unusedVariables false
open Go.ChangeShapes Go.WideShapes Go.ChangeAt Go.RowKit

set_option maxRecDepth 100000 in
set_option maxHeartbeats 40000000 in
theorem segmentTrims_walk (a : Option Addr) (n c : Nat) (l : List Rec.R) (one two : Int) (W : World) (h0 : Recs W (.slice a n c) l) (h1 : -9223372036854775808 ≤ one ∧ one ≤ 9223372036854775807) (h2 : -9223372036854775808 ≤ two ∧ two ≤ 9223372036854775807) :
    Calls Try.prog 6 #[.slice a n c, .int .i64 one, .int .i64 two] W fun e W' => e = .returned (.bool true) ∧ Below W.heap.size W W' := by
  have HL0 := Lib.hid h0
  have hln : l.length = n ∧ n ≤ c ∧ c ≤ 9223372036854775807 := by
    obtain ⟨_, _, e, h1, h2, _⟩ := h0
    injection e with e1 e2 e3
    subst e3
    unfold maxLen at h2
    omega
  obtain ⟨hln, hnc, hc9⟩ := hln
  have HN := Lib.hid hln
  obtain ⟨B, hB⟩ : ∃ B, W.heap.size = B := ⟨_, rfl⟩
  have HB := Lib.hid hB
  clear h0 hln hB
  go_enter Try.func6, Try.ntmps6
  go_wp2_with fail
  refine (opened9_any (.slice none 0 0) [] W (bytes_none W)).mono ?_
  rintro e w2 ⟨p, g, rfl, hs2, hE2⟩
  rw [Seg.row_nil, HB.out] at hs2
  obtain ⟨w3, hw3⟩ : ∃ w3, w2.alloc (.cells #[.pointer (some ⟨p, 0, none⟩), .pointer (some ⟨g, 0, none⟩)] 26) = w3 := ⟨_, rfl⟩
  obtain ⟨Y, hY⟩ : ∃ Y, w2.heap.size = Y := ⟨_, rfl⟩
  have hE3 : Ext w2 w3 := by rw [← hw3]; exact Ext.alloc _ _
  have hy3 : w3.heap[Y]? = some (.cells #[.pointer (some ⟨p, 0, none⟩), .pointer (some ⟨g, 0, none⟩)] 26 (0, 0)) := by rw [← hw3, ← hY]; exact heap_alloc_new _ _
  have hBl : Below B W w3 := by rw [← HB.out]; exact hE2.trans hE3
  have HI0 := Lib.hid (And.intro (hs2.ext hE3).full (And.intro hBl hy3))
  have HW3 := Lib.hid (And.intro hw3 hY)
  clear hs2 hE2 hw3 hY hE3 hy3 hBl
  go_upto_region 2 with fail
  rw [HW3.out.1, HW3.out.2]
  have hend : ∀ w', Below B W w' → Below W.heap.size W w' := fun w' h => by rw [HB.out]; exact h
  have HEND := Lib.hid hend
  clear hend
  by_cases h40 : 40 < n
  · go_wp2_with fail
    refine (alive9_any _).mono ?_
    rintro e w4 ⟨rfl, hE4⟩
    have hfin := (HEND.out w3 HI0.out.2.1).trans (hE4.mono (HEND.out w3 HI0.out.2.1).size)
    clear hE4
    go_wp2_with fail
    go_ret
    exact ⟨rfl, hfin⟩
  by_cases h41 : one < 0
  · go_wp2_with fail
    refine (alive9_any _).mono ?_
    rintro e w4 ⟨rfl, hE4⟩
    have hfin := (HEND.out w3 HI0.out.2.1).trans (hE4.mono (HEND.out w3 HI0.out.2.1).size)
    clear hE4
    go_wp2_with fail
    go_ret
    exact ⟨rfl, hfin⟩
  by_cases h42 : two < 0
  · go_wp2_with fail
    refine (alive9_any _).mono ?_
    rintro e w4 ⟨rfl, hE4⟩
    have hfin := (HEND.out w3 HI0.out.2.1).trans (hE4.mono (HEND.out w3 HI0.out.2.1).size)
    clear hE4
    go_wp2_with fail
    go_ret
    exact ⟨rfl, hfin⟩
  by_cases h43 : (n : Int) < one
  · go_wp2_with fail
    refine (alive9_any _).mono ?_
    rintro e w4 ⟨rfl, hE4⟩
    have hfin := (HEND.out w3 HI0.out.2.1).trans (hE4.mono (HEND.out w3 HI0.out.2.1).size)
    clear hE4
    go_wp2_with fail
    go_ret
    exact ⟨rfl, hfin⟩
  by_cases h44 : (n : Int) < two
  · go_wp2_with fail
    refine (alive9_any _).mono ?_
    rintro e w4 ⟨rfl, hE4⟩
    have hfin := (HEND.out w3 HI0.out.2.1).trans (hE4.mono (HEND.out w3 HI0.out.2.1).size)
    clear hE4
    go_wp2_with fail
    go_ret
    exact ⟨rfl, hfin⟩
  obtain ⟨M, hM⟩ : ∃ M : Nat, one = (M : Int) := ⟨one.toNat, by omega⟩
  subst hM
  obtain ⟨N, hN⟩ : ∃ N : Nat, two = (N : Int) := ⟨two.toNat, by omega⟩
  subst hN
  have hMn : M ≤ n := by omega
  have hNn : N ≤ n := by omega
  clear h41 h42 h43 h44 h1 h2
  have d1 : decide (40 < (n : Int)) = false := decide_eq_false (by omega)
  have d2 : decide ((M : Int) < 0) = false := decide_eq_false (by omega)
  have d3 : decide ((N : Int) < 0) = false := decide_eq_false (by omega)
  have d4 : decide (n < M) = false := decide_eq_false (by omega)
  have d5 : decide (n < N) = false := decide_eq_false (by omega)
  go_wp2_with fail
  clear d1 d2 d3 d4 d5
  go_loopw [53] (fun i wr => ∃ (k : Nat), k ≤ n ∧ i = .int .i64 k ∧ Hid (IsSeg wr B wr.heap.size g p (Seg.row (l.take k)) ∧ Below B W wr ∧ wr.heap[Y]? = some (.cells #[.pointer (some ⟨p, 0, none⟩), .pointer (some ⟨g, 0, none⟩)] 26 (0, 0)) ∧ (∀ x ∈ l.take k, Rec.right x = true))) (fun i _ => n - (intOf i).toNat)
  case atStart => exact ⟨0, by omega, rfl, Lib.hid ⟨by rw [List.take_zero]; exact HI0.out.1, HI0.out.2.1, HI0.out.2.2, fun x hx => by rw [List.take_zero] at hx; cases hx⟩⟩
  case round =>
    obtain ⟨k, hk, rfl, hI⟩ := hrel
    by_cases hlt : k < n
    · have hkl : k < l.length := by rw [HN.out]; exact hlt
      obtain ⟨_, _, e1, _, _, _, hc⟩ := HL0.out
      obtain ⟨ab, ao, rfl, t9, p0, p1, p2, p3, ht9⟩ := hc k hkl
      injection e1 with e1 e2 e3
      subst e1
      obtain ⟨a1, a2, a3, rfl⟩ : ∃ x y z, t9 = .slice x y z := by
        obtain ⟨x, cc, e, _⟩ := ht9.open
        exact ⟨x, _, cc, e⟩
      have hbw := HEND.out wr hI.out.2.1
      have p0 := cell_below p0 hbw
      have p1 := cell_below p1 hbw
      have p2 := cell_below p2 hbw
      have p3 := cell_below p3 hbw
      obtain ⟨R9, hR9⟩ : ∃ R, l[k] = R := ⟨_, rfl⟩
      rw [hR9] at p0 p1 p3 ht9
      obtain ⟨y0, hy0⟩ : ∃ q : Int, R9.client = q := ⟨_, rfl⟩
      obtain ⟨y1, hy1⟩ : ∃ q : Int, R9.number = q := ⟨_, rfl⟩
      obtain ⟨y3, hy3⟩ : ∃ q : ByteArray, (⟨R9.data.toArray⟩ : ByteArray) = q := ⟨_, rfl⟩
      have hrec : ∀ w', Below W.heap.size W w' → IsRec w' (.agg #[.int .i64 y0, .int .i64 y1, .slice a1 a2 a3, .string y3]) R9 := fun w' h => by
        rw [← hy0, ← hy1, ← hy3]
        exact ⟨_, rfl, ht9.below h⟩
      rw [hy0] at p0
      rw [hy1] at p1
      rw [hy3] at p3
      have HREC := Lib.hid hrec
      have HR9 := Lib.hid hR9
      clear hrec hR9 hy0 hy1 hy3 ht9 hc e2 e3 hbw
      obtain ⟨w4, hw4⟩ : ∃ w4, wr.alloc (.cells #[.int .i64 y0, .int .i64 y1, .slice a1 a2 a3, .string y3] 35) = w4 := ⟨_, rfl⟩
      obtain ⟨Z, hZ⟩ : ∃ Z, wr.heap.size = Z := ⟨_, rfl⟩
      have hE4 : Ext wr w4 := by rw [← hw4]; exact Ext.alloc _ _
      have hz4 : w4.heap[Z]? = some (.cells #[.int .i64 y0, .int .i64 y1, .slice a1 a2 a3, .string y3] 35 (0, 0)) := by rw [← hw4, ← hZ]; exact heap_alloc_new _ _
      have hBwr : B ≤ wr.heap.size := by rw [← HB.out]; exact (HEND.out wr hI.out.2.1).size
      have hBw4 : Below B W w4 := hI.out.2.1.trans (hE4.mono hBwr)
      have hBs : B ≤ w4.heap.size := Nat.le_trans hBwr hE4.size
      obtain ⟨va, vp, lv, ps, hseg⟩ := (hI.out.1.ext hE4).full
      have happ := append9_any hseg (Nat.le_refl _) (k : Int) (by omega) (.agg #[.int .i64 y0, .int .i64 y1, .slice a1 a2 a3, .string y3]) R9 (fun w' ht => HREC.out w' (HEND.out w' (hBw4.trans (ht.below hBs))))
      have HAPP := Lib.hid happ
      have hy4 := heap_ext hI.out.2.2.1 hE4
      have HW4 := Lib.hid (And.intro hw4 (And.intro hZ (And.intro hy4 (And.intro hBw4 hBs))))
      have g4 : w4.cell? ⟨Y, 1, none⟩ = some (.pointer (some ⟨g, 0, none⟩)) := cell_of_heap hy4 1
      have z0 : w4.cell? ⟨Z, 0, none⟩ = some (.int .i64 y0) := cell_of_heap hz4 0
      have z1 : w4.cell? ⟨Z, 1, none⟩ = some (.int .i64 y1) := cell_of_heap hz4 1
      have z2 : w4.cell? ⟨Z, 2, none⟩ = some (.slice a1 a2 a3) := cell_of_heap hz4 2
      have z3 : w4.cell? ⟨Z, 3, none⟩ = some (.string y3) := cell_of_heap hz4 3
      clear hw4 hZ hE4 hz4 hBwr hBw4 hBs hseg happ hy4
      go_upto_region 7 with fail
      rw [HW4.out.1, HW4.out.2.1]
      go_wp2_with fail
      refine HAPP.out.mono ?_
      clear g4 z0 z1 z2 z3 p0 p1 p2 p3
      rintro e w5 ⟨rfl, hs5, ht5, hk5⟩
      have hy5 : w5.heap[Y]? = some (.cells #[.pointer (some ⟨p, 0, none⟩), .pointer (some ⟨g, 0, none⟩)] 26 (0, 0)) := (hk5.2 Y _ _ _ HW4.out.2.2.1 (by decide) (by decide) (by decide) (by decide) (by decide)).trans HW4.out.2.2.1
      have hBw5 : Below B W w5 := HW4.out.2.2.2.1.trans (ht5.below HW4.out.2.2.2.2)
      have htk : (l.take k).length = k := by rw [List.length_take]; omega
      cases hr : Rec.right R9 with
      | false =>
        obtain ⟨he, _⟩ := Seg.row_bad (l := l.take k) (k : Int) hr
        rw [he]
        have HB5 := Lib.hid hBw5
        clear he hs5 ht5 hk5 hy5 hBw5 htk
        go_wp2_with fail
        refine (alive9_any w5).mono ?_
        rintro e w6 ⟨rfl, hE6⟩
        have hfin := (HEND.out w5 HB5.out).trans (hE6.mono (HEND.out w5 HB5.out).size)
        clear hE6
        go_wp2_with fail
        go_ret
        exact ⟨rfl, hfin⟩
      | true =>
        have hra := Seg.row_app hI.out.2.2.2 hr (by omega)
        rw [htk] at hra
        have hsn : l.take k ++ [R9] = l.take (k + 1) := by rw [List.take_succ_eq_append_getElem hkl, HR9.out]
        rw [hsn] at hra
        rw [hra.1]
        rw [hra.2] at hs5
        have hall : ∀ x ∈ l.take (k + 1), Rec.right x = true := by
          intro x hx
          rw [← hsn] at hx
          rcases List.mem_append.1 hx with hx | hx
          · exact hI.out.2.2.2 x hx
          · rw [List.mem_singleton.1 hx]
            exact hr
        have HI5 := Lib.hid (And.intro hs5 (And.intro hBw5 (And.intro hy5 hall)))
        clear hra hsn hs5 ht5 hk5 hy5 hBw5 htk hall hr
        go_wp2_with fail
        go_roundw
        case rel => exact ⟨k + 1, by omega, by go_num, HI5⟩
        case measure => simp [intOf]; omega
    · obtain rfl : k = n := by omega
      have hfull : l.take k = l := List.take_of_length_le (by rw [HN.out]; exact Nat.le_refl _)
      rw [hfull] at hI
      have HN40 := Lib.hid h40
      have hok : Seg.Sg.Ok (Seg.row l) := by
        obtain ⟨va, vp, lv, ps, hseg⟩ := hI.out.1
        refine ⟨hseg.sto.ok, fun h => ?_, Nat.zero_le _⟩
        have h : (0 : Nat) = (l.map Seg.recFrame).length := h
        rw [List.length_map] at h
        rw [Seg.row_len hI.out.2.2.2, ← h]
        rfl
      have HOK := Lib.hid hok
      clear hfull hok
      have hBwr : B ≤ wr.heap.size := by rw [← HB.out]; exact (HEND.out wr hI.out.2.1).size
      have HBWR := Lib.hid hBwr
      clear hBwr
      have hl40 : l.length ≤ 50 := by rw [HN.out]; omega
      have hrb : (Page.bytes (Seg.row l).s.l).length + 40 ≤ 65536 := by
        have := Seg.row_bytes hI.out.2.2.2
        show (Page.bytes (l.map Seg.recFrame)).length + 40 ≤ 65536
        omega
      have ht1 := Seg.trim_step HOK.out.ok (Seg.row_w hI.out.2.2.2) rfl hrb hl40 M (by rw [HN.out]; exact hMn)
      rw [Nat.max_eq_right (Nat.zero_le M)] at ht1
      have hrb2 : (Page.bytes ((Seg.row l).trim (M : Int)).s.l).length + 40 ≤ 65536 := by
        have h3 := ht1.2.2.2
        have := Seg.row_bytes hI.out.2.2.2
        have h5 : (Page.bytes (Seg.row l).s.l).length ≤ l.length * 1150 := this
        have : l.length ≤ 40 := by rw [HN.out]; omega
        omega
      have ht2 := Seg.trim_step (HOK.out.trim (M : Int)).ok ht1.2.1 ht1.2.2.1 hrb2 hl40 N (by rw [HN.out]; exact hNn)
      obtain ⟨va, vp, lv, ps, hseg⟩ := hI.out.1
      have htr := trim9_any hseg (Nat.le_refl _) (M : Int)
      have HT1 := Lib.hid htr
      obtain ⟨C, hC⟩ : ∃ C, max M N = C := ⟨_, rfl⟩
      rw [hC] at ht2
      obtain ⟨G1, hG1⟩ : ∃ G, (Seg.row l).trim (M : Int) = G := ⟨_, rfl⟩
      obtain ⟨G2, hG2⟩ : ∃ G, G1.trim (N : Int) = G := ⟨_, rfl⟩
      rw [hG1, hG2] at ht2
      rw [hG1] at HT1
      have HG := Lib.hid (And.intro ht2.2.1 hG2)
      have g0 : wr.cell? ⟨Y, 1, none⟩ = some (.pointer (some ⟨g, 0, none⟩)) := cell_of_heap hI.out.2.2.1 1
      have HM := Lib.hid (And.intro hMn (And.intro hNn hC))
      clear hl40 hrb ht1 hrb2 ht2 hseg htr hG1 hG2 hMn hNn hC
      go_wp2_with fail
      refine HT1.out.mono ?_
      rintro e w5 ⟨rfl, hs5, ht5, hk5⟩
      have hy5 : w5.heap[Y]? = some (.cells #[.pointer (some ⟨p, 0, none⟩), .pointer (some ⟨g, 0, none⟩)] 26 (0, 0)) := (hk5.2 Y _ _ _ hI.out.2.2.1 (by decide) (by decide) (by decide) (by decide) (by decide)).trans hI.out.2.2.1
      have hBw5 : Below B W w5 := hI.out.2.1.trans (ht5.below HBWR.out)
      have hBs5 : B ≤ w5.heap.size := Nat.le_trans HBWR.out ht5.size
      obtain ⟨va, vp, lv, ps, hseg⟩ := hs5
      have htr := trim9_any hseg (Nat.le_refl _) (N : Int)
      rw [HG.out.2] at htr
      have HT2 := Lib.hid htr
      have g5 : w5.cell? ⟨Y, 1, none⟩ = some (.pointer (some ⟨g, 0, none⟩)) := cell_of_heap hy5 1
      have H5 := Lib.hid (And.intro hy5 (And.intro hBw5 hBs5))
      clear g0 ht5 hk5 hy5 hBw5 hBs5 hseg htr
      go_wp2_with fail
      refine HT2.out.mono ?_
      rintro e w6 ⟨rfl, hs6, ht6, hk6⟩
      have hy6 : w6.heap[Y]? = some (.cells #[.pointer (some ⟨p, 0, none⟩), .pointer (some ⟨g, 0, none⟩)] 26 (0, 0)) := (hk6.2 Y _ _ _ H5.out.1 (by decide) (by decide) (by decide) (by decide) (by decide)).trans H5.out.1
      have hBw6 : Below B W w6 := H5.out.2.1.trans (ht6.below H5.out.2.2)
      have hBs6 : B ≤ w6.heap.size := Nat.le_trans H5.out.2.2 ht6.size
      have H6 := Lib.hid (And.intro hs6 (And.intro hy6 (And.intro hBw6 hBs6)))
      clear g5 hs6 ht6 hk6 hy6 hBw6 hBs6
      have hmx : C ≤ k := by have := HM.out; omega
      rcases Nat.lt_or_ge M N with hMN | hMN
      · obtain rfl : C = N := by have := HM.out.2.2; omega
        go_wp2_with fail
        go_loopw [79] (fun i wq => ∃ (j : Nat), j ≤ k ∧ i = .int .i64 j ∧ Hid (Ext w6 wq)) (fun i _ => k - (intOf i).toNat)
        case atStart => exact ⟨0, by omega, rfl, Lib.hid (Ext.refl _)⟩
        case round =>
          obtain ⟨j, hj, rfl, hQ⟩ := hrel
          by_cases hjlt : j < k
          · have hjl : j < l.length := by rw [HN.out]; exact hjlt
            obtain ⟨_, _, e1, _, _, _, hc⟩ := HL0.out
            obtain ⟨ab, ao, rfl, t9, p0, p1, p2, p3, ht9⟩ := hc j hjl
            injection e1 with e1 e2 e3
            subst e1
            obtain ⟨a1, a2, a3, rfl⟩ : ∃ x y z, t9 = .slice x y z := by
              obtain ⟨x, cc, e, _⟩ := ht9.open
              exact ⟨x, _, cc, e⟩
            have hBq : Below B W wr := H6.out.2.2.1.trans (hQ.out.mono H6.out.2.2.2)
            have hbw := HEND.out wr hBq
            have p0 := cell_below p0 hbw
            have p1 := cell_below p1 hbw
            have p2 := cell_below p2 hbw
            have p3 := cell_below p3 hbw
            obtain ⟨R9, hR9⟩ : ∃ R, l[j] = R := ⟨_, rfl⟩
            rw [hR9] at p0 p1 p3 ht9
            obtain ⟨y0, hy0⟩ : ∃ q : Int, R9.client = q := ⟨_, rfl⟩
            obtain ⟨y1, hy1⟩ : ∃ q : Int, R9.number = q := ⟨_, rfl⟩
            obtain ⟨y3, hy3⟩ : ∃ q : ByteArray, (⟨R9.data.toArray⟩ : ByteArray) = q := ⟨_, rfl⟩
            have hrec : ∀ w', Below W.heap.size W w' → IsRec w' (.agg #[.int .i64 y0, .int .i64 y1, .slice a1 a2 a3, .string y3]) R9 := fun w' h => by
              rw [← hy0, ← hy1, ← hy3]
              exact ⟨_, rfl, ht9.below h⟩
            rw [hy0] at p0
            rw [hy1] at p1
            rw [hy3] at p3
            have HREC := Lib.hid hrec
            have HBQ := Lib.hid hBq
            have hgs := Seg.get_step HG.out.1 j hjl
            rw [hR9] at hgs
            clear hrec hy0 hy1 hy3 ht9 hc e2 e3 hbw hBq hR9
            obtain ⟨w7, hw7⟩ : ∃ w7, wr.alloc (.cells #[.int .i64 y0, .int .i64 y1, .slice a1 a2 a3, .string y3] 35) = w7 := ⟨_, rfl⟩
            obtain ⟨Z, hZ⟩ : ∃ Z, wr.heap.size = Z := ⟨_, rfl⟩
            have hE7 : Ext wr w7 := by rw [← hw7]; exact Ext.alloc _ _
            have hz7 : w7.heap[Z]? = some (.cells #[.int .i64 y0, .int .i64 y1, .slice a1 a2 a3, .string y3] 35 (0, 0)) := by rw [← hw7, ← hZ]; exact heap_alloc_new _ _
            have hE67 : Ext w6 w7 := hQ.out.trans hE7
            have hy7 := heap_ext H6.out.2.1 hE67
            have g7 : w7.cell? ⟨Y, 1, none⟩ = some (.pointer (some ⟨g, 0, none⟩)) := cell_of_heap hy7 1
            obtain ⟨va, vp, lv, ps, hseg⟩ := (H6.out.1.ext hE67).full
            have hget := get9_any hseg (Nat.le_refl _) (j : Int) (by omega)
            obtain ⟨RG, hRG⟩ : ∃ R, G2.getRec (j : Int) = R := ⟨_, rfl⟩
            obtain ⟨u0, hu0⟩ : ∃ q : Int, RG.client = q := ⟨_, rfl⟩
            obtain ⟨u1, hu1⟩ : ∃ q : Int, RG.number = q := ⟨_, rfl⟩
            obtain ⟨u3, hu3⟩ : ∃ q : ByteArray, (⟨RG.data.toArray⟩ : ByteArray) = q := ⟨_, rfl⟩
            rw [hgs.1, hRG] at hget
            have hgr := hgs.2
            rw [hRG] at hgr
            have HGR := Lib.hid hgr
            have HGET := Lib.hid hget
            have HU := Lib.hid (And.intro hu0 (And.intro hu1 hu3))
            have HW7 := Lib.hid (And.intro hw7 (And.intro hZ (And.intro hE67 (And.intro hy7 hz7))))
            clear hw7 hZ hE7 hz7 hE67 hy7 hseg hget hRG hgs hgr hu0 hu1 hu3
            go_upto_region 16 with fail
            rw [HW7.out.1, HW7.out.2.1]
            go_wp2_with fail
            refine HGET.out.mono ?_
            rintro e w8 ⟨t8, rfl, ht8, hE8⟩
            unfold recV
            rw [HU.out.1, HU.out.2.1, HU.out.2.2]
            obtain ⟨x1, c1, rfl, _⟩ := ht8.ints.open
            obtain ⟨w9, hw9⟩ : ∃ w9, w8.alloc (.cells #[.int .i64 u0, .int .i64 u1, .slice x1 RG.tags.length c1, .string u3] 35) = w9 := ⟨_, rfl⟩
            obtain ⟨Q, hQ9⟩ : ∃ Q, w8.heap.size = Q := ⟨_, rfl⟩
            have hE9 : Ext w8 w9 := by rw [← hw9]; exact Ext.alloc _ _
            have hq9 : w9.heap[Q]? = some (.cells #[.int .i64 u0, .int .i64 u1, .slice x1 RG.tags.length c1, .string u3] 35 (0, 0)) := by rw [← hw9, ← hQ9]; exact heap_alloc_new _ _
            have hz9 := heap_ext HW7.out.2.2.2.2 (hE8.trans hE9)
            have hE69 : Ext w6 w9 := HW7.out.2.2.1.trans (hE8.trans hE9)
            have hig : ∀ w', Ext w9 w' → IsRec w' (.agg #[.int .i64 u0, .int .i64 u1, .slice x1 RG.tags.length c1, .string u3]) RG := fun w' hE => by
              rw [← HU.out.1, ← HU.out.2.1, ← HU.out.2.2]
              exact ⟨_, rfl, (ht8.ext (hE9.trans hE)).ints⟩
            have HIG := Lib.hid hig
            have HW9 := Lib.hid (And.intro hw9 (And.intro hQ9 (And.intro hE69 (And.intro hq9 hz9))))
            clear g7 ht8 hE8 hw9 hQ9 hE9 hq9 hz9 hE69 hig
            go_upto_region 17 with fail
            rw [HW9.out.1, HW9.out.2.1]
            by_cases hjC : j < C
            · have dC : decide (C ≤ j) = false := decide_eq_false (by omega)
              rw [if_pos hjC]
              go_wp2_with fail
              go_roundw
              case rel => exact ⟨j + 1, by omega, by go_num, Lib.hid HW9.out.2.2.1⟩
              case measure => simp [intOf]; omega
            · have hCj : C ≤ j := by omega
              have dC : decide (j < C) = false := decide_eq_false (by omega)
              have hRR := HGR.out hCj
              subst hRR
              have q0 : w9.cell? ⟨Q, 0, none⟩ = some (.int .i64 u0) := cell_of_heap HW9.out.2.2.2.1 0
              have q1 : w9.cell? ⟨Q, 1, none⟩ = some (.int .i64 u1) := cell_of_heap HW9.out.2.2.2.1 1
              have q2 : w9.cell? ⟨Q, 2, none⟩ = some (.slice x1 RG.tags.length c1) := cell_of_heap HW9.out.2.2.2.1 2
              have q3 : w9.cell? ⟨Q, 3, none⟩ = some (.string u3) := cell_of_heap HW9.out.2.2.2.1 3
              have z0 : w9.cell? ⟨Z, 0, none⟩ = some (.int .i64 y0) := cell_of_heap HW9.out.2.2.2.2 0
              have z1 : w9.cell? ⟨Z, 1, none⟩ = some (.int .i64 y1) := cell_of_heap HW9.out.2.2.2.2 1
              have z2 : w9.cell? ⟨Z, 2, none⟩ = some (.slice a1 a2 a3) := cell_of_heap HW9.out.2.2.2.2 2
              have z3 : w9.cell? ⟨Z, 3, none⟩ = some (.string y3) := cell_of_heap HW9.out.2.2.2.2 3
              have hsame := refSame4_any (.agg #[.int .i64 u0, .int .i64 u1, .slice x1 RG.tags.length c1, .string u3]) (.agg #[.int .i64 y0, .int .i64 y1, .slice a1 a2 a3, .string y3]) RG RG w9 (HIG.out w9 (Ext.refl _)) (HREC.out w9 (HEND.out _ (H6.out.2.2.1.trans (HW9.out.2.2.1.mono H6.out.2.2.2))))
              rw [Rec.same_self] at hsame
              have HSAME := Lib.hid hsame
              clear hsame
              rw [if_neg hjC]
              go_wp2_with fail
              refine HSAME.out.mono ?_
              rintro e wA ⟨rfl, hEA⟩
              have HEA := Lib.hid hEA
              clear hEA q0 q1 q2 q3 z0 z1 z2 z3
              go_wp2_with fail
              go_roundw
              case rel => exact ⟨j + 1, by omega, by go_num, Lib.hid (HW9.out.2.2.1.trans HEA.out)⟩
              case measure => simp [intOf]; omega
          · obtain rfl : j = k := by omega
            go_wp2_with fail
            refine (alive9_any wr).mono ?_
            rintro e w7 ⟨rfl, hE7⟩
            have hE67 := hQ.out.trans hE7
            have g7 : w7.cell? ⟨Y, 1, none⟩ = some (.pointer (some ⟨g, 0, none⟩)) := cell_of_heap (heap_ext H6.out.2.1 hE67) 1
            obtain ⟨va, vp, lv, ps, hseg⟩ := H6.out.1.ext hE67
            have htm := segtrim_any hseg.seg
            have hlen := fun (w' : World) (hE : Ext w7 w') => hseg.len_any hE
            unfold Seg.Sg.len at hlen
            rw [HG.out.1] at htm hlen
            have HTM := Lib.hid htm
            have HLEN := Lib.hid hlen
            have H7 := Lib.hid hE67
            clear hE7 hE67 hseg htm hlen
            go_wp2_with fail
            refine HTM.out.mono ?_
            rintro e w8 ⟨rfl, rfl⟩
            go_wp2_with fail
            refine (HLEN.out w7 (Ext.refl _)).mono ?_
            rw [HN.out]
            rintro e w9 ⟨rfl, hE9⟩
            have hB9 : Below B W w9 := H6.out.2.2.1.trans ((H7.out.trans hE9).mono H6.out.2.2.2)
            have hfin := HEND.out w9 hB9
            clear hE9 hB9 g7
            go_wp2_with fail
            go_ret
            exact ⟨rfl, hfin⟩
      · obtain rfl : C = M := by have := HM.out.2.2; omega
        go_wp2_with fail
        go_loopw [79] (fun i wq => ∃ (j : Nat), j ≤ k ∧ i = .int .i64 j ∧ Hid (Ext w6 wq)) (fun i _ => k - (intOf i).toNat)
        case atStart => exact ⟨0, by omega, rfl, Lib.hid (Ext.refl _)⟩
        case round =>
          obtain ⟨j, hj, rfl, hQ⟩ := hrel
          by_cases hjlt : j < k
          · have hjl : j < l.length := by rw [HN.out]; exact hjlt
            obtain ⟨_, _, e1, _, _, _, hc⟩ := HL0.out
            obtain ⟨ab, ao, rfl, t9, p0, p1, p2, p3, ht9⟩ := hc j hjl
            injection e1 with e1 e2 e3
            subst e1
            obtain ⟨a1, a2, a3, rfl⟩ : ∃ x y z, t9 = .slice x y z := by
              obtain ⟨x, cc, e, _⟩ := ht9.open
              exact ⟨x, _, cc, e⟩
            have hBq : Below B W wr := H6.out.2.2.1.trans (hQ.out.mono H6.out.2.2.2)
            have hbw := HEND.out wr hBq
            have p0 := cell_below p0 hbw
            have p1 := cell_below p1 hbw
            have p2 := cell_below p2 hbw
            have p3 := cell_below p3 hbw
            obtain ⟨R9, hR9⟩ : ∃ R, l[j] = R := ⟨_, rfl⟩
            rw [hR9] at p0 p1 p3 ht9
            obtain ⟨y0, hy0⟩ : ∃ q : Int, R9.client = q := ⟨_, rfl⟩
            obtain ⟨y1, hy1⟩ : ∃ q : Int, R9.number = q := ⟨_, rfl⟩
            obtain ⟨y3, hy3⟩ : ∃ q : ByteArray, (⟨R9.data.toArray⟩ : ByteArray) = q := ⟨_, rfl⟩
            have hrec : ∀ w', Below W.heap.size W w' → IsRec w' (.agg #[.int .i64 y0, .int .i64 y1, .slice a1 a2 a3, .string y3]) R9 := fun w' h => by
              rw [← hy0, ← hy1, ← hy3]
              exact ⟨_, rfl, ht9.below h⟩
            rw [hy0] at p0
            rw [hy1] at p1
            rw [hy3] at p3
            have HREC := Lib.hid hrec
            have HBQ := Lib.hid hBq
            have hgs := Seg.get_step HG.out.1 j hjl
            rw [hR9] at hgs
            clear hrec hy0 hy1 hy3 ht9 hc e2 e3 hbw hBq hR9
            obtain ⟨w7, hw7⟩ : ∃ w7, wr.alloc (.cells #[.int .i64 y0, .int .i64 y1, .slice a1 a2 a3, .string y3] 35) = w7 := ⟨_, rfl⟩
            obtain ⟨Z, hZ⟩ : ∃ Z, wr.heap.size = Z := ⟨_, rfl⟩
            have hE7 : Ext wr w7 := by rw [← hw7]; exact Ext.alloc _ _
            have hz7 : w7.heap[Z]? = some (.cells #[.int .i64 y0, .int .i64 y1, .slice a1 a2 a3, .string y3] 35 (0, 0)) := by rw [← hw7, ← hZ]; exact heap_alloc_new _ _
            have hE67 : Ext w6 w7 := hQ.out.trans hE7
            have hy7 := heap_ext H6.out.2.1 hE67
            have g7 : w7.cell? ⟨Y, 1, none⟩ = some (.pointer (some ⟨g, 0, none⟩)) := cell_of_heap hy7 1
            obtain ⟨va, vp, lv, ps, hseg⟩ := (H6.out.1.ext hE67).full
            have hget := get9_any hseg (Nat.le_refl _) (j : Int) (by omega)
            obtain ⟨RG, hRG⟩ : ∃ R, G2.getRec (j : Int) = R := ⟨_, rfl⟩
            obtain ⟨u0, hu0⟩ : ∃ q : Int, RG.client = q := ⟨_, rfl⟩
            obtain ⟨u1, hu1⟩ : ∃ q : Int, RG.number = q := ⟨_, rfl⟩
            obtain ⟨u3, hu3⟩ : ∃ q : ByteArray, (⟨RG.data.toArray⟩ : ByteArray) = q := ⟨_, rfl⟩
            rw [hgs.1, hRG] at hget
            have hgr := hgs.2
            rw [hRG] at hgr
            have HGR := Lib.hid hgr
            have HGET := Lib.hid hget
            have HU := Lib.hid (And.intro hu0 (And.intro hu1 hu3))
            have HW7 := Lib.hid (And.intro hw7 (And.intro hZ (And.intro hE67 (And.intro hy7 hz7))))
            clear hw7 hZ hE7 hz7 hE67 hy7 hseg hget hRG hgs hgr hu0 hu1 hu3
            go_upto_region 16 with fail
            rw [HW7.out.1, HW7.out.2.1]
            go_wp2_with fail
            refine HGET.out.mono ?_
            rintro e w8 ⟨t8, rfl, ht8, hE8⟩
            unfold recV
            rw [HU.out.1, HU.out.2.1, HU.out.2.2]
            obtain ⟨x1, c1, rfl, _⟩ := ht8.ints.open
            obtain ⟨w9, hw9⟩ : ∃ w9, w8.alloc (.cells #[.int .i64 u0, .int .i64 u1, .slice x1 RG.tags.length c1, .string u3] 35) = w9 := ⟨_, rfl⟩
            obtain ⟨Q, hQ9⟩ : ∃ Q, w8.heap.size = Q := ⟨_, rfl⟩
            have hE9 : Ext w8 w9 := by rw [← hw9]; exact Ext.alloc _ _
            have hq9 : w9.heap[Q]? = some (.cells #[.int .i64 u0, .int .i64 u1, .slice x1 RG.tags.length c1, .string u3] 35 (0, 0)) := by rw [← hw9, ← hQ9]; exact heap_alloc_new _ _
            have hz9 := heap_ext HW7.out.2.2.2.2 (hE8.trans hE9)
            have hE69 : Ext w6 w9 := HW7.out.2.2.1.trans (hE8.trans hE9)
            have hig : ∀ w', Ext w9 w' → IsRec w' (.agg #[.int .i64 u0, .int .i64 u1, .slice x1 RG.tags.length c1, .string u3]) RG := fun w' hE => by
              rw [← HU.out.1, ← HU.out.2.1, ← HU.out.2.2]
              exact ⟨_, rfl, (ht8.ext (hE9.trans hE)).ints⟩
            have HIG := Lib.hid hig
            have HW9 := Lib.hid (And.intro hw9 (And.intro hQ9 (And.intro hE69 (And.intro hq9 hz9))))
            clear g7 ht8 hE8 hw9 hQ9 hE9 hq9 hz9 hE69 hig
            go_upto_region 17 with fail
            rw [HW9.out.1, HW9.out.2.1]
            by_cases hjC : j < C
            · have dC : decide (C ≤ j) = false := decide_eq_false (by omega)
              rw [if_pos hjC]
              go_wp2_with fail
              go_roundw
              case rel => exact ⟨j + 1, by omega, by go_num, Lib.hid HW9.out.2.2.1⟩
              case measure => simp [intOf]; omega
            · have hCj : C ≤ j := by omega
              have dC : decide (j < C) = false := decide_eq_false (by omega)
              have hRR := HGR.out hCj
              subst hRR
              have q0 : w9.cell? ⟨Q, 0, none⟩ = some (.int .i64 u0) := cell_of_heap HW9.out.2.2.2.1 0
              have q1 : w9.cell? ⟨Q, 1, none⟩ = some (.int .i64 u1) := cell_of_heap HW9.out.2.2.2.1 1
              have q2 : w9.cell? ⟨Q, 2, none⟩ = some (.slice x1 RG.tags.length c1) := cell_of_heap HW9.out.2.2.2.1 2
              have q3 : w9.cell? ⟨Q, 3, none⟩ = some (.string u3) := cell_of_heap HW9.out.2.2.2.1 3
              have z0 : w9.cell? ⟨Z, 0, none⟩ = some (.int .i64 y0) := cell_of_heap HW9.out.2.2.2.2 0
              have z1 : w9.cell? ⟨Z, 1, none⟩ = some (.int .i64 y1) := cell_of_heap HW9.out.2.2.2.2 1
              have z2 : w9.cell? ⟨Z, 2, none⟩ = some (.slice a1 a2 a3) := cell_of_heap HW9.out.2.2.2.2 2
              have z3 : w9.cell? ⟨Z, 3, none⟩ = some (.string y3) := cell_of_heap HW9.out.2.2.2.2 3
              have hsame := refSame4_any (.agg #[.int .i64 u0, .int .i64 u1, .slice x1 RG.tags.length c1, .string u3]) (.agg #[.int .i64 y0, .int .i64 y1, .slice a1 a2 a3, .string y3]) RG RG w9 (HIG.out w9 (Ext.refl _)) (HREC.out w9 (HEND.out _ (H6.out.2.2.1.trans (HW9.out.2.2.1.mono H6.out.2.2.2))))
              rw [Rec.same_self] at hsame
              have HSAME := Lib.hid hsame
              clear hsame
              rw [if_neg hjC]
              go_wp2_with fail
              refine HSAME.out.mono ?_
              rintro e wA ⟨rfl, hEA⟩
              have HEA := Lib.hid hEA
              clear hEA q0 q1 q2 q3 z0 z1 z2 z3
              go_wp2_with fail
              go_roundw
              case rel => exact ⟨j + 1, by omega, by go_num, Lib.hid (HW9.out.2.2.1.trans HEA.out)⟩
              case measure => simp [intOf]; omega
          · obtain rfl : j = k := by omega
            go_wp2_with fail
            refine (alive9_any wr).mono ?_
            rintro e w7 ⟨rfl, hE7⟩
            have hE67 := hQ.out.trans hE7
            have g7 : w7.cell? ⟨Y, 1, none⟩ = some (.pointer (some ⟨g, 0, none⟩)) := cell_of_heap (heap_ext H6.out.2.1 hE67) 1
            obtain ⟨va, vp, lv, ps, hseg⟩ := H6.out.1.ext hE67
            have htm := segtrim_any hseg.seg
            have hlen := fun (w' : World) (hE : Ext w7 w') => hseg.len_any hE
            unfold Seg.Sg.len at hlen
            rw [HG.out.1] at htm hlen
            have HTM := Lib.hid htm
            have HLEN := Lib.hid hlen
            have H7 := Lib.hid hE67
            clear hE7 hE67 hseg htm hlen
            go_wp2_with fail
            refine HTM.out.mono ?_
            rintro e w8 ⟨rfl, rfl⟩
            go_wp2_with fail
            refine (HLEN.out w7 (Ext.refl _)).mono ?_
            rw [HN.out]
            rintro e w9 ⟨rfl, hE9⟩
            have hB9 : Below B W w9 := H6.out.2.2.1.trans ((H7.out.trans hE9).mono H6.out.2.2.2)
            have hfin := HEND.out w9 hB9
            clear hE9 hB9 g7
            go_wp2_with fail
            go_ret
            exact ⟨rfl, hfin⟩

namespace segmentTrims
theorem own : ownKnob Try.prog.godebug = none := by kernel_rfl
theorem laidOut : laidOutB Try.prog = true := by kernel_rfl
set_option linter.unusedVariables false in
set_option maxRecDepth 100000 in
theorem lifted (os : Os) (started : os.Started) (H : Type) (enc : TypeId × Value → H) :
    ReturnsInHanded {} Try.checked os 6 .any (Rows.segmentTrimsSpec.pre6 enc Try.prog Try.f6 Rows.segmentTrimsRow.domain false) (Rows.segmentTrimsSpec.post enc Try.prog Try.f6 false true false false) := by
  refine returnsInHanded_of_change_sized (C := Try.checked) own started (by kernel_rfl) Try.func6
    (ChangeSpec.witness6 (enc := enc) (C := Try.checked) false ⟨#[], #[.slice none 0 0, .int .i64 0, .int .i64 0], []⟩ 8 (by kernel_rfl) (by kernel_rfl) (by kernel_rfl) (by kernel_rfl)) ?_
  intro W base args ds gs before hval0 hW hcnd hsz _
  have hval : ∀ (j : Nat) t v, Try.f6.params[j]? = some t → args[j]? = some v → Value.okWide Try.prog W .any base t v := hval0
  have hW' := hW
  obtain ⟨p, q, hA0, hV, rfl, hfz, hnd⟩ := hW'
  have hA : DataW.TrodAll enc Try.prog W 0 (fun _ => true) true Try.f6.params.toList args.toList ds p := hA0
  rw [Try.params6] at hA hval
  obtain ⟨v0, vs0, d0, ds0, p0, q0, hargs, rfl, rfl, h0, r0⟩ := trodAll_cons hA
  obtain ⟨v1, vs1, d1, ds1, p1, q1, rfl, rfl, rfl, h1, r1⟩ := trodAll_cons r0
  obtain ⟨v2, vs2, d2, ds2, p2, q2, rfl, rfl, rfl, h2, r2⟩ := trodAll_cons r1
  obtain ⟨rfl, rfl, rfl⟩ := trodAll_nil r2
  obtain rfl : args = #[v0, v1, v2] := by cases args; simp_all
  obtain ⟨rfl, rfl⟩ := trodVars_none hV
  have k0 := h0
  have lt0 : ∀ x ∈ p0, x.block < W.heap.size := by obtain ⟨m, hm⟩ := k0; exact DataW.trod_lt m _ _ _ hm
  obtain ⟨a0, len0, cap0, rfl⟩ := okWide_slice Try.underlying42 (hval 0 42 v0 rfl rfl)
  obtain ⟨l0, w0⟩ : ∃ l, Recs W (.slice a0 len0 cap0) l := by
    obtain ⟨fuel, hf⟩ := h0
    obtain ⟨v, l, hcs, hb⟩ := recs_of_raw hf
    simp [Value.cells] at hcs
    subst hcs
    exact ⟨l, hb⟩
  have sz0 : len0 * 56 ≤ 140737488351232 := by obtain ⟨fuel, hf⟩ := h0; exact reach_of_raw (P := Try.prog) (x := (d0, p0)) (j := 0) hsz (by rw [Try.params6]; rfl) rfl Try.underlying42 (by kernel_rfl) hf
  have k1 := h1
  have lt1 : ∀ x ∈ p1, x.block < W.heap.size := by obtain ⟨m, hm⟩ := k1; exact DataW.trod_lt m _ _ _ hm
  obtain ⟨a1, rfl, _, _, w1⟩ := open_int Try.underlying3 (hval 1 3 v1 rfl rfl) h1
  have k2 := h2
  have lt2 : ∀ x ∈ p2, x.block < W.heap.size := by obtain ⟨m, hm⟩ := k2; exact DataW.trod_lt m _ _ _ hm
  obtain ⟨a2, rfl, _, _, w2⟩ := open_int Try.underlying3 (hval 2 3 v2 rfl rfl) h2
  clear hA0 hval0
  refine (segmentTrims_walk a0 len0 cap0 l0 a1 a2 W w0 (bounds_i64 w1) (bounds_i64 w2)).mono fun e W' ⟨he, bel⟩ => ?_
  subst he
  exact ⟨_, rfl, _, _, _, [], _, [], hW, trodAll_mk1 (shut_bool Try.underlying4 _), (trodAll_cons_mk (Below.trod laidOut (by kernel_rfl) (of_decide_eq_true (by kernel_rfl)) k0 bel lt0) (trodAll_cons_mk (Below.trod laidOut (by kernel_rfl) (of_decide_eq_true (by kernel_rfl)) k1 bel lt1) (trodAll_cons_mk (Below.trod laidOut (by kernel_rfl) (of_decide_eq_true (by kernel_rfl)) k2 bel lt2) trodAll_mk0))), rfl, bel.frame _, fun h => by cases h⟩
theorem over : Rows.segmentTrimsRow.holds Try.pinned (OpenSpec.ofChange Rows.segmentTrimsSpec) :=
  OpenClaim.holds_of_wide 6 Try.f6 rfl rfl rfl rfl rfl rfl rfl ⟨rfl, rfl, rfl, rfl, rfl⟩ rfl rfl rfl rfl rfl (by kernel_rfl) Try.func6 (by kernel_rfl)
    (of_decide_eq_true (by kernel_rfl)) (by unfold Func.isWrapper; first | (rw [if_pos (by decide +kernel)]; kernel_rfl) | (rw [if_neg (by decide +kernel)]; exact ⟨rfl, rfl⟩))
    (fun os started H enc _ => lifted os started H enc)
theorem proved : Rows.SegmentTrimsSaid := over
end segmentTrims
end Go.Proofs.Ytfgjhagfpafmoaa
