/-
  SegmentFull: a segment has at most as many records as it may; the store's room is told, and nothing changes then: for every input the statement's function returns true, and leaves what came in as it was.
-/
import Derived.Test.YtpefengjpedifaaBsRec
import Derived.Test.YtpefengjpedifaaSgL
import Derived.Test.YtpefengjpedifaaSgRow2
namespace Go.Proofs.Ytpefengjpedifaa
set_option linter.unusedSimpArgs false
set_option linter.unusedVariables false
open Go.ChangeShapes Go.WideShapes Go.ChangeAt Go.RowKit

set_option maxRecDepth 100000 in
set_option maxHeartbeats 20000000 in
theorem segmentFull_walk (v : Value) (r : Rec.R) (many : Int) (W : World) (hv : IsRec W v r) (hm : -9223372036854775808 ≤ many ∧ many ≤ 9223372036854775807) :
    Calls Try.prog 7 #[v, .int .i64 many] W fun e W' => e = .returned (.bool true) ∧ Below W.heap.size W W' := by
  have HV := Lib.hid hv
  obtain ⟨ta, tn, tc, rfl⟩ := hv.shape
  obtain ⟨q0, hq0⟩ : ∃ q : Int, r.client = q := ⟨_, rfl⟩
  obtain ⟨q1, hq1⟩ : ∃ q : Int, r.number = q := ⟨_, rfl⟩
  obtain ⟨q3, hq3⟩ : ∃ q : ByteArray, (⟨r.data.toArray⟩ : ByteArray) = q := ⟨_, rfl⟩
  rw [hq0, hq1, hq3] at HV ⊢
  obtain ⟨w1, hw1⟩ : ∃ w1, W.alloc (.cells #[.int .i64 q0, .int .i64 q1, .slice ta tn tc, .string q3] 54) = w1 := ⟨_, rfl⟩
  obtain ⟨X, hX⟩ : ∃ X, W.heap.size = X := ⟨_, rfl⟩
  obtain ⟨B, hB⟩ : ∃ B, w1.heap.size = B := ⟨_, rfl⟩
  have hE1 : Ext W w1 := by rw [← hw1]; exact Ext.alloc _ _
  have hx1 : w1.heap[X]? = some (.cells #[.int .i64 q0, .int .i64 q1, .slice ta tn tc, .string q3] 54 (0, 0)) := by rw [← hw1, ← hX]; exact heap_alloc_new _ _
  have hXB : X < B := by rw [← hB]; exact (Array.getElem?_eq_some_iff.1 hx1).1
  have HW1 := Lib.hid (And.intro hw1 (And.intro hX (And.intro hB (And.intro hE1 hx1))))
  clear hv hq0 hq1 hq3 hw1 hX hB hE1 hx1
  go_enter Try.func7, Try.ntmps7
  go_upto_region 1 with fail
  rw [HW1.out.1, HW1.out.2.1]
  go_wp2_with fail
  refine (opened9_any (.slice none 0 0) [] w1 (bytes_none w1)).mono ?_
  rintro e w2 ⟨p, g, rfl, hs2, hE2⟩
  rw [Seg.row_nil, HW1.out.2.2.1] at hs2
  obtain ⟨w3, hw3⟩ : ∃ w3, w2.alloc (.cells #[.pointer (some ⟨p, 0, none⟩), .pointer (some ⟨g, 0, none⟩)] 46) = w3 := ⟨_, rfl⟩
  obtain ⟨Y, hY⟩ : ∃ Y, w2.heap.size = Y := ⟨_, rfl⟩
  have hE3 : Ext w2 w3 := by rw [← hw3]; exact Ext.alloc _ _
  have hy3 : w3.heap[Y]? = some (.cells #[.pointer (some ⟨p, 0, none⟩), .pointer (some ⟨g, 0, none⟩)] 46 (0, 0)) := by rw [← hw3, ← hY]; exact heap_alloc_new _ _
  have hBl : Below B w1 w3 := by rw [← HW1.out.2.2.1]; exact hE2.trans hE3
  have HI0 := Lib.hid (And.intro (hs2.ext hE3).full (And.intro hBl (And.intro hy3 trivial)))
  have HW3 := Lib.hid (And.intro hw3 hY)
  clear hs2 hE2 hw3 hY hE3 hy3 hBl
  go_upto_region 2 with fail
  rw [HW3.out.1, HW3.out.2]
  have hend : ∀ w', Below B w1 w' → Below W.heap.size W w' := fun w' h => Below.trans (B := W.heap.size) HW1.out.2.2.2.1 (h.mono (by rw [HW1.out.2.1]; omega))
  have HEND := Lib.hid hend
  clear hend
  by_cases hneg : many < 0
  · go_wp2_with fail
    refine (alive9_any _).mono ?_
    rintro e w4 ⟨rfl, hE4⟩
    have hfin := (HEND.out w3 HI0.out.2.1).trans (hE4.mono (HEND.out w3 HI0.out.2.1).size)
    clear hE4
    go_wp2_with fail
    go_ret
    exact ⟨rfl, hfin⟩
  by_cases hbig : 600 < many
  · go_wp2_with fail
    refine (alive9_any _).mono ?_
    rintro e w4 ⟨rfl, hE4⟩
    have hfin := (HEND.out w3 HI0.out.2.1).trans (hE4.mono (HEND.out w3 HI0.out.2.1).size)
    clear hE4
    go_wp2_with fail
    go_ret
    exact ⟨rfl, hfin⟩
  obtain ⟨n, hn⟩ : ∃ n : Nat, many = (n : Int) := ⟨many.toNat, by omega⟩
  subst hn
  go_wp2_with fail
  go_loopw [29] (fun i wr => ∃ (k : Nat) (G : Seg.Sg), k ≤ n ∧ i = .int .i64 k ∧ Hid (IsSeg wr B wr.heap.size g p G ∧ Below B w1 wr ∧ wr.heap[Y]? = some (.cells #[.pointer (some ⟨p, 0, none⟩), .pointer (some ⟨g, 0, none⟩)] 46 (0, 0)) ∧ G.s.off = false ∧ G.w.broken = false ∧ G.len ≤ 512 ∧ (k = 0 → G.len = 0) ∧ (k ≠ 0 → Rec.right r = true))) (fun i _ => n - (intOf i).toNat)
  case atStart => exact ⟨0, Seg.row [], by omega, rfl, Lib.hid ⟨HI0.out.1, HI0.out.2.1, HI0.out.2.2.1, rfl, rfl, by decide, fun _ => rfl, fun h => absurd rfl h⟩⟩
  case round =>
    obtain ⟨k, G, hk, rfl, hI⟩ := hrel
    by_cases hlt : k < n
    · obtain ⟨va, vp, lv, ps, hseg⟩ := hI.out.1
      have y1 : wr.cell? ⟨Y, 1, none⟩ = some (.pointer (some ⟨g, 0, none⟩)) := cell_of_heap hI.out.2.2.1 1
      obtain ⟨L, hL⟩ : ∃ L, G.len = L := ⟨_, rfl⟩
      have hL512 : L ≤ 512 := by rw [← hL]; exact hI.out.2.2.2.2.2.1
      have hlen := hseg.len_any (Ext.refl wr)
      rw [hL] at hlen
      have HSEG := Lib.hid (And.intro hseg hL)
      have HLEN := Lib.hid hlen
      clear hseg hlen hL
      go_wp2_with fail
      refine HLEN.out.mono ?_
      rintro e w4 ⟨rfl, hE4⟩
      have hx4 : w4.heap[X]? = some (.cells #[.int .i64 q0, .int .i64 q1, .slice ta tn tc, .string q3] 54 (0, 0)) := (hE4.block X (Nat.lt_of_lt_of_le (by rw [HW1.out.2.2.1]; exact hXB) hI.out.2.1.size)).trans ((hI.out.2.1.block X hXB).trans HW1.out.2.2.2.2)
      have hy4 := heap_ext hI.out.2.2.1 hE4
      have x0 : w4.cell? ⟨X, 0, none⟩ = some (.int .i64 q0) := cell_of_heap hx4 0
      have x1 : w4.cell? ⟨X, 1, none⟩ = some (.int .i64 q1) := cell_of_heap hx4 1
      have x2 : w4.cell? ⟨X, 2, none⟩ = some (.slice ta tn tc) := cell_of_heap hx4 2
      have x3 : w4.cell? ⟨X, 3, none⟩ = some (.string q3) := cell_of_heap hx4 3
      have y4 : w4.cell? ⟨Y, 1, none⟩ = some (.pointer (some ⟨g, 0, none⟩)) := cell_of_heap hy4 1
      have hBw4 : Below B w1 w4 := hI.out.2.1.trans (hE4.mono (by rw [← HW1.out.2.2.1]; exact hI.out.2.1.size))
      have hBs : B ≤ w4.heap.size := by rw [← HW1.out.2.2.1]; exact hBw4.size
      have happ := append9_any ((HSEG.out.1.ext hE4).full) (Nat.le_refl _) (L : Int) (by omega) (.agg #[.int .i64 q0, .int .i64 q1, .slice ta tn tc, .string q3]) r (fun w' ht => HV.out.below (HEND.out w' (hBw4.trans (ht.below hBs))))
      have HAPP := Lib.hid happ
      have HY4 := Lib.hid (And.intro hy4 (And.intro hBw4 hBs))
      clear happ hx4 hy4 y1 hE4 hBw4 hBs
      go_wp2_with fail
      refine HAPP.out.mono ?_
      clear x0 x1 x2 x3 y4
      rintro e w5 ⟨rfl, hs5, ht5, hk5⟩
      have hy5 : w5.heap[Y]? = some (.cells #[.pointer (some ⟨p, 0, none⟩), .pointer (some ⟨g, 0, none⟩)] 46 (0, 0)) := (hk5.2 Y _ _ _ HY4.out.1 (by decide) (by decide) (by decide) (by decide) (by decide)).trans HY4.out.1
      have hBw5 : Below B w1 w5 := HY4.out.2.1.trans (ht5.below HY4.out.2.2)
      have y5 : ∀ w', Ext w5 w' → w'.cell? ⟨Y, 1, none⟩ = some (.pointer (some ⟨g, 0, none⟩)) := fun w' hE => cell_of_heap (heap_ext hy5 hE) 1
      have HY5 := Lib.hid y5
      have HB5 := Lib.hid (And.intro hy5 hBw5)
      have HS5 := Lib.hid hs5
      clear hs5 ht5 hk5 hy5 hBw5 y5
      have hext : ∀ w', Ext w5 w' → Below B w1 w' := fun w' hE => HB5.out.2.trans (hE.mono (by rw [← HW1.out.2.2.1]; exact HB5.out.2.size))
      have HEXT := Lib.hid hext
      clear hext
      cases hr : Rec.right r with
      | false =>
        obtain ⟨he, ha⟩ := Seg.bad_step (G := G) (L : Int) hr
        have hk0 : k = 0 := by
          rcases Nat.eq_zero_or_pos k with h | h
          · exact h
          · have := hI.out.2.2.2.2.2.2.2 (by omega)
            rw [hr] at this
            cases this
        subst hk0
        have hL0 : L = 0 := by rw [← HSEG.out.2]; exact hI.out.2.2.2.2.2.2.1 rfl
        subst hL0
        have hs5 := HS5.out
        rw [ha] at hs5
        obtain ⟨va5, vp5, lv5, ps5, hs5⟩ := hs5
        have hl5 := fun (w' : World) (hE : Ext w5 w') => hs5.len_any hE
        rw [HSEG.out.2] at hl5
        have HL5 := Lib.hid hl5
        rw [he]
        clear hs5 hl5 ha he
        go_wp2_with fail
        refine (alive9_any w5).mono ?_
        rintro e w6 ⟨rfl, hE6⟩
        have y6 := HY5.out w6 hE6
        have HE6 := Lib.hid hE6
        clear hE6
        go_wp2_with fail
        refine (HL5.out w6 HE6.out).mono ?_
        rintro e w7 ⟨rfl, hE7⟩
        have hfin := HEND.out w7 (HEXT.out w7 (HE6.out.trans hE7))
        clear hE7 y6
        go_wp2_with fail
        go_ret
        exact ⟨rfl, hfin⟩
      | true =>
        have HR := Lib.hid hr
        have hst := Seg.full_step hI.out.2.2.2.1 hI.out.2.2.2.2.1 hI.out.2.2.2.2.2.1 hr
        rw [HSEG.out.2] at hst
        clear hr
        rcases hst with ⟨he, hl1, h51, hoff, hbr⟩ | ⟨he, ha⟩
        · have hs5 := HS5.out
          obtain ⟨va5, vp5, lv5, ps5, hs5⟩ := hs5
          have hl5 := fun (w' : World) (hE : Ext w5 w') => hs5.len_any hE
          rw [hl1] at hl5
          have HL5 := Lib.hid hl5
          rw [he]
          have HG := Lib.hid (And.intro hoff (And.intro hbr (show (G.app (L : Int) r).len ≤ 512 by rw [hl1]; exact h51)))
          clear hs5 hl5 he hl1 hoff hbr
          have y6 := HY5.out w5 (Ext.refl _)
          go_wp2_with fail
          refine (HL5.out w5 (Ext.refl _)).mono ?_
          rintro e w6 ⟨rfl, hE6⟩
          have y7 := HY5.out w6 hE6
          have HE6 := Lib.hid hE6
          clear hE6 y6
          go_wp2_with fail
          refine (HL5.out w6 HE6.out).mono ?_
          rintro e w7 ⟨rfl, hE7⟩
          have HE7 := Lib.hid (HE6.out.trans hE7)
          clear hE7 y7
          go_wp2_with fail
          go_roundw
          case rel => exact ⟨k + 1, G.app (L : Int) r, by omega, by go_num, Lib.hid ⟨(HS5.out.ext HE7.out).full, HEXT.out _ HE7.out, heap_ext HB5.out.1 HE7.out, HG.out.1, HG.out.2.1, HG.out.2.2, fun h => by omega, fun _ => HR.out⟩⟩
          case measure => simp [intOf]; omega
        · have hs5 := HS5.out
          rw [ha] at hs5 HS5
          obtain ⟨va5, vp5, lv5, ps5, hs5⟩ := hs5
          have hl5 := fun (w' : World) (hE : Ext w5 w') => hs5.len_any hE
          rw [HSEG.out.2] at hl5
          have HL5 := Lib.hid hl5
          clear hs5 hl5 ha
          have y6 := HY5.out w5 (Ext.refl _)
          rcases he with he | he
          all_goals
            rw [he]
            clear he
            go_wp2_with fail
            refine (HL5.out w5 (Ext.refl _)).mono ?_
            rintro e w6 ⟨rfl, hE6⟩
            have y7 := HY5.out w6 hE6
            have HE6 := Lib.hid hE6
            clear hE6 y6
            go_wp2_with fail
            refine (HL5.out w6 HE6.out).mono ?_
            rintro e w7 ⟨rfl, hE7⟩
            have HE7 := Lib.hid (HE6.out.trans hE7)
            clear hE7 y7
            go_wp2_with fail
            go_roundw
            case rel => exact ⟨k + 1, G, by omega, by go_num, Lib.hid ⟨(HS5.out.ext HE7.out).full, HEXT.out _ HE7.out, heap_ext HB5.out.1 HE7.out, hI.out.2.2.2.1, hI.out.2.2.2.2.1, hI.out.2.2.2.2.2.1, fun h => by omega, fun _ => HR.out⟩⟩
            case measure => simp [intOf]; omega
    · obtain rfl : k = n := by omega
      go_wp2_with fail
      refine (alive9_any _).mono ?_
      rintro e w4 ⟨rfl, hE4⟩
      have hfin := (HEND.out wr hI.out.2.1).trans (hE4.mono (HEND.out wr hI.out.2.1).size)
      clear hE4
      go_wp2_with fail
      go_ret
      exact ⟨rfl, hfin⟩

namespace segmentFull
theorem own : ownKnob Try.prog.godebug = none := by kernel_rfl
theorem laidOut : laidOutB Try.prog = true := by kernel_rfl
set_option linter.unusedVariables false in
set_option maxRecDepth 100000 in
theorem lifted (os : Os) (started : os.Started) (H : Type) (enc : TypeId × Value → H) :
    ReturnsInHanded {} Try.checked os 7 .any (Rows.segmentFullSpec.pre6 enc Try.prog Try.f7 Rows.segmentFullRow.domain false) (Rows.segmentFullSpec.post enc Try.prog Try.f7 false true false false) := by
  refine returnsInHanded_of_change_sized (C := Try.checked) own started (by kernel_rfl) Try.func7
    (ChangeSpec.witness6 (enc := enc) (C := Try.checked) false ⟨#[], #[.agg #[.int .i64 0, .int .i64 0, .slice none 0 0, .string ByteArray.empty], .int .i64 0], []⟩ 8 (by kernel_rfl) (by kernel_rfl) (by kernel_rfl) (by kernel_rfl)) ?_
  intro W base args ds gs before hval0 hW hcnd hsz _
  have hval : ∀ (j : Nat) t v, Try.f7.params[j]? = some t → args[j]? = some v → Value.okWide Try.prog W .any base t v := hval0
  have hW' := hW
  obtain ⟨p, q, hA0, hV, rfl, hfz, hnd⟩ := hW'
  have hA : DataW.TrodAll enc Try.prog W 0 (fun _ => true) true Try.f7.params.toList args.toList ds p := hA0
  rw [Try.params7] at hA hval
  obtain ⟨v0, vs0, d0, ds0, p0, q0, hargs, rfl, rfl, h0, r0⟩ := trodAll_cons hA
  obtain ⟨v1, vs1, d1, ds1, p1, q1, rfl, rfl, rfl, h1, r1⟩ := trodAll_cons r0
  obtain ⟨rfl, rfl, rfl⟩ := trodAll_nil r1
  obtain rfl : args = #[v0, v1] := by cases args; simp_all
  obtain ⟨rfl, rfl⟩ := trodVars_none hV
  have k0 := h0
  have lt0 : ∀ x ∈ p0, x.block < W.heap.size := by obtain ⟨m, hm⟩ := k0; exact DataW.trod_lt m _ _ _ hm
  obtain ⟨l0, w0⟩ := rec_arg (hval 0 54 v0 rfl rfl) h0
  have k1 := h1
  have lt1 : ∀ x ∈ p1, x.block < W.heap.size := by obtain ⟨m, hm⟩ := k1; exact DataW.trod_lt m _ _ _ hm
  obtain ⟨a1, rfl, _, _, w1⟩ := open_int Try.underlying3 (hval 1 3 v1 rfl rfl) h1
  clear hA0 hval0
  refine (segmentFull_walk v0 l0 a1 W w0 (bounds_i64 w1)).mono fun e W' ⟨he, bel⟩ => ?_
  subst he
  exact ⟨_, rfl, _, _, _, [], _, [], hW, trodAll_mk1 (shut_bool Try.underlying4 _), (trodAll_cons_mk (Below.trod laidOut (by kernel_rfl) (of_decide_eq_true (by kernel_rfl)) k0 bel lt0) (trodAll_cons_mk (Below.trod laidOut (by kernel_rfl) (of_decide_eq_true (by kernel_rfl)) k1 bel lt1) trodAll_mk0)), rfl, bel.frame _, fun h => by cases h⟩
theorem over : Rows.segmentFullRow.holds Try.pinned (OpenSpec.ofChange Rows.segmentFullSpec) :=
  OpenClaim.holds_of_wide 7 Try.f7 rfl rfl rfl rfl rfl rfl rfl ⟨rfl, rfl, rfl, rfl, rfl⟩ rfl rfl rfl rfl rfl (by kernel_rfl) Try.func7 (by kernel_rfl)
    (of_decide_eq_true (by kernel_rfl)) (by unfold Func.isWrapper; first | (rw [if_pos (by decide +kernel)]; kernel_rfl) | (rw [if_neg (by decide +kernel)]; exact ⟨rfl, rfl⟩))
    (fun os started H enc _ => lifted os started H enc)
theorem proved : Rows.SegmentFullSaid := over
end segmentFull
end Go.Proofs.Ytpefengjpedifaa
