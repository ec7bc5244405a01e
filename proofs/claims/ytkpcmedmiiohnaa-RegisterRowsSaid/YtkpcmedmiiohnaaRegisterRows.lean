/-
  RegisterRows: what is told of a term is the caller's own: to write into it changes nothing; installs of what is no configuration, or no chain, change nothing: for every input the statement's function returns true, and leaves what came in as it was.
-/
import Derived.Test.YtkpcmedmiiohnaaBsRgM
namespace Go.Proofs.Ytkpcmedmiiohnaa
set_option linter.unusedSimpArgs false
set_option linter.unusedVariables false
open Go.ChangeShapes Go.WideShapes Go.ChangeAt Go.RowKit

theorem Ints.first14 {w : World} {B : Nat} {a : Option Addr} {n c : Nat} {l : List Int} (h : OwnI w B (.slice a n c) l) (hl : 1 ≤ l.length) : n = l.length ∧ n ≤ c ∧ c ≤ 9223372036854775807 ∧ ∃ g cur, a = some ⟨g, 0, none⟩ ∧ B ≤ g ∧ w.heap[g]? = some (.cells cur 3 (0, 0)) ∧ ∃ y : Int, cur[0]? = some (.int .i64 y) := by
  rcases h.2 with ⟨_, h0⟩ | ⟨g, cap, cur, e, hb, hg, hle, hmx, hcs, htk⟩
  · omega
  · injection e with e1 e2 e3
    subst e1 e2 e3
    have hc := World.ownsRow.cellAt h 0 (by omega)
    unfold maxLen at hmx
    refine ⟨rfl, by omega, by omega, g, cur, rfl, hb, hg, l[0]'(by omega), ?_⟩
    have := cell_of_heap hg 0
    rw [← this, hc]
    unfold i64s
    rw [List.getElem?_map, List.getElem?_eq_getElem (by omega)]
    rfl
theorem OwnRR.first14 {w : World} {B : Nat} {a : Option Addr} {n c : Nat} {l : List (List Int)} (h : OwnRR w B (.slice a n c) l) (hl : 1 ≤ l.length) : n = l.length ∧ n ≤ c ∧ c ≤ 9223372036854775807 ∧ ∃ g cur a1 n1 c1, a = some ⟨g, 0, none⟩ ∧ B ≤ g ∧ w.heap[g]? = some (.cells cur 22 (0, 0)) ∧ cur[0]? = some (.slice a1 n1 c1) ∧ OwnI w B (.slice a1 n1 c1) (l[0]'(by omega)) := by
  obtain ⟨xs, h1, h2, h3⟩ := h
  rcases h1.2 with ⟨_, h0⟩ | ⟨g, cap, cur, e, hb, hg, hle, hmx, hcs, htk⟩
  · omega
  · injection e with e1 e2 e3
    subst e1 e2 e3
    have hx0 : 0 < xs.length := by omega
    have hc := World.ownsRow.cellAt h1 0 (by omega)
    have ho := h3 0 hx0 (by omega)
    obtain ⟨a1, n1, c1, hs⟩ := ownSlice ho
    rw [hs] at ho
    unfold maxLen at hmx
    refine ⟨rfl, by omega, by omega, g, cur, a1, n1, c1, rfl, hb, hg, ?_, ho⟩
    have := cell_of_heap hg 0
    rw [← this, hc, List.getElem?_eq_getElem hx0, hs]
set_option maxRecDepth 100000 in
set_option maxHeartbeats 20000000 in
theorem registerRows_walk (cv : Value) (c : Term.C) (a : Option Addr) (len cap : Nat) (l : List Reg.Op) (W : World) (hcv : IsConf W cv c) (hv : Ops14 W (.slice a len cap) l) (hwd : ∀ o ∈ l, o.Wide) :
    Calls Try.prog 6 #[cv, .slice a len cap] W fun e W' => e = .returned (.bool true) ∧ Below W.heap.size W W' := by
  obtain ⟨hn, hcap, hmax⟩ := hv.len
  have HCV := Lib.hid hcv
  have HV := Lib.hid hv
  have HWD := Lib.hid hwd
  have HN := Lib.hid hn
  obtain ⟨s, d, rfl, hs, hd⟩ := hcv
  obtain ⟨a0, n0, k0, rfl⟩ := hs.isSlice
  obtain ⟨a1, k1, rfl, _⟩ := hd.open
  obtain ⟨n1, hn1⟩ : ∃ z, c.shards.length = z := ⟨_, rfl⟩
  obtain ⟨tc, htc⟩ : ∃ z, c.term = z := ⟨_, rfl⟩
  unfold confV at HCV ⊢
  rw [hn1, htc] at HCV ⊢
  have hbad : ∀ w1, Ext W w1 → Calls Try.prog 8 #[] w1 fun e w' => e = .returned (.bool true) ∧ Below W.heap.size W w' := fun w1 h => (alive14_any w1).mono fun e w' q => ⟨q.1, h.trans q.2⟩
  have HBAD := Lib.hid hbad
  obtain ⟨w1, hw1⟩ : ∃ z, W.alloc (.cells #[.int .i64 tc, .slice a0 n0 k0, .slice a1 n1 k1] 25) = z := ⟨_, rfl⟩
  obtain ⟨q, hq⟩ : ∃ z, W.heap.size = z := ⟨_, rfl⟩
  have hE1 : Ext W w1 := by rw [← hw1]; exact Ext.alloc _ _
  have hc1 : w1.heap[q]? = some (.cells #[.int .i64 tc, .slice a0 n0 k0, .slice a1 n1 k1] 25 (0, 0)) := by rw [← hw1, ← hq]; exact heap_alloc_new _ _
  have HW1 := Lib.hid (And.intro hw1 hq)
  have HE1 := Lib.hid (And.intro hE1 hc1)
  have y0 := cell_of_heap hc1 0
  have y1 := cell_of_heap hc1 1
  have y2 := cell_of_heap hc1 2
  simp only [List.getElem?_toArray, List.getElem?_cons_zero, List.getElem?_cons_succ] at y0 y1 y2
  have hnew := new14_any _ c w1 (HCV.out.below hE1)
  have HNEW := Lib.hid hnew
  clear hn hs hd hE1 hw1 hq hc1 htc hn1 hbad hnew hv hwd
  go_enter Try.func6, Try.ntmps6
  go_upto_region 1 with fail
  rw [HW1.out.1, HW1.out.2]
  go_wp2_with fail
  refine HNEW.out.mono ?_
  rintro e w2 (⟨hn, rfl, hE2⟩ | ⟨p, hcr, rfl, hr, hE2⟩)
  · have HE2 := Lib.hid (HE1.out.1.trans hE2)
    clear hE2
    go_wp2_with fail
    refine (HBAD.out _ HE2.out).mono ?_
    rintro e w3 ⟨rfl, hE3⟩
    go_wp2_with fail
    go_ret
    exact ⟨rfl, hE3⟩
  obtain ⟨B, hB⟩ : ∃ z, w1.heap.size = z := ⟨_, rfl⟩
  rw [hB] at hr
  have hst2 : Seat14 W B p [⟨c, [], 0⟩] w2 := ⟨hr, HE1.out.1.trans hE2, by rw [← hB]; exact HE1.out.1.size, by rw [← hB]; exact hE2.size, fun x hx => by rw [List.mem_singleton.1 hx]; simp⟩
  have HST2 := Lib.hid hst2
  have z0 := cellExt hE2 y0
  have z1 := cellExt hE2 y1
  have z2 := cellExt hE2 y2
  clear hr hE2 hst2 y0 y1 y2 hB
  go_wp2_with fail
  refine (few14_any _ c _ l w2 (HCV.out.below HST2.out.ext) (HV.out.below HST2.out.ext)).mono ?_
  rintro e w3 ⟨⟨b, rfl⟩, hE3⟩
  have HST3 := Lib.hid (HST2.out.later hE3)
  clear hE3 z0 z1 z2
  cases b with
  | false =>
    go_wp2_with fail
    refine (HBAD.out _ HST3.out.ext).mono ?_
    rintro e w3 ⟨rfl, hE3⟩
    go_wp2_with fail
    go_ret
    exact ⟨rfl, hE3⟩
  | true =>
    go_wp2_with fail
    go_loopw [35] (fun i wx => ∃ (k : Nat) (R : List Reg.Row) (wr : World), wr = wx ∧ k ≤ len ∧ i = .int .i64 k ∧ Hid (Seat14 W B p R wr)) (fun i _ => len - (intOf i).toNat)
    case atStart => exact ⟨0, _, _, rfl, by omega, rfl, HST3⟩
    case round =>
      obtain ⟨k, R, wo, hwo, hk, rfl, hI⟩ := hrel
      subst hwo
      by_cases hlt : k < len
      case neg =>
        obtain rfl : k = len := by omega
        have HST5 := Lib.hid hI.out
        have HOK := Lib.hid hI.out.reg.ok
        clear hI
        go_wp2_with fail
        refine (current14_any HST5.out.reg).mono ?_
        rintro e w6 ⟨rfl, hE6⟩
        have HST6 := Lib.hid (HST5.out.later hE6)
        obtain ⟨F, hF⟩ : ∃ z, Reg.first R = z := ⟨_, rfl⟩
        have HF := Lib.hid hF
        have hb := HOK.out.first_pos
        have hcur : Reg.current R = Reg.first R + (R.length : Int) - 1 := rfl
        rw [hcur, hF] at hb ⊢
        obtain ⟨N, hN⟩ : ∃ z, R.length = z := ⟨_, rfl⟩
        rw [hN] at hb ⊢
        have hN1 : 1 ≤ N := by have := HOK.out.ne; omega
        have HN2 := Lib.hid (show R.length = N ∧ Reg.current R = F + (N : Int) - 1 from ⟨hN, by rw [hcur, hF, hN]⟩)
        clear hF hcur hN hE6
        go_wp2_with fail
        refine (first14_any HST6.out.reg).mono ?_
        rintro e w7 ⟨rfl, hww⟩
        subst hww
        rw [HF.out]
        go_wp2_with fail
        go_loopw [10] (fun tt wx => ∃ (i : Nat) (wr : World), wr = wx ∧ i ≤ N ∧ tt = .int .i64 (F + (i : Int)) ∧ Hid (Seat14 W B p R wr)) (fun tt _ => N - (intOf tt - F).toNat)
        case atStart => exact ⟨0, _, rfl, by omega, by simp, HST6⟩
        case round =>
          obtain ⟨i, wi, hwi, hi, rfl, hJ⟩ := hrel
          subst hwi
          by_cases hiN : i < N
          case neg =>
            obtain rfl : i = N := by omega
            go_wp2_with fail
            refine (alive14_any _).mono ?_
            rintro e w8 ⟨rfl, hE8⟩
            have HST8 := Lib.hid (hJ.out.later hE8)
            clear hE8
            go_wp2_with fail
            refine (current14_any HST8.out.reg).mono ?_
            rintro e w9 ⟨rfl, hE9⟩
            rw [HN2.out.2]
            have HE9 := Lib.hid (HST8.out.ext.trans hE9)
            clear hE9
            go_wp2_with fail
            go_ret
            exact ⟨by simp, HE9.out⟩
          have hiR : i < R.length := by rw [HN2.out.1]; exact hiN
          obtain ⟨j, hj, _, hlk, hjt⟩ := HOK.out.look_some (t := F + (i : Int)) (by rw [HF.out]; omega) (by rw [HN2.out.2]; omega)
          rw [HF.out] at hjt
          obtain rfl : j = i := by omega
          have hwF : IntKind.i64.wrap (F + (j : Int) + 1) = F + (j : Int) + 1 := IntWalk.i64_in _ (by omega)
          have hrt := HOK.out.term j hj
          rw [HF.out] at hrt
          have hri := HOK.out.right _ (List.getElem_mem hj)
          obtain ⟨x, hx⟩ : ∃ z, R[j] = z := ⟨_, rfl⟩
          rw [hx] at hlk hrt hri
          have HLK := Lib.hid (And.intro hlk (And.intro hrt hri))
          clear hlk hjt hrt hri hx
          go_wp2_with fail
          refine (hJ.out.row (F + (j : Int))).mono ?_
          rintro e w8 hg
          obtain ⟨hE8, u1, v1, t1, u2, v2, t2, u3, v3, t3, rfl, ho1, ho2, ho3⟩ := hg.some HLK.out.1
          rw [HLK.out.2.1]
          obtain ⟨w9, hw9⟩ : ∃ z, w8.alloc (.cells #[.int .i64 (F + (j : Int)), .slice u1 v1 t1, .slice u2 v2 t2, .slice u3 v3 t3, .bool (decide (F + (j : Int) < Reg.current R))] 56) = z := ⟨_, rfl⟩
          obtain ⟨rx, hrx⟩ : ∃ z, w8.heap.size = z := ⟨_, rfl⟩
          have hE9 : Ext w8 w9 := by rw [← hw9]; exact Ext.alloc _ _
          have hB9 : w9.heap[rx]? = some (.cells #[.int .i64 (F + (j : Int)), .slice u1 v1 t1, .slice u2 v2 t2, .slice u3 v3 t3, .bool (decide (F + (j : Int) < Reg.current R))] 56 (0, 0)) := by rw [← hw9, ← hrx]; exact heap_alloc_new _ _
          have hrk := Term.right_ok HLK.out.2.2
          obtain ⟨hv1, hv1c, hv1m, g1, cur1, rfl, hg1, hh1, y1, hy1⟩ := Ints.first14 ho1 (by omega)
          obtain ⟨hv2, hv2c, hv2m, g2, cur2, a3, n3, c3, rfl, hg2, hh2, hy2, ho4⟩ := OwnRR.first14 ho2 (by omega)
          have hok := hrk.2.2.1 _ (List.getElem_mem (show 0 < x.c.shards.length by omega))
          obtain ⟨hv3, hv3c, hv3m, g3, cur3, rfl, hg3, hh3, y3, hy3⟩ := Ints.first14 ho4 (by unfold Term.okShard at hok; simp only [Bool.and_eq_true, decide_eq_true_eq] at hok; omega)
          obtain ⟨k1, rfl⟩ : ∃ z, v1 = z + 1 := ⟨v1 - 1, by omega⟩
          obtain ⟨k2, rfl⟩ : ∃ z, v2 = z + 1 := ⟨v2 - 1, by omega⟩
          obtain ⟨k3, rfl⟩ : ∃ z, n3 = z + 1 := ⟨n3 - 1, by unfold Term.okShard at hok; simp only [Bool.and_eq_true, decide_eq_true_eq] at hok; omega⟩
          have f0 := cell_of_heap hB9 0
          have f1 := cell_of_heap hB9 1
          have f2 := cell_of_heap hB9 2
          simp only [List.getElem?_toArray, List.getElem?_cons_zero, List.getElem?_cons_succ] at f0 f1 f2
          have j1 := heap_ext hh1 hE9
          have j2 := heap_ext hh2 hE9
          have j3 := heap_ext hh3 hE9
          have d1 := (cell_of_heap j1 0).trans hy1
          have fr1 := frozen_of_heap j1 0
          have hg1x : g1 ≠ rx := by have := (Array.getElem?_eq_some_iff.1 hh1).1; omega
          have hg1y : g1 ≠ g2 := by
            intro e
            rw [e, hh2] at hh1
            injection hh1 with hh1
            injection hh1 with _ h _
            exact absurd h (by decide)
          have HW9 := Lib.hid (And.intro hw9 hrx)
          have HJ := Lib.hid (And.intro (hE8.trans hE9) (And.intro hB9 (And.intro j1 (And.intro j2 j3))))
          have HG := Lib.hid (And.intro hg1 (And.intro hg3 (And.intro hg1x (And.intro hg1y (And.intro hy2 (And.intro hy3 hy1))))))
          clear hg hE8 ho1 ho2 ho3 hw9 hrx hE9 hB9 hrk hv1 hh1 hy1 hv2 hh2 hy2 ho4 hok hv3 hh3 hy3 j1 j2 j3 hg1 hg2 hg3 hg1x hg1y
          have z1 : (((k1 : Int) + 1) == 0) = false := by simp; omega
          have z2 : (((k2 : Int) + 1) == 0) = false := by simp; omega
          have z3 : ¬ ((k1 : Int) + 1 = 0) := by omega
          have z4 : ¬ ((k2 : Int) + 1 = 0) := by omega
          go_upto_region 16 with fail
          rw [HW9.out.1, HW9.out.2]
          go_upto_region 19 with fail
          obtain ⟨w10, hw10⟩ : ∃ z, w9.setCell ⟨g1, 0, none⟩ (.int .i64 77) = z := ⟨_, rfl⟩
          have hB10 : But g1 w9 w10 := by rw [← hw10]; exact (But.refl _ _).setCell 0 none _
          have i1 : w10.heap[rx]? = _ := (hB10.block rx (Array.getElem?_eq_some_iff.1 HJ.out.2.1).1 (Ne.symm HG.out.2.2.1)).trans HJ.out.2.1
          have i2 : w10.heap[g2]? = _ := (hB10.block g2 (Array.getElem?_eq_some_iff.1 HJ.out.2.2.2.1).1 (Ne.symm HG.out.2.2.2.1)).trans HJ.out.2.2.2.1
          have i3 : ∃ (cur : Array Value) (y : Int), w10.heap[g3]? = some (.cells cur 3 (0, 0)) ∧ cur[0]? = some (.int .i64 y) := by
            by_cases hgg : g3 = g1
            · subst hgg
              have h1 := HJ.out.2.2.1
              have h2 := HG.out.2.2.2.2.2.2
              refine ⟨_, 77, by rw [← hw10]; exact heap_setCell h1 0 _, ?_⟩
              have := (Array.getElem?_eq_some_iff.1 h2).1
              simp [this]
            · exact ⟨cur3, y3, (hB10.block g3 (Array.getElem?_eq_some_iff.1 HJ.out.2.2.2.2).1 hgg).trans HJ.out.2.2.2.2, HG.out.2.2.2.2.2.1⟩
          obtain ⟨cur4, y4, i3, i4⟩ := i3
          have e0 := cell_of_heap i1 0
          have e1 := cell_of_heap i1 1
          have e2 := cell_of_heap i1 2
          simp only [List.getElem?_toArray, List.getElem?_cons_zero, List.getElem?_cons_succ] at e0 e1 e2
          have e3 := (cell_of_heap i2 0).trans HG.out.2.2.2.2.1
          have e4 := (cell_of_heap i3 0).trans i4
          have e5 := frozen_of_heap i3 0
          rw [hw10]
          have HW10 := Lib.hid (And.intro hw10 hB10)
          clear f0 f1 f2 d1 fr1 hw10 hB10 i1 i2 i3 i4
          go_upto_region 20 with fail
          obtain ⟨w11, hw11⟩ : ∃ z, w10.setCell ⟨g3, 0, none⟩ (.int .i64 77) = z := ⟨_, rfl⟩
          have hE11 : Ext wi w11 := by
            rw [← hw11, ← HW10.out.1]
            exact (HJ.out.1.setCell HG.out.1 _).setCell HG.out.2.1 _
          rw [hw11]
          have HST11 := Lib.hid (hJ.out.later hE11)
          clear hw11 hE11 e0 e1 e2 e3 e4 e5 z1 z2 z3 z4
          go_wp2_with fail
          refine (HST11.out.row (F + (j : Int))).mono ?_
          rintro e w12 hg
          obtain ⟨hE12, q1, q2, q3, q4, q5, q6, q7, q8, q9, rfl, ho1, ho2, ho3⟩ := hg.some HLK.out.1
          have hri := right6_any (confV x.c.term (.slice q1 q2 q3) (.slice q4 q5 q6)) x.c
          rw [HLK.out.2.1]
          obtain ⟨w13, hw13⟩ : ∃ z, w12.alloc (.cells #[.int .i64 (F + (j : Int)), .slice q1 q2 q3, .slice q4 q5 q6, .slice q7 q8 q9, .bool (decide (F + (j : Int) < Reg.current R))] 56) = z := ⟨_, rfl⟩
          obtain ⟨ry, hry⟩ : ∃ z, w12.heap.size = z := ⟨_, rfl⟩
          have hE13 : Ext w12 w13 := by rw [← hw13]; exact Ext.alloc _ _
          have hB13 : w13.heap[ry]? = some (.cells #[.int .i64 (F + (j : Int)), .slice q1 q2 q3, .slice q4 q5 q6, .slice q7 q8 q9, .bool (decide (F + (j : Int) < Reg.current R))] 56 (0, 0)) := by rw [← hw13, ← hry]; exact heap_alloc_new _ _
          have hrt := hri w13 ⟨_, _, rfl, (show OwnI w13 _ _ x.c.seqs from rowExt ho1 hE13).ints, (ho2.ext hE13).rows⟩
          rw [HLK.out.2.2] at hrt
          unfold confV at hrt
          rw [HLK.out.2.1] at hrt
          have HRT := Lib.hid hrt
          have HB13 := Lib.hid hB13
          have HW13 := Lib.hid (And.intro hw13 hry)
          have HST13 := Lib.hid (HST11.out.later (hE12.trans hE13))
          have f0 := cell_of_heap hB13 0
          have f1 := cell_of_heap hB13 1
          have f2 := cell_of_heap hB13 2
          simp only [List.getElem?_toArray, List.getElem?_cons_zero, List.getElem?_cons_succ] at f0 f1 f2
          clear hg hE12 ho1 ho2 ho3 hri hw13 hry hE13 hB13 hrt
          go_upto_region 21 with fail
          rw [HW13.out.1, HW13.out.2]
          go_wp2_with fail
          refine HRT.out.mono ?_
          rintro e w14 ⟨rfl, hE14⟩
          have f3 := cellExt hE14 f0
          have HST14 := Lib.hid (HST13.out.later hE14)
          clear hE14 f0 f1 f2
          go_wp2_with fail
          go_roundw
          case rel => exact ⟨j + 1, _, rfl, by omega, by congr 1; omega, HST14⟩
          case measure => simp [intOf]; omega
      have hkl : k < l.length := by rw [← HN.out]; exact hlt
      obtain ⟨b, off, b1, m1, d1, b2, m2, d2, b3, m3, d3, rfl, hop⟩ := HV.out.at k hkl
      have hwide := HWD.out _ (List.getElem_mem hkl)
      obtain ⟨o, hO⟩ : ∃ o, l[k] = o := ⟨_, rfl⟩
      rw [hO] at hop hwide
      have HOP := Lib.hid hop
      have HWI := Lib.hid hwide
      obtain ⟨p0, p1, p2, p3, _, _, _⟩ := hop.below hI.out.ext
      obtain ⟨OT, hOT⟩ : ∃ z, o.c.term = z := ⟨_, rfl⟩
      rw [hOT] at p0
      have HOT := Lib.hid hOT
      obtain ⟨w7, hw4⟩ : ∃ z, wo.alloc (.cells #[.int .i64 OT, .slice b1 m1 d1, .slice b2 m2 d2, .slice b3 m3 d3] 41) = z := ⟨_, rfl⟩
      obtain ⟨r, hr⟩ : ∃ z, wo.heap.size = z := ⟨_, rfl⟩
      have hE4 : Ext wo w7 := by rw [← hw4]; exact Ext.alloc _ _
      have hB4 : w7.heap[r]? = some (.cells #[.int .i64 OT, .slice b1 m1 d1, .slice b2 m2 d2, .slice b3 m3 d3] 41 (0, 0)) := by rw [← hw4, ← hr]; exact heap_alloc_new _ _
      have HW4 := Lib.hid (And.intro hw4 hr)
      have HB7 := Lib.hid hB4
      have HST7 := Lib.hid (hI.out.later hE4)
      clear hop hwide hO hOT hw4 hr hE4 hB4 hI hkl
      go_upto_region 7 with fail
      rw [HW4.out.1, HW4.out.2]
      clear p0 p1 p2 p3
      refine wp_region_tail (by kernel_rfl) 6 Ext (fun iop v w => match iop with
          | 0 => v = .pointer (some ⟨p, 0, none⟩)
          | 1 => v = .pointer (some ⟨r, 0, none⟩)
          | 2 => v = .agg #[.int .i64 OT, .slice b1 m1 d1, .slice b2 m2 d2]
          | 3 => v = .pointer (some ⟨r, 3, none⟩)
          | 4 => v = .slice b3 m3 d3
          | _ => ∃ a n c, v = .slice a n c ∧ Ents w (.slice a n c) o.tail
          ) (by kernel_rfl) (by kernel_rfl) (by decide) (fun _ _ _ h k => Ext.trans h k) (fun a => Ext.refl a) (Ext.drew _) ?_ ?_ ?_
      · intro iop v wa wb hF hL
        iterate 5 (rcases iop with _ | iop; exact hF)
        (first | exact hF | (obtain ⟨a, n, c, h1, h2⟩ := hF; exact ⟨a, n, c, h1, h2.below hL⟩))
      · refine Obls.cons ?_ (Obls.cons ?_ (Obls.cons ?_ (Obls.cons ?_ (Obls.cons ?_ (Obls.cons ?_ (Obls.nil))))))
        · intro ev wy hp hl hk hd
          have e5 : ev _ = .pointer (some ⟨p, 0, none⟩) := hk 5 (by decide)
          exact Yield.mv rfl ⟨Ext.refl _, e5⟩
        · intro ev wy hp hl hk hd
          have e8 : ev _ = .pointer (some ⟨r, 0, none⟩) := hk 8 (by decide)
          exact Yield.oq (by simp [execOp, go_sem, e8])
        · intro ev wy hp hl hk hd
          have e40 : ev _ = _ := hk 40 (by decide)
          exact Yield.op (v := .agg #[.int .i64 OT, .slice b1 m1 d1, .slice b2 m2 d2]) (w' := wy) (by simp [execOp, go_sem, e40, show ∀ j, wy.cell? ⟨r, j, none⟩ = _ from fun j => cell_of_heap (heap_ext HB7.out hl) j]) ⟨Ext.refl _, rfl⟩
        · intro ev wy hp hl hk hd
          have e8 : ev _ = .pointer (some ⟨r, 0, none⟩) := hk 8 (by decide)
          exact Yield.oq (by simp [execOp, go_sem, e8])
        · intro ev wy hp hl hk hd
          have e42 : ev _ = _ := hk 42 (by decide)
          exact Yield.op (v := .slice b3 m3 d3) (w' := wy) (by simp [execOp, go_sem, e42, show ∀ j, wy.cell? ⟨r, j, none⟩ = _ from fun j => cell_of_heap (heap_ext HB7.out hl) j]) ⟨Ext.refl _, rfl⟩
        · intro ev wy hp hl hk hd
          have e43 : ev _ = _ := hk 43 (by decide)
          refine Yield.call rfl hp Try.func13 rfl (by kernel_rfl) ?_
          simp only [List.map_toArray, List.map_cons, List.map_nil, e43]
          exact (mine14_any (.slice b3 m3 d3) o.tail wy (HOP.out.tail.below (HST7.out.ext.trans hl)) (by have := HWI.out.2; omega)).mono fun e w' ⟨u, he, ho, hE⟩ => by
            obtain ⟨x1, x2, hx⟩ := ho.isSlice
            subst hx
            exact ⟨_, he, hE, _, _, _, rfl, ho.ents hE⟩
      · intro vals wz hz hv
        have g39 : vals 0 = _ := hv 0 (by decide)
        have g40 : vals 1 = _ := hv 1 (by decide)
        have g41 : vals 2 = _ := hv 2 (by decide)
        have g42 : vals 3 = _ := hv 3 (by decide)
        have g43 : vals 4 = _ := hv 4 (by decide)
        have g44 : (fun (v : Value) (w : World) => ∃ a n c, v = .slice a n c ∧ Ents w (.slice a n c) o.tail) (vals 5) wz := hv 5 (by decide)
        clear hv
        simp only [List.take_succ_cons, List.take_zero, List.drop_succ_cons, List.drop_zero]
        simp only [putAll, Act.put, List.setIfInBounds_toArray, List.set_cons_zero, List.set_cons_succ, g39, g40, g41, g42, g43]
        clear g39 g40 g41 g42 g43
        generalize vals 5 = v44 at *
        obtain ⟨e1, e2, e3, rfl, hent⟩ := g44
        have hins := (HST7.out.later hz).install (.slice b1 m1 d1) (.slice b2 m2 d2) (.slice e1 e2 e3) o.c o.tail HOP.out.seqs HOP.out.shards hent (by have := HWI.out.2; omega) HWI.out.1
        rw [HOT.out] at hins
        have HINS := Lib.hid hins
        have HZ := Lib.hid hz
        clear hins hent hz
        go_wp2_with fail
        refine HINS.out.mono ?_
        rintro e w9 ⟨code, R', rfl, hin, hst9, hkp, _⟩
        have HST9 := Lib.hid hst9
        have HB9 := Lib.hid (hkp.at (heap_ext HB7.out HZ.out) (by decide) (by decide))
        clear hin hst9 hkp
        go_wp2_with fail
        refine (current14_any HST9.out.reg).mono ?_
        rintro e w10 ⟨rfl, hE10⟩
        have HST10 := Lib.hid (HST9.out.later hE10)
        have HB10 := Lib.hid (heap_ext HB9.out hE10)
        have hbd := HST10.out.reg.ok.first_pos
        obtain ⟨C, hC⟩ : ∃ z, Reg.current R' = z := ⟨_, rfl⟩
        have hcu : Reg.current R' = Reg.first R' + (R'.length : Int) - 1 := rfl
        have hne := HST10.out.reg.ok.ne
        rw [hC] at hbd hcu ⊢
        have hwr : IntKind.i64.wrap (C + 1) = C + 1 := IntWalk.i64_in _ (by omega)
        have hin2 := HST10.out.install (.slice none 0 0) (.slice none 0 0) (.slice none 0 0) ⟨C + 1, [], []⟩ [] (ints0 W) (irows0 W) (Ents.nil w10) (by simp) (by unfold Wf64; simp [Lit.wf, IntKind.min, IntKind.max, IntKind.signed, IntKind.bits]; omega)
        have HIN2 := Lib.hid hin2
        clear hE10 hC hcu hne hin2 hbd
        go_wp2_with fail
        refine HIN2.out.mono ?_
        rintro e w11 ⟨code2, R2, rfl, _, hst11, hkp, _⟩
        have HST11 := Lib.hid hst11
        have hB11 := hkp.at HB10.out (by decide) (by decide)
        obtain ⟨w12, hw12⟩ : ∃ z, w11.alloc (.cells #[.int .i64 7, .int .i64 0, .slice none 0 0, .int .i64 0, .int .i64 0, .int .i64 0] 63) = z := ⟨_, rfl⟩
        obtain ⟨g7, hg7⟩ : ∃ z, w11.heap.size = z := ⟨_, rfl⟩
        have hE12 : Ext w11 w12 := by rw [← hw12]; exact Ext.alloc _ _
        have hen : Ents w12 (.slice (some ⟨g7, 0, none⟩) 1 1) [⟨7, 0, [], 0, 0, 0⟩] := by
          have ho := World.ownsRow_lit (e := 63) (size := 6) (base := 0) w11 #[.int .i64 7, .int .i64 0, .slice none 0 0, .int .i64 0, .int .i64 0, .int .i64 0] 1 (Nat.zero_le _) (by simp [maxLen]) rfl
          rw [hw12, hg7] at ho
          exact ents_of_flat (ps := [(.slice none 0 0, ⟨7, 0, [], 0, 0, 0⟩)]) (fun q hq => by obtain rfl := List.mem_singleton.1 hq; exact ints0 _) (SlN.ofOwn ho)
        have hin3 := (HST11.out.later hE12).install (.slice b1 m1 d1) (.slice b2 m2 d2) (.slice (some ⟨g7, 0, none⟩) 1 1) o.c [⟨7, 0, [], 0, 0, 0⟩] HOP.out.seqs HOP.out.shards hen (by simp) HWI.out.1
        rw [HOT.out] at hin3
        have HIN3 := Lib.hid hin3
        have HW12 := Lib.hid (And.intro hw12 hg7)
        have q0 := cell_of_heap hB11 0
        have q1 := cell_of_heap hB11 1
        have q2 := cell_of_heap hB11 2
        simp only [List.getElem?_toArray, List.getElem?_cons_zero, List.getElem?_cons_succ] at q0 q1 q2
        clear hst11 hkp hB11 hw12 hg7 hE12 hen hin3
        go_wp2_with fail
        rw [HW12.out.1, HW12.out.2]
        refine HIN3.out.mono ?_
        rintro e w13 ⟨code3, R3, rfl, _, hst13, _, _⟩
        have HST13 := Lib.hid hst13
        clear hst13 q0 q1 q2
        go_wp2_with fail
        go_roundw
        case rel => exact ⟨k + 1, _, _, rfl, by omega, by go_num, HST13⟩
        case measure => simp [intOf]; omega

namespace registerRows
theorem own : ownKnob Try.prog.godebug = none := by kernel_rfl
theorem laidOut : laidOutB Try.prog = true := by kernel_rfl
set_option linter.unusedVariables false in
set_option maxRecDepth 100000 in
theorem lifted (os : Os) (started : os.Started) (H : Type) (enc : TypeId × Value → H) :
    ReturnsInHanded {} Try.checked os 6 .any (Rows.registerRowsSpec.pre6 enc Try.prog Try.f6 Rows.registerRowsRow.domain false) (Rows.registerRowsSpec.post enc Try.prog Try.f6 false true false false) := by
  refine returnsInHanded_of_change_sized (C := Try.checked) own started (by kernel_rfl) Try.func6
    (ChangeSpec.witness6 (enc := enc) (C := Try.checked) false ⟨#[], #[.agg #[.int .i64 0, .slice none 0 0, .slice none 0 0], .slice none 0 0], []⟩ 8 (by kernel_rfl) (by kernel_rfl) (by kernel_rfl) (by kernel_rfl)) ?_
  intro W base args ds gs before hval0 hW hcnd hsz _
  have hval : ∀ (j : Nat) t v, Try.f6.params[j]? = some t → args[j]? = some v → Value.okWide Try.prog W .any base t v := hval0
  have hW' := hW
  obtain ⟨p, q, hA0, hV, rfl, hfz, hnd⟩ := hW'
  have hA : DataW.TrodAll enc Try.prog W 0 (fun _ => true) true Try.f6.params.toList args.toList ds p := hA0
  rw [Try.params6] at hA hval
  obtain ⟨v0, vs0, d0, ds0, p0, q0, hargs, rfl, rfl, h0, r0⟩ := trodAll_cons hA
  obtain ⟨v1, vs1, d1, ds1, p1, q1, rfl, rfl, rfl, h1, r1⟩ := trodAll_cons r0
  obtain ⟨rfl, rfl, rfl⟩ := trodAll_nil r1
  obtain rfl : args = #[v0, v1] := by cases args; simp_all
  obtain ⟨rfl, rfl⟩ := trodVars_none hV
  have k0 := h0
  have lt0 : ∀ x ∈ p0, x.block < W.heap.size := by obtain ⟨m, hm⟩ := k0; exact DataW.trod_lt m _ _ _ hm
  obtain ⟨l0, w0⟩ := conf_arg (hval 0 25 v0 rfl rfl) h0
  have k1 := h1
  have lt1 : ∀ x ∈ p1, x.block < W.heap.size := by obtain ⟨m, hm⟩ := k1; exact DataW.trod_lt m _ _ _ hm
  obtain ⟨a1, len1, cap1, rfl⟩ := okWide_slice Try.underlying26 (hval 1 26 v1 rfl rfl)
  obtain ⟨l1, w1, f1⟩ : ∃ l, Ops14 W (.slice a1 len1 cap1) l ∧ ∀ o ∈ l, o.Wide := by
    obtain ⟨fuel, hf⟩ := h1
    obtain ⟨v, l, hcs, hb, hft⟩ := ops14_of_raw (x := (d1, p1)) hf (fun m hm => of_decide_eq_true (List.all_eq_true.1 hsz _ (DataW.weights_mem_each (j := 1) (by rw [Try.params6]; rfl) rfl m hm)))
    simp [Value.cells] at hcs
    subst hcs
    exact ⟨l, hb, hft⟩
  clear hA0 hval0
  refine (registerRows_walk v0 l0 a1 len1 cap1 l1 W w0 w1 f1).mono fun e W' ⟨he, bel⟩ => ?_
  subst he
  exact ⟨_, rfl, _, _, _, [], _, [], hW, trodAll_mk1 (shut_bool Try.underlying4 _), (trodAll_cons_mk (Below.trod laidOut (by kernel_rfl) (of_decide_eq_true (by kernel_rfl)) k0 bel lt0) (trodAll_cons_mk (Below.trod laidOut (by kernel_rfl) (of_decide_eq_true (by kernel_rfl)) k1 bel lt1) trodAll_mk0)), rfl, bel.frame _, fun h => by cases h⟩
theorem over : Rows.registerRowsRow.holds Try.pinned (OpenSpec.ofChange Rows.registerRowsSpec) :=
  OpenClaim.holds_of_wide 6 Try.f6 rfl rfl rfl rfl rfl rfl rfl ⟨rfl, rfl, rfl, rfl, rfl⟩ rfl rfl rfl rfl rfl (by kernel_rfl) Try.func6 (by kernel_rfl)
    (of_decide_eq_true (by kernel_rfl)) (by unfold Func.isWrapper; first | (rw [if_pos (by decide +kernel)]; kernel_rfl) | (rw [if_neg (by decide +kernel)]; exact ⟨rfl, rfl⟩))
    (fun os started H enc _ => lifted os started H enc)
theorem proved : Rows.RegisterRowsSaid := over
end registerRows
end Go.Proofs.Ytkpcmedmiiohnaa
