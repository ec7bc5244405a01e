/-
  SegmentAll: every call of any script is answered as the document says; which records there are, and are safe, is what it says: for every input the statement's function returns true, and leaves what came in as it was.
-/
import Derived.Test.YtfgjhagfpafmoaaGreatSgL
import Derived.Test.YtfgjhagfpafmoaaGreatSgX
namespace Go.Proofs.YtfgjhagfpafmoaaGreat
set_option linter.unusedSimpArgs false
set_option linter.unusedVariables false
open Go.ChangeShapes Go.WideShapes Go.ChangeAt Go.RowKit

theorem KeepS.k9 {a b : World} (h : K9 a b) : KeepS a b := fun k cs fr hk => h.2 k cs _ fr hk (by decide) (by decide) (by decide) (by decide) (by decide)
def RefAt9 (w : World) (Z : Nat) (G : Seg.Sg) : Prop := ∃ a c, w.heap[Z]? = some (.cells #[.slice a G.s.l.length c, .int .i64 (G.s.k : Nat), .bool G.s.off, .int .i64 (G.safe : Nat)] 36 (0, 0)) ∧ Txts w (.slice a G.s.l.length c) G.s.l
theorem RefAt9.ext {w w' : World} {Z : Nat} {G : Seg.Sg} (h : RefAt9 w Z G) (hE : Ext w w') : RefAt9 w' Z G := by
  obtain ⟨a, c, h1, h2⟩ := h
  exact ⟨a, c, heap_ext h1 hE, h2.ext hE⟩
theorem RefAt9.k9 {w w' : World} {Z : Nat} {G : Seg.Sg} (h : RefAt9 w Z G) (hk : K9 w w') : RefAt9 w' Z G := by
  obtain ⟨a, c, h1, h2⟩ := h
  exact ⟨a, c, (hk.2 _ _ _ _ h1 (by decide) (by decide) (by decide) (by decide) (by decide)).trans h1, h2.keep (KeepS.k9 hk)⟩
theorem ints_none9 {w w' : World} {t : Value} (h : Ints w t []) : Ints w' t [] := by
  obtain ⟨a, c, rfl, h1, h2, h3, _⟩ := h.open
  exact ⟨a, c, rfl, h1, h2, h3, fun i hi => absurd hi (by simp [i64s])⟩
theorem recs_none {w : World} {t : Value} {G : Seg.Sg} {o : Seg.Op} (h : RowI w t (Seg.doR G o).tags) (hk : ¬ o.kind = 1) (w' : World) : Ints w' t (Seg.doR G o).tags := by
  have hn : (Seg.doR G o).tags = [] := by simp [Seg.doR, Seg.zeroR, hk]
  rw [hn] at h ⊢
  exact ints_none9 h.ints

set_option maxRecDepth 100000 in
set_option maxHeartbeats 80000000 in
theorem segmentAll_walk (vb : Value) (bs : List UInt8) (a : Option Addr) (n c : Nat) (l : List Seg.Op) (W : World) (hvb : Bytes W vb bs) (h0 : Ops9 W (.slice a n c) l) (hf : ∀ o ∈ l, o.Small) :
    Calls Tryz.prog 3 #[vb, .slice a n c] W fun e W' => e = .returned (.bool true) ∧ Below W.heap.size W W' := by
  obtain ⟨hn, hnc, hc9⟩ := h0.len
  have HV := Lib.hid hvb
  obtain ⟨va', vn, vc, rfl⟩ := hvb.isSlice
  obtain ⟨hvn, hvn2, hvn3⟩ := hvb.len
  have HVN := Lib.hid hvn
  have HL0 := Lib.hid h0
  have HF := Lib.hid hf
  have HN := Lib.hid hn.symm
  obtain ⟨B, hB⟩ : ∃ B, W.heap.size = B := ⟨_, rfl⟩
  have HB := Lib.hid hB
  have HFEW := Lib.hid (few9_any _ l W h0 hf)
  have hend : ∀ w', Below B W w' → Below W.heap.size W w' := fun w' h => by rw [hB]; exact h
  have HEND := Lib.hid hend
  clear h0 hf hn hB hend hvb hvn
  go_enter Tryz.func3, Tryz.ntmps3
  by_cases hbig : 3000 < vn
  · go_wp2_with fail
    refine (alive9_any W).mono ?_
    rintro e wl ⟨rfl, hEl⟩
    have hfin := hEl
    clear hEl
    go_wp2_with fail
    go_ret
    exact ⟨rfl, hfin⟩
  go_wp2_with fail
  refine HFEW.out.mono ?_
  rintro e w1 ⟨rfl, hE1⟩
  have HE1 := Lib.hid (show Below B W w1 by rw [← HB.out]; exact hE1)
  clear hE1
  cases hfw : Seg.few l with
  | false =>
    clear hfw
    go_wp2_with fail
    refine (alive9_any w1).mono ?_
    rintro e wl ⟨rfl, hEl⟩
    have hfin := (HEND.out w1 HE1.out).trans (hEl.mono (HEND.out w1 HE1.out).size)
    clear hEl
    go_wp2_with fail
    go_ret
    exact ⟨rfl, hfin⟩
  | true =>
    clear hfw
    have hbw1 := HEND.out w1 HE1.out
    have hvb1 := HV.out.below hbw1
    have hop := opened9_any _ bs w1 hvb1
    have HOP := Lib.hid hop
    clear hop hvb1 hbw1
    go_wp2_with fail
    refine HOP.out.mono ?_
    rintro e w2 ⟨p, g, rfl, hs2, hE2⟩
    obtain ⟨w3, hw3⟩ : ∃ w3, w2.alloc (.cells #[.pointer (some ⟨p, 0, none⟩), .pointer (some ⟨g, 0, none⟩)] 29) = w3 := ⟨_, rfl⟩
    obtain ⟨Y, hY⟩ : ∃ Y, w2.heap.size = Y := ⟨_, rfl⟩
    have hE3 : Ext w2 w3 := by rw [← hw3]; exact Ext.alloc _ _
    have hy3 : w3.heap[Y]? = some (.cells #[.pointer (some ⟨p, 0, none⟩), .pointer (some ⟨g, 0, none⟩)] 29 (0, 0)) := by rw [← hw3, ← hY]; exact heap_alloc_new _ _
    have hB1 : B ≤ w1.heap.size := by rw [← HB.out]; exact (HEND.out _ HE1.out).size
    have hBl : Below B W w3 := HE1.out.trans ((hE2.trans hE3).mono hB1)
    have hsg : IsSeg w3 B w3.heap.size g p (Seg.ofStore (Page.fromBytes bs)) := by
      obtain ⟨va, vp, lv, ps, h⟩ := (hs2.ext hE3).full
      exact ⟨va, vp, lv, ps, Nat.le_trans hB1 h.g1, h.g2, Nat.le_trans hB1 h.p1, h.p2, h.ua, h.up, h.ul, h.sto.lower hB1, h.seg.lower hB1⟩
    have HI0 := Lib.hid (And.intro hsg (And.intro hBl hy3))
    have HW3 := Lib.hid (And.intro hw3 hY)
    clear hs2 hE2 hw3 hY hE3 hy3 hBl hsg hB1
    go_upto_region 4 with fail
    rw [HW3.out.1, HW3.out.2]
    have hnw := newRef8_any _ bs w3 (HV.out.below (HEND.out _ HI0.out.2.1)) (by rw [← HVN.out]; omega)
    have HNW := Lib.hid hnw
    clear hnw
    go_wp2_with fail
    refine HNW.out.mono ?_
    rintro e w4 ⟨u4, rfl, hu4, hE4⟩
    have hopn := openRef9_any u4 (Page.fromBytes bs) w4 hu4 (Page.fromBytes_ok bs)
    obtain ⟨a2, c2, rfl, _⟩ := hu4
    obtain ⟨n2, hn2⟩ : ∃ q, (Page.fromBytes bs).l.length = q := ⟨_, rfl⟩
    obtain ⟨k2, hk2⟩ : ∃ q : Int, ((Page.fromBytes bs).k : Int) = q := ⟨_, rfl⟩
    obtain ⟨f2, hf2⟩ : ∃ q, (Page.fromBytes bs).off = q := ⟨_, rfl⟩
    unfold refStoV at hopn ⊢
    rw [hn2, hk2, hf2] at hopn ⊢
    have HOPN := Lib.hid hopn
    have HE4 := Lib.hid hE4
    clear hn2 hk2 hf2 hopn hE4
    go_wp2_with fail
    refine HOPN.out.mono ?_
    rintro e w5 ⟨u5, rfl, ⟨a5, c5, rfl, ht5⟩, hE5⟩
    obtain ⟨G0, hG0⟩ : ∃ G, Seg.ofStore (Page.fromBytes bs) = G := ⟨_, rfl⟩
    have hok0 : G0.Ok := by rw [← hG0]; exact Seg.ofStore_ok (Page.fromBytes_ok bs) rfl
    rw [hG0] at ht5 HI0
    simp only [hG0]
    unfold segV
    obtain ⟨w6, hw6⟩ : ∃ w6, w5.alloc (.cells #[.slice a5 G0.s.l.length c5, .int .i64 (G0.s.k : Nat), .bool G0.s.off, .int .i64 (G0.safe : Nat)] 36) = w6 := ⟨_, rfl⟩
    obtain ⟨Z, hZ⟩ : ∃ Z, w5.heap.size = Z := ⟨_, rfl⟩
    have hE6 : Ext w5 w6 := by rw [← hw6]; exact Ext.alloc _ _
    have hz6 : w6.heap[Z]? = some (.cells #[.slice a5 G0.s.l.length c5, .int .i64 (G0.s.k : Nat), .bool G0.s.off, .int .i64 (G0.safe : Nat)] 36 (0, 0)) := by rw [← hw6, ← hZ]; exact heap_alloc_new _ _
    have hE36 : Ext w3 w6 := HE4.out.trans (hE5.trans hE6)
    have hB3 : B ≤ w3.heap.size := by rw [← HB.out]; exact (HEND.out _ HI0.out.2.1).size
    have hZB : B ≤ Z := by rw [← hZ]; exact Nat.le_trans hB3 (HE4.out.trans hE5).size
    have HI6 := Lib.hid (And.intro (HI0.out.1.ext hE36).full (And.intro (HI0.out.2.1.trans (hE36.mono hB3)) (And.intro (heap_ext HI0.out.2.2 hE36) (And.intro (show RefAt9 w6 Z G0 from ⟨a5, c5, hz6, ht5.ext hE6⟩) hok0))))
    have HW6 := Lib.hid (And.intro hw6 (And.intro hZ hZB))
    obtain ⟨n5, hn5⟩ : ∃ q, G0.s.l.length = q := ⟨_, rfl⟩
    obtain ⟨k5, hk5⟩ : ∃ q : Int, (G0.s.k : Int) = q := ⟨_, rfl⟩
    obtain ⟨f5, hf5⟩ : ∃ q, G0.s.off = q := ⟨_, rfl⟩
    obtain ⟨s5, hs5⟩ : ∃ q : Int, (G0.safe : Int) = q := ⟨_, rfl⟩
    have hst : Calls Tryz.prog 13 #[.pointer (some ⟨g, 0, none⟩), segV a5 G0.s.l.length c5 G0.s.k G0.s.off G0.safe] w6 fun e w' => e = .returned (.bool true) ∧ Ext w6 w' := by
      obtain ⟨va, vp, lv, ps, hsg⟩ := HI6.out.1
      exact stands9_any hsg _ ⟨a5, c5, rfl, ht5.ext hE6⟩
    unfold segV at hst
    rw [hn5, hk5, hf5, hs5] at hst hz6 HW6 ⊢
    have HST := Lib.hid hst
    obtain ⟨x0, x1, x2, x3⟩ := segEnd hz6
    have y1 : w6.cell? ⟨Y, 1, none⟩ = some (.pointer (some ⟨g, 0, none⟩)) := cell_of_heap HI6.out.2.2.1 1
    clear hw6 hZ hE5 hE6 hz6 hE36 hB3 hZB hst ht5 hG0 hok0 hn5 hk5 hf5 hs5
    go_upto_region 7 with fail
    rw [HW6.out.1, HW6.out.2.1]
    go_wp2_with fail
    refine HST.out.mono ?_
    rintro e w7 ⟨rfl, hE7⟩
    have hB6 : B ≤ w6.heap.size := by rw [← HB.out]; exact (HEND.out _ HI6.out.2.1).size
    have HI7 := Lib.hid (And.intro (HI6.out.1.ext hE7).full (And.intro (HI6.out.2.1.trans (hE7.mono hB6)) (And.intro (heap_ext HI6.out.2.2.1 hE7) (And.intro (HI6.out.2.2.2.1.ext hE7) HI6.out.2.2.2.2))))
    clear hE7 hB6 x0 x1 x2 x3 y1
    go_wp2_with fail
    go_loopw [41] (fun i wr => ∃ (k : Nat) (G : Seg.Sg), k ≤ n ∧ i = .int .i64 k ∧ Hid (IsSeg wr B wr.heap.size g p G ∧ Below B W wr ∧ wr.heap[Y]? = some (.cells #[.pointer (some ⟨p, 0, none⟩), .pointer (some ⟨g, 0, none⟩)] 29 (0, 0)) ∧ RefAt9 wr Z G ∧ G.Ok)) (fun i _ => n - (intOf i).toNat)
    case atStart => exact ⟨0, _, by omega, rfl, HI7⟩
    case round =>
      obtain ⟨k, G, hk, rfl, hI⟩ := hrel
      have hBwr : B ≤ wr.heap.size := by rw [← HB.out]; exact (HEND.out wr hI.out.2.1).size
      have HBWR := Lib.hid hBwr
      clear hBwr
      by_cases hlt : k < n
      · have hkl : k < l.length := by rw [HN.out]; exact hlt
        obtain ⟨_, _, e1, _, _, _, hc⟩ := HL0.out
        obtain ⟨ab, ao, rfl, t9, p0, p1, p2, p3, p4, p5, p6, ht9⟩ := hc k hkl
        injection e1 with e1 e2 e3
        subst e1
        obtain ⟨a1, a3, rfl⟩ : ∃ x y, t9 = .slice x l[k].r.tags.length y := by
          obtain ⟨x, cc, e, _⟩ := ht9.open
          exact ⟨x, cc, e⟩
        have hbw := HEND.out wr hI.out.2.1
        have p0 := cell_below p0 hbw
        have p1 := cell_below p1 hbw
        have p2 := cell_below p2 hbw
        have p3 := cell_below p3 hbw
        have p4 := cell_below p4 hbw
        have p5 := cell_below p5 hbw
        have p6 := cell_below p6 hbw
        have hsm := HF.out l[k] (List.getElem_mem hkl)
        have hopv : ∀ t, opV9 l[k] t = .agg #[.int .i64 l[k].kind, .int .i64 l[k].n, .int .i64 l[k].r.client, .int .i64 l[k].r.number, t, .string ⟨l[k].r.data.toArray⟩, .bool l[k].is] := fun _ => rfl
        obtain ⟨O, hO⟩ : ∃ O, l[k] = O := ⟨_, rfl⟩
        rw [hO] at p0 p1 p2 p3 p4 p5 p6 ht9 hsm hopv
        obtain ⟨o0, ho0⟩ : ∃ q, O.kind = q := ⟨_, rfl⟩
        obtain ⟨o1, ho1⟩ : ∃ q, O.n = q := ⟨_, rfl⟩
        obtain ⟨o2, ho2⟩ : ∃ q, O.r.client = q := ⟨_, rfl⟩
        obtain ⟨o3, ho3⟩ : ∃ q, O.r.number = q := ⟨_, rfl⟩
        obtain ⟨o4, ho4⟩ : ∃ q, O.r.tags.length = q := ⟨_, rfl⟩
        obtain ⟨o5, ho5⟩ : ∃ q : ByteArray, (⟨O.r.data.toArray⟩ : ByteArray) = q := ⟨_, rfl⟩
        obtain ⟨o6, ho6⟩ : ∃ q, O.is = q := ⟨_, rfl⟩
        rw [ho0] at p0
        rw [ho1] at p1
        rw [ho2] at p2
        rw [ho3] at p3
        rw [ho4] at p4 ht9
        rw [ho5] at p5
        rw [ho6] at p6
        rw [ho0, ho1, ho2, ho3, ho5, ho6] at hopv
        have HT9 := Lib.hid ht9
        have HSM := Lib.hid hsm
        have HOPV := Lib.hid hopv
        clear hc e2 e3 hbw hsm hopv ht9 hO ho0 ho1 ho2 ho3 ho4 ho5 ho6
        obtain ⟨w5, hw5⟩ : ∃ w5, wr.alloc (.cells #[.int .i64 o0, .int .i64 o1, .int .i64 o2, .int .i64 o3, .slice a1 o4 a3, .string o5, .bool o6] 46) = w5 := ⟨_, rfl⟩
        obtain ⟨V, hV⟩ : ∃ Z, wr.heap.size = Z := ⟨_, rfl⟩
        have hE5 : Ext wr w5 := by rw [← hw5]; exact Ext.alloc _ _
        have hv5 : w5.heap[V]? = some (.cells #[.int .i64 o0, .int .i64 o1, .int .i64 o2, .int .i64 o3, .slice a1 o4 a3, .string o5, .bool o6] 46 (0, 0)) := by rw [← hw5, ← hV]; exact heap_alloc_new _ _
        obtain ⟨ra, rc, hz, htx⟩ := hI.out.2.2.2.1
        have hz5 := heap_ext hz hE5
        have hdo := doRef9_any (segV ra G.s.l.length rc G.s.k G.s.off G.safe) G O (.slice a1 o4 a3) w5 ⟨ra, rc, rfl, htx.ext hE5⟩ hI.out.2.2.2.2 HSM.out (HT9.out.below (HEND.out _ (hI.out.2.1.trans (hE5.mono HBWR.out))))
        rw [HOPV.out] at hdo
        unfold segV at hdo
        obtain ⟨rn, hrn⟩ : ∃ q, G.s.l.length = q := ⟨_, rfl⟩
        obtain ⟨rk, hrk⟩ : ∃ q : Int, (G.s.k : Int) = q := ⟨_, rfl⟩
        obtain ⟨ro, hro⟩ : ∃ q, G.s.off = q := ⟨_, rfl⟩
        obtain ⟨rs, hrs⟩ : ∃ q : Int, (G.safe : Int) = q := ⟨_, rfl⟩
        rw [hrn, hrk, hro, hrs] at hdo hz5
        have HDO := Lib.hid hdo
        have HW5 := Lib.hid (And.intro hw5 (And.intro hV (And.intro hE5 (And.intro hv5 hz5))))
        obtain ⟨x0, x1, x2, x3⟩ := segEnd hz5
        have z0 : w5.cell? ⟨V, 0, none⟩ = some (.int .i64 o0) := cell_of_heap hv5 0
        have z1 : w5.cell? ⟨V, 1, none⟩ = some (.int .i64 o1) := cell_of_heap hv5 1
        have z2 : w5.cell? ⟨V, 2, none⟩ = some (.int .i64 o2) := cell_of_heap hv5 2
        have z3 : w5.cell? ⟨V, 3, none⟩ = some (.int .i64 o3) := cell_of_heap hv5 3
        have z4 : w5.cell? ⟨V, 4, none⟩ = some (.slice a1 o4 a3) := cell_of_heap hv5 4
        have z5 : w5.cell? ⟨V, 5, none⟩ = some (.string o5) := cell_of_heap hv5 5
        have z6 : w5.cell? ⟨V, 6, none⟩ = some (.bool o6) := cell_of_heap hv5 6
        clear hw5 hV hE5 hv5 hz htx hz5 hdo hrn hrk hro hrs
        go_upto_region 12 with fail
        rw [HW5.out.1, HW5.out.2.1]
        go_wp2_with fail
        refine HDO.out.mono ?_
        rintro e w6 ⟨u6, tr, rfl, ⟨na, nc', rfl, ht6⟩, hrow6, hE6⟩
        obtain ⟨G', hG'⟩ : ∃ G', Seg.doS G O = G' := ⟨_, rfl⟩
        rw [hG'] at ht6 ⊢
        obtain ⟨R, hR⟩ : ∃ R, Seg.doR G O = R := ⟨_, rfl⟩
        obtain ⟨er, her⟩ : ∃ R, Seg.doE G O = R := ⟨_, rfl⟩
        have hrow6' := hrow6
        rw [hR] at hrow6' ⊢
        rw [her]
        obtain ⟨ta, tn, tc, rfl⟩ : ∃ x y z, tr = .slice x y z := by
          obtain ⟨b', n', ho⟩ := hrow6
          exact ownSlice ho
        obtain ⟨u0, hu0⟩ : ∃ q : Int, R.client = q := ⟨_, rfl⟩
        obtain ⟨u1, hu1⟩ : ∃ q : Int, R.number = q := ⟨_, rfl⟩
        obtain ⟨u3, hu3⟩ : ∃ q : ByteArray, (⟨R.data.toArray⟩ : ByteArray) = q := ⟨_, rfl⟩
        obtain ⟨nn, hnn⟩ : ∃ q, G'.s.l.length = q := ⟨_, rfl⟩
        obtain ⟨nk, hnk⟩ : ∃ q : Int, (G'.s.k : Int) = q := ⟨_, rfl⟩
        obtain ⟨no, hno⟩ : ∃ q, G'.s.off = q := ⟨_, rfl⟩
        obtain ⟨ns, hns⟩ : ∃ q : Int, (G'.safe : Int) = q := ⟨_, rfl⟩
        simp only [segV, recV, hu0, hu1, hu3, hnn, hnk, hno, hns]
        obtain ⟨w7, hw7⟩ : ∃ w7, (w6.alloc (.cells #[.slice na nn nc', .int .i64 nk, .bool no, .int .i64 ns] 36)).alloc (.cells #[.int .i64 u0, .int .i64 u1, .slice ta tn tc, .string u3] 44) = w7 := ⟨_, rfl⟩
        obtain ⟨S, hS⟩ : ∃ S, w6.heap.size = S := ⟨_, rfl⟩
        have h2 := heap_two w6 (.cells #[.slice na nn nc', .int .i64 nk, .bool no, .int .i64 ns] 36) (.cells #[.int .i64 u0, .int .i64 u1, .slice ta tn tc, .string u3] 44)
        have hE7 : Ext w6 w7 := by rw [← hw7]; exact ext_two _ _ _
        rw [hw7, hS] at h2
        have hz7 := heap_ext HW5.out.2.2.2.2 (hE6.trans hE7)
        have hf8 := set_four hz7 (.slice na nn nc') (.int .i64 nk) (.bool no) (.int .i64 ns)
        obtain ⟨w8, hw8⟩ : ∃ w8, ((((w7.setCell ⟨Z, 0, none⟩ (.slice na nn nc')).setCell ⟨Z, 1, none⟩ (.int .i64 nk)).setCell ⟨Z, 2, none⟩ (.bool no)).setCell ⟨Z, 3, none⟩ (.int .i64 ns)) = w8 := ⟨_, rfl⟩
        rw [hw8] at hf8
        have hE57 := hE6.trans hE7
        have hEr7 : Ext wr w7 := HW5.out.2.2.1.trans hE57
        have hZlt : Z < w5.heap.size := (Array.getElem?_eq_some_iff.1 HW5.out.2.2.2.2).1
        have hne : S + 1 ≠ Z := by have := hE6.size; omega
        have hr8 : w8.heap[S + 1]? = _ := (hf8.2.block _ (Array.getElem?_eq_some_iff.1 h2.2).1 hne).trans h2.2
        have hV8 : w8.heap[V]? = _ := (hf8.2.block _ (Array.getElem?_eq_some_iff.1 (heap_ext HW5.out.2.2.2.1 hE57)).1 (fun e => by
          have h1 := heap_ext HW5.out.2.2.2.1 hE57
          rw [e, hz7] at h1
          injection h1 with h1
          injection h1 with _ h1 _
          exact absurd h1 (by decide))).trans (heap_ext HW5.out.2.2.2.1 hE57)
        have hY8 : w8.heap[Y]? = some (.cells #[.pointer (some ⟨p, 0, none⟩), .pointer (some ⟨g, 0, none⟩)] 29 (0, 0)) := (hf8.2.block _ (Array.getElem?_eq_some_iff.1 (heap_ext hI.out.2.2.1 hEr7)).1 (fun e => by
          have h1 := heap_ext hI.out.2.2.1 hEr7
          rw [e, hz7] at h1
          injection h1 with h1
          injection h1 with _ h1 _
          exact absurd h1 (by decide))).trans (heap_ext hI.out.2.2.1 hEr7)
        have hB7 : Below B W w7 := hI.out.2.1.trans (hEr7.mono HBWR.out)
        have hBs7 : B ≤ w7.heap.size := Nat.le_trans HBWR.out hEr7.size
        have hB8 : Below B W w8 := ⟨hf8.2.os.trans hB7.os, hf8.2.tape.trans hB7.tape, hf8.2.output.trans hB7.output, Nat.le_trans hB7.size hf8.2.size, fun q hq => (hf8.2.block q (Nat.lt_of_lt_of_le hq hBs7) (by have := HW6.out.2.2; omega)).trans (hB7.block q hq)⟩
        have hBs8 : B ≤ w8.heap.size := Nat.le_trans hBs7 hf8.2.size
        have hsg8 : IsSeg w8 B wr.heap.size g p G := (hI.out.1.ext hEr7).butT hz7 (by decide) (by decide) (by decide) (by decide) (by decide) hf8.2
        have hU8 : wr.heap.size ≤ w8.heap.size := Nat.le_trans hEr7.size hf8.2.size
        have hrow8 : RowI w8 (.slice ta tn tc) (Seg.doR G O).tags := (hrow6.ext hE7).but hz7 (by decide) hf8.2
        have htx8 : Txts w8 (.slice na nn nc') G'.s.l := by
          rw [hnn] at ht6
          exact (ht6.ext hE7).butT hz7 (by decide) hf8.2
        have href8 : RefAt9 w8 Z G' := ⟨na, nc', by rw [hnn, hnk, hno, hns]; exact hf8.1, by rw [hnn]; exact htx8⟩
        obtain ⟨va, vp, lv, ps, hsegB⟩ := hsg8
        have hdoes := does9_more hsegB hU8 hI.out.2.2.2.2 O (.slice a1 o4 a3) rfl HSM.out (fun w' ht => HT9.out.below (HEND.out w' (hB8.trans (ht.below hBs8))))
        rw [HOPV.out] at hdoes
        have HDS := Lib.hid hdoes
        have HW7 := Lib.hid (And.intro hw7 (And.intro hS hw8))
        have H8 := Lib.hid (And.intro hr8 (And.intro hY8 (And.intro hB8 (And.intro hBs8 (And.intro hrow8 href8)))))
        have hSU : wr.heap.size ≤ S + 1 := by rw [← hS]; exact Nat.le_trans (HW5.out.2.2.1.trans hE6).size (Nat.le_succ _)
        have HU := Lib.hid (And.intro hu0 (And.intro hu1 (And.intro hu3 (And.intro hR (And.intro her (And.intro hG' (And.intro hSU (hI.out.2.2.2.2.does O))))))))
        have HNN := Lib.hid (And.intro hnn (And.intro hnk (And.intro hno hns)))
        have q0 : w7.cell? ⟨S, 0, none⟩ = some (.slice na nn nc') := cell_of_heap h2.1 0
        have q1 : w7.cell? ⟨S, 1, none⟩ = some (.int .i64 nk) := cell_of_heap h2.1 1
        have q2 : w7.cell? ⟨S, 2, none⟩ = some (.bool no) := cell_of_heap h2.1 2
        have q3 : w7.cell? ⟨S, 3, none⟩ = some (.int .i64 ns) := cell_of_heap h2.1 3
        have Hz7 := Lib.hid hz7
        have hv8' := hV8
        have f0 : w7.frozen? ⟨Z, 0, none⟩ = false := frozen_of_heap hz7 0
        have g0 := cell_of_heap hz7 0
        have f1 : w7.frozen? ⟨Z, 1, none⟩ = false := frozen_of_heap hz7 1
        have g1 := cell_of_heap hz7 1
        have f2 : w7.frozen? ⟨Z, 2, none⟩ = false := frozen_of_heap hz7 2
        have g2 := cell_of_heap hz7 2
        have f3 : w7.frozen? ⟨Z, 3, none⟩ = false := frozen_of_heap hz7 3
        have g3 := cell_of_heap hz7 3
        have y0 : w8.cell? ⟨Y, 0, none⟩ = some (.pointer (some ⟨p, 0, none⟩)) := cell_of_heap hY8 0
        have y1 : w8.cell? ⟨Y, 1, none⟩ = some (.pointer (some ⟨g, 0, none⟩)) := cell_of_heap hY8 1
        have m0 : w8.cell? ⟨V, 0, none⟩ = some (.int .i64 o0) := cell_of_heap hV8 0
        have m1 : w8.cell? ⟨V, 1, none⟩ = some (.int .i64 o1) := cell_of_heap hV8 1
        have m2 : w8.cell? ⟨V, 2, none⟩ = some (.int .i64 o2) := cell_of_heap hV8 2
        have m3 : w8.cell? ⟨V, 3, none⟩ = some (.int .i64 o3) := cell_of_heap hV8 3
        have m4 : w8.cell? ⟨V, 4, none⟩ = some (.slice a1 o4 a3) := cell_of_heap hV8 4
        have m5 : w8.cell? ⟨V, 5, none⟩ = some (.string o5) := cell_of_heap hV8 5
        have m6 : w8.cell? ⟨V, 6, none⟩ = some (.bool o6) := cell_of_heap hV8 6
        clear hw7 hS h2 hE7 hz7 hf8 hw8 hE57 hEr7 hZlt hne hr8 hV8 hv8' hY8 hB7 hBs7 hB8 hBs8 hU8 hrow8 htx8 href8 hsegB hdoes hSU hu0 hu1 hu3 hR her hG' hnn hnk hno hns hrow6 hrow6' ht6 hE6 x0 x1 x2 x3 z0 z1 z2 z3 z4 z5 z6 p0 p1 p2 p3 p4 p5 p6
        go_upto_region 13 with fail
        rw [HW7.out.1, HW7.out.2.1]
        go_upto_region 14 with fail
        rw [HW7.out.2.2]
        clear q0 q1 q2 q3 f0 f1 f2 f3 g0 g1 g2 g3
        go_wp2_with fail
        refine HDS.out.mono ?_
        rintro e w9 ⟨t9, rfl, hrow9, hs9, ht9, hk9, hx9⟩
        rw [HU.out.2.2.2.2.2.1] at hs9
        have hint9 : Ints w9 (.slice ta tn tc) R.tags := by
          rw [← HU.out.2.2.2.1]
          by_cases hk1 : O.kind = 1
          · exact (H8.out.2.2.2.2.1.ext (hx9 hk1)).ints
          · exact recs_none H8.out.2.2.2.2.1 hk1 w9
        rw [HU.out.2.2.2.1] at hrow9
        rw [HU.out.2.2.2.1, HU.out.2.2.2.2.1]
        obtain ⟨xa, xn, xc, rfl⟩ : ∃ x y z, t9 = .slice x y z := by
          obtain ⟨b', n', ho⟩ := hrow9
          exact ownSlice ho
        simp only [recV, HU.out.1, HU.out.2.1, HU.out.2.2.1]
        have hr9 := (ht9.block (S + 1) (Array.getElem?_eq_some_iff.1 H8.out.1).1 (.inr HU.out.2.2.2.2.2.2.1)).trans H8.out.1
        have hY9 := (hk9.2 Y _ _ _ H8.out.2.1 (by decide) (by decide) (by decide) (by decide) (by decide)).trans H8.out.2.1
        have hB9 : Below B W w9 := H8.out.2.2.1.trans (ht9.below H8.out.2.2.2.1)
        have hBs9 : B ≤ w9.heap.size := Nat.le_trans H8.out.2.2.2.1 ht9.size
        have href9 := H8.out.2.2.2.2.2.k9 hk9
        obtain ⟨w10, hw10⟩ : ∃ w10, w9.alloc (.cells #[.int .i64 u0, .int .i64 u1, .slice xa xn xc, .string u3] 44) = w10 := ⟨_, rfl⟩
        obtain ⟨X, hX⟩ : ∃ X, w9.heap.size = X := ⟨_, rfl⟩
        have hE10 : Ext w9 w10 := by rw [← hw10]; exact Ext.alloc _ _
        have hx10 : w10.heap[X]? = some (.cells #[.int .i64 u0, .int .i64 u1, .slice xa xn xc, .string u3] 44 (0, 0)) := by rw [← hw10, ← hX]; exact heap_alloc_new _ _
        have hwant : IsRec w10 (.agg #[.int .i64 u0, .int .i64 u1, .slice ta tn tc, .string u3]) R := by
          rw [← HU.out.1, ← HU.out.2.1, ← HU.out.2.2.1]
          exact ⟨_, rfl, hint9.below hE10⟩
        have hgot : IsRec w10 (.agg #[.int .i64 u0, .int .i64 u1, .slice xa xn xc, .string u3]) R := by
          rw [← HU.out.1, ← HU.out.2.1, ← HU.out.2.2.1]
          exact ⟨_, rfl, hrow9.ints.below hE10⟩
        have hsame := refSame4_any _ _ R R w10 hgot hwant
        rw [Rec.same_self] at hsame
        have HSAME := Lib.hid hsame
        have HW10 := Lib.hid (And.intro hw10 hX)
        have H10 := Lib.hid (And.intro (hs9.ext hE10).full (And.intro (hB9.trans (hE10.mono hBs9)) (And.intro (heap_ext hY9 hE10) (And.intro (href9.ext hE10) (Nat.le_trans hBs9 hE10.size)))))
        have x0 : w10.cell? ⟨X, 0, none⟩ = some (.int .i64 u0) := cell_of_heap hx10 0
        have x1 : w10.cell? ⟨X, 1, none⟩ = some (.int .i64 u1) := cell_of_heap hx10 1
        have x2 : w10.cell? ⟨X, 2, none⟩ = some (.slice xa xn xc) := cell_of_heap hx10 2
        have x3 : w10.cell? ⟨X, 3, none⟩ = some (.string u3) := cell_of_heap hx10 3
        have hr10 := heap_ext hr9 hE10
        have v0 : w10.cell? ⟨S + 1, 0, none⟩ = some (.int .i64 u0) := cell_of_heap hr10 0
        have v1 : w10.cell? ⟨S + 1, 1, none⟩ = some (.int .i64 u1) := cell_of_heap hr10 1
        have v2 : w10.cell? ⟨S + 1, 2, none⟩ = some (.slice ta tn tc) := cell_of_heap hr10 2
        have v3 : w10.cell? ⟨S + 1, 3, none⟩ = some (.string u3) := cell_of_heap hr10 3
        clear hw10 hX hE10 hx10 hwant hgot hsame hr9 hr10 hY9 hB9 hBs9 href9 hint9 hrow9 hs9 ht9 hk9 hx9 y0 y1 m0 m1 m2 m3 m4 m5 m6
        go_upto_region 15 with fail
        rw [HW10.out.1, HW10.out.2]
        go_wp2_with fail
        refine HSAME.out.mono ?_
        rintro e w11 ⟨rfl, hE11⟩
        have hB11 : Below B W w11 := H10.out.2.1.trans (hE11.mono H10.out.2.2.2.2)
        have hY11 := heap_ext H10.out.2.2.1 hE11
        obtain ⟨sa, sc, hz11, htx11⟩ := H10.out.2.2.2.1.ext hE11
        have hst : Calls Tryz.prog 13 #[.pointer (some ⟨g, 0, none⟩), segV sa G'.s.l.length sc G'.s.k G'.s.off G'.safe] w11 fun e w' => e = .returned (.bool true) ∧ Ext w11 w' := by
          obtain ⟨va, vp, lv, ps, hsg⟩ := H10.out.1.ext hE11
          exact stands9_any hsg _ ⟨sa, sc, rfl, htx11⟩
        unfold segV at hst
        rw [HNN.out.1, HNN.out.2.1, HNN.out.2.2.1, HNN.out.2.2.2] at hst hz11
        have HST := Lib.hid hst
        have HE11 := Lib.hid hE11
        have y1 : w11.cell? ⟨Y, 1, none⟩ = some (.pointer (some ⟨g, 0, none⟩)) := cell_of_heap hY11 1
        obtain ⟨r0, r1, r2, r3⟩ := segEnd hz11
        clear hB11 hY11 hz11 htx11 hst hE11 x0 x1 x2 x3 v0 v1 v2 v3
        go_wp2_with fail
        refine HST.out.mono ?_
        rintro e w12 ⟨rfl, hE12⟩
        have hE := HE11.out.trans hE12
        have HI12 := Lib.hid (And.intro (H10.out.1.ext hE).full (And.intro (H10.out.2.1.trans (hE.mono H10.out.2.2.2.2)) (And.intro (heap_ext H10.out.2.2.1 hE) (And.intro (H10.out.2.2.2.1.ext hE) (show G'.Ok by rw [← HU.out.2.2.2.2.2.1]; exact HU.out.2.2.2.2.2.2.2)))))
        clear hE12 hE y1 r0 r1 r2 r3
        go_wp2_with fail
        go_roundw
        case rel => exact ⟨k + 1, G', by omega, by go_num, HI12⟩
        case measure => simp [intOf]; omega
      · obtain rfl : k = n := by omega
        go_wp2_with fail
        refine (alive9_any wr).mono ?_
        rintro e wl ⟨rfl, hEl⟩
        have hfin := (HEND.out wr hI.out.2.1).trans (hEl.mono (HEND.out wr hI.out.2.1).size)
        clear hEl
        go_wp2_with fail
        go_ret
        exact ⟨rfl, hfin⟩

namespace segmentAll
theorem own : ownKnob Tryz.prog.godebug = none := by kernel_rfl
theorem laidOut : laidOutB Tryz.prog = true := by kernel_rfl
set_option linter.unusedVariables false in
set_option maxRecDepth 100000 in
theorem lifted (os : Os) (started : os.Started) (H : Type) (enc : TypeId × Value → H) :
    ReturnsInHanded {} Tryz.checked os 3 .any (Rows.segmentAllSpec.pre6 enc Tryz.prog Tryz.f3 Rows.segmentAllRow.domain false) (Rows.segmentAllSpec.post enc Tryz.prog Tryz.f3 false true false false) := by
  refine returnsInHanded_of_change_sized (C := Tryz.checked) own started (by kernel_rfl) Tryz.func3
    (ChangeSpec.witness6 (enc := enc) (C := Tryz.checked) false ⟨#[], #[.slice none 0 0, .slice none 0 0], []⟩ 8 (by kernel_rfl) (by kernel_rfl) (by kernel_rfl) (by kernel_rfl)) ?_
  intro W base args ds gs before hval0 hW hcnd hsz _
  have hval : ∀ (j : Nat) t v, Tryz.f3.params[j]? = some t → args[j]? = some v → Value.okWide Tryz.prog W .any base t v := hval0
  have hW' := hW
  obtain ⟨p, q, hA0, hV, rfl, hfz, hnd⟩ := hW'
  have hA : DataW.TrodAll enc Tryz.prog W 0 (fun _ => true) true Tryz.f3.params.toList args.toList ds p := hA0
  rw [Tryz.params3] at hA hval
  obtain ⟨v0, vs0, d0, ds0, p0, q0, hargs, rfl, rfl, h0, r0⟩ := trodAll_cons hA
  obtain ⟨v1, vs1, d1, ds1, p1, q1, rfl, rfl, rfl, h1, r1⟩ := trodAll_cons r0
  obtain ⟨rfl, rfl, rfl⟩ := trodAll_nil r1
  obtain rfl : args = #[v0, v1] := by cases args; simp_all
  obtain ⟨rfl, rfl⟩ := trodVars_none hV
  have k0 := h0
  have lt0 : ∀ x ∈ p0, x.block < W.heap.size := by obtain ⟨m, hm⟩ := k0; exact DataW.trod_lt m _ _ _ hm
  obtain ⟨a0, len0, cap0, rfl⟩ := okWide_slice Tryz.underlying22 (hval 0 22 v0 rfl rfl)
  obtain ⟨l0, w0⟩ : ∃ l, Bytes W (.slice a0 len0 cap0) l := by
    obtain ⟨fuel, hf⟩ := h0
    obtain ⟨v, l, hcs, hb⟩ := bytes_of_raw Tryz.underlying22 Tryz.underlying5 (by kernel_rfl) hf
    simp [Value.cells] at hcs
    subst hcs
    exact ⟨l, hb⟩
  have sz0 : len0 * 1 ≤ 140737488351232 := by obtain ⟨fuel, hf⟩ := h0; exact reach_of_raw (P := Tryz.prog) (x := (d0, p0)) (j := 0) hsz (by rw [Tryz.params3]; rfl) rfl Tryz.underlying22 (by kernel_rfl) hf
  have k1 := h1
  have lt1 : ∀ x ∈ p1, x.block < W.heap.size := by obtain ⟨m, hm⟩ := k1; exact DataW.trod_lt m _ _ _ hm
  obtain ⟨a1, len1, cap1, rfl⟩ := okWide_slice Tryz.underlying23 (hval 1 23 v1 rfl rfl)
  obtain ⟨l1, w1, f1⟩ : ∃ l, Ops9 W (.slice a1 len1 cap1) l ∧ ∀ o ∈ l, o.Small := by
    obtain ⟨fuel, hf⟩ := h1
    obtain ⟨v, l, hcs, hb, hft⟩ := ops9_of_raw (x := (d1, p1)) hf (fun m hm => of_decide_eq_true (List.all_eq_true.1 hsz _ (DataW.weights_mem_each (j := 1) (by rw [Tryz.params3]; rfl) rfl m hm)))
    simp [Value.cells] at hcs
    subst hcs
    exact ⟨l, hb, hft⟩
  clear hA0 hval0
  refine (segmentAll_walk _ l0 a1 len1 cap1 l1 W w0 w1 f1).mono fun e W' ⟨he, bel⟩ => ?_
  subst he
  exact ⟨_, rfl, _, _, _, [], _, [], hW, trodAll_mk1 (shut_bool Tryz.underlying4 _), (trodAll_cons_mk (Below.trod laidOut (by kernel_rfl) (of_decide_eq_true (by kernel_rfl)) k0 bel lt0) (trodAll_cons_mk (Below.trod laidOut (by kernel_rfl) (of_decide_eq_true (by kernel_rfl)) k1 bel lt1) trodAll_mk0)), rfl, bel.frame _, fun h => by cases h⟩
theorem over : Rows.segmentAllRow.holds Tryz.pinned (OpenSpec.ofChange Rows.segmentAllSpec) :=
  OpenClaim.holds_of_wide 3 Tryz.f3 rfl rfl rfl rfl rfl rfl rfl ⟨rfl, rfl, rfl, rfl, rfl⟩ rfl rfl rfl rfl rfl (by kernel_rfl) Tryz.func3 (by kernel_rfl)
    (of_decide_eq_true (by kernel_rfl)) (by unfold Func.isWrapper; first | (rw [if_pos (by decide +kernel)]; kernel_rfl) | (rw [if_neg (by decide +kernel)]; exact ⟨rfl, rfl⟩))
    (fun os started H enc _ => lifted os started H enc)
theorem proved : Rows.SegmentAllSaid := over
end segmentAll
end Go.Proofs.YtfgjhagfpafmoaaGreat
