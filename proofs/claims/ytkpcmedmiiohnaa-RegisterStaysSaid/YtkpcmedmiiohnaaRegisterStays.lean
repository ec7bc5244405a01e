/-
  RegisterStays: what was installed stays, whatever is installed later; the same once more changes nothing: for every input the statement's function returns true, and leaves what came in as it was.
-/
import Derived.Test.YtkpcmedmiiohnaaBsRgM
namespace Go.Proofs.Ytkpcmedmiiohnaa
set_option linter.unusedSimpArgs false
set_option linter.unusedVariables false
open Go.ChangeShapes Go.WideShapes Go.ChangeAt Go.RowKit

set_option maxRecDepth 100000 in
set_option maxHeartbeats 20000000 in
theorem registerStays_walk (cv : Value) (c : Term.C) (a : Option Addr) (len cap : Nat) (l : List Reg.Op) (W : World) (hcv : IsConf W cv c) (hv : Ops14 W (.slice a len cap) l) (hwd : ∀ o ∈ l, o.Wide) :
    Calls Try.prog 4 #[cv, .slice a len cap] W fun e W' => e = .returned (.bool true) ∧ Below W.heap.size W W' := by
  obtain ⟨hn, hcap, hmax⟩ := hv.len
  have HCV := Lib.hid hcv
  have HV := Lib.hid hv
  have HWD := Lib.hid hwd
  have HN := Lib.hid hn
  obtain ⟨s, d, rfl, hs, hd⟩ := hcv
  obtain ⟨a0, n0, k0, rfl⟩ := hs.isSlice
  obtain ⟨a1, k1, rfl, _⟩ := hd.open
  obtain ⟨n1, hn1⟩ : ∃ z, c.shards.length = z := ⟨_, rfl⟩
  obtain ⟨tc, htc⟩ : ∃ z, c.term = z := ⟨_, rfl⟩
  unfold confV at HCV ⊢
  rw [hn1, htc] at HCV ⊢
  have hbad : ∀ w1, Ext W w1 → Calls Try.prog 8 #[] w1 fun e w' => e = .returned (.bool true) ∧ Below W.heap.size W w' := fun w1 h => (alive14_any w1).mono fun e w' q => ⟨q.1, h.trans q.2⟩
  have HBAD := Lib.hid hbad
  obtain ⟨w1, hw1⟩ : ∃ z, W.alloc (.cells #[.int .i64 tc, .slice a0 n0 k0, .slice a1 n1 k1] 25) = z := ⟨_, rfl⟩
  obtain ⟨q, hq⟩ : ∃ z, W.heap.size = z := ⟨_, rfl⟩
  have hE1 : Ext W w1 := by rw [← hw1]; exact Ext.alloc _ _
  have hc1 : w1.heap[q]? = some (.cells #[.int .i64 tc, .slice a0 n0 k0, .slice a1 n1 k1] 25 (0, 0)) := by rw [← hw1, ← hq]; exact heap_alloc_new _ _
  have HW1 := Lib.hid (And.intro hw1 hq)
  have HE1 := Lib.hid (And.intro hE1 hc1)
  have y0 := cell_of_heap hc1 0
  have y1 := cell_of_heap hc1 1
  have y2 := cell_of_heap hc1 2
  simp only [List.getElem?_toArray, List.getElem?_cons_zero, List.getElem?_cons_succ] at y0 y1 y2
  have hnew := new14_any _ c w1 (HCV.out.below hE1)
  have HNEW := Lib.hid hnew
  clear hn hs hd hE1 hw1 hq hc1 htc hn1 hbad hnew hv hwd
  go_enter Try.func4, Try.ntmps4
  go_upto_region 1 with fail
  rw [HW1.out.1, HW1.out.2]
  go_wp2_with fail
  refine HNEW.out.mono ?_
  rintro e w2 (⟨hn, rfl, hE2⟩ | ⟨p, hcr, rfl, hr, hE2⟩)
  · have HE2 := Lib.hid (HE1.out.1.trans hE2)
    clear hE2
    go_wp2_with fail
    refine (HBAD.out _ HE2.out).mono ?_
    rintro e w3 ⟨rfl, hE3⟩
    go_wp2_with fail
    go_ret
    exact ⟨rfl, hE3⟩
  obtain ⟨B, hB⟩ : ∃ z, w1.heap.size = z := ⟨_, rfl⟩
  rw [hB] at hr
  have hst2 : Seat14 W B p [⟨c, [], 0⟩] w2 := ⟨hr, HE1.out.1.trans hE2, by rw [← hB]; exact HE1.out.1.size, by rw [← hB]; exact hE2.size, fun x hx => by rw [List.mem_singleton.1 hx]; simp⟩
  have HST2 := Lib.hid hst2
  have z0 := cellExt hE2 y0
  have z1 := cellExt hE2 y1
  have z2 := cellExt hE2 y2
  clear hr hE2 hst2 y0 y1 y2 hB
  go_wp2_with fail
  refine (few14_any _ c _ l w2 (HCV.out.below HST2.out.ext) (HV.out.below HST2.out.ext)).mono ?_
  rintro e w3 ⟨⟨b, rfl⟩, hE3⟩
  have HST3 := Lib.hid (HST2.out.later hE3)
  clear hE3 z0 z1 z2
  cases b with
  | false =>
    go_wp2_with fail
    refine (HBAD.out _ HST3.out.ext).mono ?_
    rintro e w3 ⟨rfl, hE3⟩
    go_wp2_with fail
    go_ret
    exact ⟨rfl, hE3⟩
  | true =>
    go_wp2_with fail
    go_loopw [35] (fun i wx => ∃ (k : Nat) (R : List Reg.Row) (wr : World), wr = wx ∧ k ≤ len ∧ i = .int .i64 k ∧ Hid (Seat14 W B p R wr)) (fun i _ => len - (intOf i).toNat)
    case atStart => exact ⟨0, _, _, rfl, by omega, rfl, HST3⟩
    case round =>
      obtain ⟨k, R, wo, hwo, hk, rfl, hI⟩ := hrel
      subst hwo
      by_cases hlt : k < len
      case neg =>
        obtain rfl : k = len := by omega
        go_wp2_with fail
        refine (HBAD.out _ hI.out.ext).mono ?_
        rintro e w3 ⟨rfl, hE3⟩
        go_wp2_with fail
        go_ret
        exact ⟨rfl, hE3⟩
      have hkl : k < l.length := by rw [← HN.out]; exact hlt
      obtain ⟨b, off, b1, m1, d1, b2, m2, d2, b3, m3, d3, rfl, hop⟩ := HV.out.at k hkl
      have hwide := HWD.out _ (List.getElem_mem hkl)
      obtain ⟨o, hO⟩ : ∃ o, l[k] = o := ⟨_, rfl⟩
      rw [hO] at hop hwide
      have HOP := Lib.hid hop
      have HWI := Lib.hid hwide
      obtain ⟨p0, p1, p2, p3, _, _, _⟩ := hop.below hI.out.ext
      obtain ⟨OT, hOT⟩ : ∃ z, o.c.term = z := ⟨_, rfl⟩
      rw [hOT] at p0
      have HOT := Lib.hid hOT
      obtain ⟨w4, hw4⟩ : ∃ z, wo.alloc (.cells #[.int .i64 OT, .slice b1 m1 d1, .slice b2 m2 d2, .slice b3 m3 d3] 41) = z := ⟨_, rfl⟩
      obtain ⟨r, hr⟩ : ∃ z, wo.heap.size = z := ⟨_, rfl⟩
      have hE4 : Ext wo w4 := by rw [← hw4]; exact Ext.alloc _ _
      have hB4 : w4.heap[r]? = some (.cells #[.int .i64 OT, .slice b1 m1 d1, .slice b2 m2 d2, .slice b3 m3 d3] 41 (0, 0)) := by rw [← hw4, ← hr]; exact heap_alloc_new _ _
      have HW4 := Lib.hid (And.intro hw4 hr)
      have HB4 := Lib.hid hB4
      have HST4 := Lib.hid (hI.out.later hE4)
      obtain ⟨x, hx⟩ := hI.out.reg.ok.look_current
      have HX := Lib.hid hx
      clear hop hwide hO hOT hw4 hr hE4 hB4 hI hx hkl
      go_upto_region 7 with fail
      rw [HW4.out.1, HW4.out.2]
      go_wp2_with fail
      clear p0 p1 p2 p3
      refine (current14_any HST4.out.reg).mono ?_
      rintro e w5 ⟨rfl, hE5⟩
      obtain ⟨C0, hC0⟩ : ∃ z, Reg.current R = z := ⟨_, rfl⟩
      have HC0 := Lib.hid hC0
      rw [hC0]
      have HST5 := Lib.hid (HST4.out.later hE5)
      have HB5 := Lib.hid (heap_ext HB4.out hE5)
      clear hE5 hC0
      go_wp2_with fail
      refine (HST5.out.row C0).mono ?_
      rintro e w6 hg
      obtain ⟨hE6, u1, v1, t1, u2, v2, t2, u3, v3, t3, rfl, ho1, ho2, ho3⟩ := hg.some (by rw [← HC0.out]; exact HX.out)
      obtain ⟨XT, hXT⟩ : ∃ z, x.c.term = z := ⟨_, rfl⟩
      rw [hXT]
      obtain ⟨ov, hov⟩ : ∃ z, decide (C0 < Reg.current R) = z := ⟨_, rfl⟩
      rw [hov]
      obtain ⟨w7, hw7⟩ : ∃ z, w6.alloc (.cells #[.int .i64 XT, .slice u1 v1 t1, .slice u2 v2 t2, .slice u3 v3 t3, .bool ov] 56) = z := ⟨_, rfl⟩
      obtain ⟨rx, hrx⟩ : ∃ z, w6.heap.size = z := ⟨_, rfl⟩
      have hE7 : Ext w6 w7 := by rw [← hw7]; exact Ext.alloc _ _
      have hB7 : w7.heap[rx]? = some (.cells #[.int .i64 XT, .slice u1 v1 t1, .slice u2 v2 t2, .slice u3 v3 t3, .bool ov] 56 (0, 0)) := by rw [← hw7, ← hrx]; exact heap_alloc_new _ _
      have HW7 := Lib.hid (And.intro hw7 hrx)
      have HB7 := Lib.hid (And.intro hB7 (heap_ext HB5.out (hE6.trans hE7)))
      have HST7 := Lib.hid (HST5.out.later (hE6.trans hE7))
      have HXX := Lib.hid (And.intro hXT (And.intro (rowExt ho1 hE7) (ho2.ext hE7)))
      clear hg hE6 hXT hov hw7 hrx hE7 hB7 ho1 ho2 ho3
      go_upto_region 9 with fail
      rw [HW7.out.1, HW7.out.2]
      refine wp_region_tail (by kernel_rfl) 6 Ext (fun iop v w => match iop with
          | 0 => v = .pointer (some ⟨p, 0, none⟩)
          | 1 => v = .pointer (some ⟨r, 0, none⟩)
          | 2 => v = .agg #[.int .i64 OT, .slice b1 m1 d1, .slice b2 m2 d2]
          | 3 => v = .pointer (some ⟨r, 3, none⟩)
          | 4 => v = .slice b3 m3 d3
          | _ => ∃ a n c, v = .slice a n c ∧ Ents w (.slice a n c) o.tail
          ) (by kernel_rfl) (by kernel_rfl) (by decide) (fun _ _ _ h k => Ext.trans h k) (fun a => Ext.refl a) (Ext.drew _) ?_ ?_ ?_
      · intro iop v wa wb hF hL
        iterate 5 (rcases iop with _ | iop; exact hF)
        (first | exact hF | (obtain ⟨a, n, c, h1, h2⟩ := hF; exact ⟨a, n, c, h1, h2.below hL⟩))
      · refine Obls.cons ?_ (Obls.cons ?_ (Obls.cons ?_ (Obls.cons ?_ (Obls.cons ?_ (Obls.cons ?_ (Obls.nil))))))
        · intro ev wy hp hl hk hd
          have e5 : ev _ = .pointer (some ⟨p, 0, none⟩) := hk 5 (by decide)
          exact Yield.mv rfl ⟨Ext.refl _, e5⟩
        · intro ev wy hp hl hk hd
          have e8 : ev _ = .pointer (some ⟨r, 0, none⟩) := hk 8 (by decide)
          exact Yield.oq (by simp [execOp, go_sem, e8])
        · intro ev wy hp hl hk hd
          have e48 : ev _ = _ := hk 48 (by decide)
          exact Yield.op (v := .agg #[.int .i64 OT, .slice b1 m1 d1, .slice b2 m2 d2]) (w' := wy) (by simp [execOp, go_sem, e48, show ∀ j, wy.cell? ⟨r, j, none⟩ = _ from fun j => cell_of_heap (heap_ext HB7.out.2 hl) j]) ⟨Ext.refl _, rfl⟩
        · intro ev wy hp hl hk hd
          have e8 : ev _ = .pointer (some ⟨r, 0, none⟩) := hk 8 (by decide)
          exact Yield.oq (by simp [execOp, go_sem, e8])
        · intro ev wy hp hl hk hd
          have e50 : ev _ = _ := hk 50 (by decide)
          exact Yield.op (v := .slice b3 m3 d3) (w' := wy) (by simp [execOp, go_sem, e50, show ∀ j, wy.cell? ⟨r, j, none⟩ = _ from fun j => cell_of_heap (heap_ext HB7.out.2 hl) j]) ⟨Ext.refl _, rfl⟩
        · intro ev wy hp hl hk hd
          have e51 : ev _ = _ := hk 51 (by decide)
          refine Yield.call rfl hp Try.func13 rfl (by kernel_rfl) ?_
          simp only [List.map_toArray, List.map_cons, List.map_nil, e51]
          exact (mine14_any (.slice b3 m3 d3) o.tail wy (HOP.out.tail.below (HST7.out.ext.trans hl)) (by have := HWI.out.2; omega)).mono fun e w' ⟨u, he, ho, hE⟩ => by
            obtain ⟨x1, x2, hx⟩ := ho.isSlice
            subst hx
            exact ⟨_, he, hE, _, _, _, rfl, ho.ents hE⟩
      · intro vals wz hz hv
        have g47 : vals 0 = _ := hv 0 (by decide)
        have g48 : vals 1 = _ := hv 1 (by decide)
        have g49 : vals 2 = _ := hv 2 (by decide)
        have g50 : vals 3 = _ := hv 3 (by decide)
        have g51 : vals 4 = _ := hv 4 (by decide)
        have g52 : (fun (v : Value) (w : World) => ∃ a n c, v = .slice a n c ∧ Ents w (.slice a n c) o.tail) (vals 5) wz := hv 5 (by decide)
        clear hv
        simp only [List.take_succ_cons, List.take_zero, List.drop_succ_cons, List.drop_zero]
        simp only [putAll, Act.put, List.setIfInBounds_toArray, List.set_cons_zero, List.set_cons_succ, g47, g48, g49, g50, g51]
        clear g47 g48 g49 g50 g51
        generalize vals 5 = v52 at *
        obtain ⟨e1, e2, e3, rfl, hent⟩ := g52
        have hins := (HST7.out.later hz).install (.slice b1 m1 d1) (.slice b2 m2 d2) (.slice e1 e2 e3) o.c o.tail HOP.out.seqs HOP.out.shards hent (by have := HWI.out.2; omega) HWI.out.1
        rw [HOT.out] at hins
        have HINS := Lib.hid hins
        have HZ := Lib.hid hz
        clear hins hent hz
        go_wp2_with fail
        refine HINS.out.mono ?_
        rintro e w9 ⟨code, R', rfl, hin, hst9, hkp, _⟩
        obtain ⟨x', y, hx', hy, hyc, hcur⟩ := hin.was HST7.out.reg.ok
        have hxx : x' = x := by
          have := HX.out
          rw [hx'] at this
          injection this
        subst hxx
        have HST9 := Lib.hid hst9
        have HB9 := Lib.hid (And.intro (hkp.at (heap_ext HB7.out.1 HZ.out) (by decide) (by decide)) (hkp.at (heap_ext HB7.out.2 HZ.out) (by decide) (by decide)))
        have HX9 := Lib.hid (And.intro (Keeps14.ints (rowExt HXX.out.2.1 HZ.out) hkp) (Keeps14.rows (HXX.out.2.2.ext HZ.out) hkp))
        have HIN := Lib.hid hin
        have HY := Lib.hid (And.intro hy hyc)
        have HCUR := Lib.hid hcur
        clear hin hst9 hkp hx' hy hyc hcur
        go_wp2_with fail
        refine (HST9.out.row C0).mono ?_
        rintro e w10 hg
        obtain ⟨hE10, f1, f2, f3, f4, f5, f6, f7, f8, f9, rfl, ho1, ho2, ho3⟩ := hg.some (by rw [← HC0.out]; exact HY.out.1)
        rw [HY.out.2] at ho1 ho2 ⊢
        rw [HXX.out.1]
        obtain ⟨ov2, hov⟩ : ∃ z, decide (C0 < Reg.current R') = z := ⟨_, rfl⟩
        rw [hov]
        obtain ⟨w11, hw11⟩ : ∃ z, w10.alloc (.cells #[.int .i64 XT, .slice f1 f2 f3, .slice f4 f5 f6, .slice f7 f8 f9, .bool ov2] 56) = z := ⟨_, rfl⟩
        obtain ⟨ry, hry⟩ : ∃ z, w10.heap.size = z := ⟨_, rfl⟩
        have hE11 : Ext w10 w11 := by rw [← hw11]; exact Ext.alloc _ _
        have hB11 : w11.heap[ry]? = some (.cells #[.int .i64 XT, .slice f1 f2 f3, .slice f4 f5 f6, .slice f7 f8 f9, .bool ov2] 56 (0, 0)) := by rw [← hw11, ← hry]; exact heap_alloc_new _ _
        have hbx := heap_ext HB9.out.1 (hE10.trans hE11)
        have c1 := cell_of_heap hbx 0
        have c2 := cell_of_heap hbx 1
        have c3 := cell_of_heap hbx 2
        have c4 := cell_of_heap hB11 0
        have c5 := cell_of_heap hB11 1
        have c6 := cell_of_heap hB11 2
        simp only [List.getElem?_toArray, List.getElem?_cons_zero, List.getElem?_cons_succ] at c1 c2 c3 c4 c5 c6
        have HW11 := Lib.hid (And.intro hw11 hry)
        have HB11 := Lib.hid (And.intro hB11 (heap_ext HB9.out.2 (hE10.trans hE11)))
        have HST11 := Lib.hid (HST9.out.later (hE10.trans hE11))
        have hsame := same6_any (.agg #[.int .i64 XT, .slice u1 v1 t1, .slice u2 v2 t2]) (.agg #[.int .i64 XT, .slice f1 f2 f3, .slice f4 f5 f6]) x'.c x'.c w11
          ⟨_, _, by unfold confV; rw [HXX.out.1], (show OwnI w11 _ _ x'.c.seqs from rowExt HX9.out.1 (hE10.trans hE11)).ints, (HX9.out.2.ext (hE10.trans hE11)).rows⟩ ⟨_, _, by unfold confV; rw [HXX.out.1], (show OwnI w11 _ _ x'.c.seqs from rowExt ho1 hE11).ints, (ho2.ext hE11).rows⟩
        have hal : Term.alike x'.c x'.c = true := Term.alike_self _
        rw [hal] at hsame
        have HSAME := Lib.hid hsame
        have HOV := Lib.hid hov
        clear hg hE10 hw11 hry hE11 hB11 ho1 ho2 ho3 hbx hsame hal hov
        go_upto_region 11 with fail
        rw [HW11.out.1, HW11.out.2]
        go_wp2_with fail
        refine HSAME.out.mono ?_
        rintro e w12 ⟨rfl, hE12⟩
        have HST12 := Lib.hid (HST11.out.later hE12)
        have HB12 := Lib.hid (And.intro (heap_ext HB11.out.1 hE12) (heap_ext HB11.out.2 hE12))
        clear hE12 c1 c2 c3 c4 c5 c6
        go_wp2_with fail
        refine (current14_any HST12.out.reg).mono ?_
        rintro e w13 ⟨rfl, hE13⟩
        obtain ⟨C1, hC1⟩ : ∃ z, Reg.current R' = z := ⟨_, rfl⟩
        have HC1 := Lib.hid hC1
        rw [hC1]
        have HST13 := Lib.hid (HST12.out.later hE13)
        have HB13 := Lib.hid (And.intro (heap_ext HB12.out.1 hE13) (heap_ext HB12.out.2 hE13))
        have hcur := HCUR.out
        rw [hC1, HC0.out] at hcur
        have HBD := Lib.hid (HST13.out.reg.ok.first_pos)
        clear hE13 hC1
        rcases hcur with rfl | ⟨hc1, rfl⟩
        · by_cases hcode : code = 0
          · subst hcode
            go_upto_region 13 with fail
            have hterm := (Reg.Inst.term HST7.out.reg.ok HIN.out)
            rw [HC1.out, HOT.out] at hterm
            have HAG := Lib.hid (fun code R'' h => Reg.Inst.again HST7.out.reg.ok HIN.out (code := code) (R'' := R'') h)
            obtain ⟨ps, hps, hpsl, hpsi⟩ := flat_of_ents HOP.out.tail
            have HPS := Lib.hid (And.intro hps (And.intro hpsl hpsi))
            clear hps hpsl hpsi
            refine wp_region_marked (by kernel_rfl) Ext (KX14 B) (fun iop v w => match iop with
                | 0 => v = .int .i64 0
                | 1 => v = .bool true
                | 2 => v = .bool true
                | 3 => v = .pointer (some ⟨p, 0, none⟩)
                | 4 => v = .pointer (some ⟨r, 0, none⟩)
                | 5 => v = .agg #[.int .i64 OT, .slice b1 m1 d1, .slice b2 m2 d2]
                | 6 => v = .pointer (some ⟨r, 3, none⟩)
                | 7 => v = .slice b3 m3 d3
                | 8 => ∃ a n c, v = .slice a n c ∧ w.ownsRow 0 63 6 (.slice a n c) ps.length (entFlat ps)
                | 9 => v = .int .i64 0
                | 10 => v = .bool false
                | 11 => v = .bool false
                | 12 => v = .pointer (some ⟨r, 0, none⟩)
                | 13 => v = .pointer (some ⟨r, 0, none⟩)
                | 14 => v = .int .i64 OT
                | 15 => v = .pointer (some ⟨p, 0, none⟩)
                | 16 => v = .int .i64 C1
                | 17 => v = .bool false
                | 18 => v = .bool false
                | _ => v = .bool false
                ) [9] (RegS14 B p R') (by kernel_rfl) (fun _ _ _ h k => KX14.trans h k) (fun a => Ext.refl a) (fun _ _ h => KX14.ext h) (fun _ _ _ h hs => IsReg.ext hs h) (Ext.drew _) HST13.out.reg ?_ ?_ ?_ ?_
            · intro iop v wa wb hF hL
              iterate 8 (rcases iop with _ | iop; exact hF)
              rcases iop with _ | iop; (first | exact hF | (obtain ⟨a, n, c, h1, h2⟩ := hF; exact ⟨a, n, c, h1, Keeps14.row h2 hL.1 (by decide) (by decide)⟩))
              iterate 10 (rcases iop with _ | iop; exact hF)
              exact hF
            · refine Obls2.cons ?_ (Obls2.cons ?_ (Obls2.cons ?_ (Obls2.cons ?_ (Obls2.cons ?_ (Obls2.cons ?_ (Obls2.cons ?_ (Obls2.cons ?_ (Obls2.cons ?_ (Obls2.cons ?_ (Obls2.cons ?_ (Obls2.cons ?_ (Obls2.cons ?_ (Obls2.cons ?_ (Obls2.cons ?_ (Obls2.cons ?_ (Obls2.cons ?_ (Obls2.cons ?_ (Obls2.cons ?_ (Obls2.cons ?_ (Obls2.nil))))))))))))))))))))
              · intro ev wy ls hp hl hS hbh hk hd
                rw [if_neg (by decide)]
                have hc9 : ls 9 = false := Bool.eq_false_iff.2 fun hq => absurd (hbh.closed 1 _ rfl (hbh.closed 2 _ rfl (hbh.closed 9 _ rfl (hq) 2 (by decide)) 1 (by decide)) 0 (by decide)) (by rw [hbh.notyet]; decide)
                have hst := hS
                rw [show stage [9] ls = 0 from by simp [stage, List.filter, hc9]] at hst
                clear hc9 hS hbh
                have e12 : ev _ = .int .i64 0 := hk 12 (by decide)
                exact Yield.mv rfl ⟨Ext.refl _, e12⟩
              · intro ev wy ls hp hl hS hbh hk hd
                rw [if_neg (by decide)]
                have hc9 : ls 9 = false := Bool.eq_false_iff.2 fun hq => absurd (hbh.closed 2 _ rfl (hbh.closed 9 _ rfl (hq) 2 (by decide)) 1 (by decide)) (by rw [hbh.notyet]; decide)
                have hst := hS
                rw [show stage [9] ls = 0 from by simp [stage, List.filter, hc9]] at hst
                clear hc9 hS hbh
                have e92 : ev _ = _ := hk 92 (by decide)
                exact Yield.op (v := .bool true) (w' := wy) (by simp [execOp, go_sem, e92, hp.const]) ⟨Ext.refl _, rfl⟩
              · intro ev wy ls hp hl hS hbh hk hd
                rw [if_neg (by decide)]
                have hc9 : ls 9 = false := Bool.eq_false_iff.2 fun hq => absurd (hbh.closed 9 _ rfl (hq) 2 (by decide)) (by rw [hbh.notyet]; decide)
                have hst := hS
                rw [show stage [9] ls = 0 from by simp [stage, List.filter, hc9]] at hst
                clear hc9 hS hbh
                have e93 : ev _ = _ := hk 93 (by decide)
                exact Yield.mv rfl ⟨Ext.refl _, e93⟩
              · intro ev wy ls hp hl hS hbh hk hd
                rw [if_neg (by decide)]
                have hc9 : ls 9 = false := Bool.eq_false_iff.2 fun hq => absurd (hbh.closed 9 _ rfl (hq) 3 (by decide)) (by rw [hbh.notyet]; decide)
                have hst := hS
                rw [show stage [9] ls = 0 from by simp [stage, List.filter, hc9]] at hst
                clear hc9 hS hbh
                have e5 : ev _ = .pointer (some ⟨p, 0, none⟩) := hk 5 (by decide)
                refine ⟨fun _ _ _ => ?_, fun _ hx hne => absurd hx hne⟩
                exact Yield.mv rfl ⟨Ext.refl _, e5⟩
              · intro ev wy ls hp hl hS hbh hk hd
                rw [if_neg (by decide)]
                have hc9 : ls 9 = false := Bool.eq_false_iff.2 fun hq => absurd (hbh.closed 5 _ rfl (hbh.closed 9 _ rfl (hq) 5 (by decide)) 4 (by decide)) (by rw [hbh.notyet]; decide)
                have hst := hS
                rw [show stage [9] ls = 0 from by simp [stage, List.filter, hc9]] at hst
                clear hc9 hS hbh
                have e8 : ev _ = .pointer (some ⟨r, 0, none⟩) := hk 8 (by decide)
                refine ⟨fun _ _ _ => ?_, fun _ hx hne => absurd hx hne⟩
                exact Yield.op (v := .pointer (some ⟨r, 0, none⟩)) (w' := wy) (by simp [execOp, go_sem, e8]) ⟨Ext.refl _, rfl⟩
              · intro ev wy ls hp hl hS hbh hk hd
                rw [if_neg (by decide)]
                have hc9 : ls 9 = false := Bool.eq_false_iff.2 fun hq => absurd (hbh.closed 9 _ rfl (hq) 5 (by decide)) (by rw [hbh.notyet]; decide)
                have hst := hS
                rw [show stage [9] ls = 0 from by simp [stage, List.filter, hc9]] at hst
                clear hc9 hS hbh
                have e96 : ev _ = _ := hk 96 (by decide)
                refine ⟨fun _ _ _ => ?_, fun _ hx hne => absurd hx hne⟩
                exact Yield.op (v := .agg #[.int .i64 OT, .slice b1 m1 d1, .slice b2 m2 d2]) (w' := wy) (by simp [execOp, go_sem, e96, show ∀ j, wy.cell? ⟨r, j, none⟩ = _ from fun j => cell_of_heap (hl.1.at HB13.out.2 (by decide) (by decide)) j]) ⟨Ext.refl _, rfl⟩
              · intro ev wy ls hp hl hS hbh hk hd
                rw [if_neg (by decide)]
                have hc9 : ls 9 = false := Bool.eq_false_iff.2 fun hq => absurd (hbh.closed 7 _ rfl (hbh.closed 8 _ rfl (hbh.closed 9 _ rfl (hq) 8 (by decide)) 7 (by decide)) 6 (by decide)) (by rw [hbh.notyet]; decide)
                have hst := hS
                rw [show stage [9] ls = 0 from by simp [stage, List.filter, hc9]] at hst
                clear hc9 hS hbh
                have e8 : ev _ = .pointer (some ⟨r, 0, none⟩) := hk 8 (by decide)
                refine ⟨fun _ _ _ => ?_, fun _ hx hne => absurd hx hne⟩
                exact Yield.op (v := .pointer (some ⟨r, 3, none⟩)) (w' := wy) (by simp [execOp, go_sem, e8]) ⟨Ext.refl _, rfl⟩
              · intro ev wy ls hp hl hS hbh hk hd
                rw [if_neg (by decide)]
                have hc9 : ls 9 = false := Bool.eq_false_iff.2 fun hq => absurd (hbh.closed 8 _ rfl (hbh.closed 9 _ rfl (hq) 8 (by decide)) 7 (by decide)) (by rw [hbh.notyet]; decide)
                have hst := hS
                rw [show stage [9] ls = 0 from by simp [stage, List.filter, hc9]] at hst
                clear hc9 hS hbh
                have e98 : ev _ = _ := hk 98 (by decide)
                refine ⟨fun _ _ _ => ?_, fun _ hx hne => absurd hx hne⟩
                exact Yield.op (v := .slice b3 m3 d3) (w' := wy) (by simp [execOp, go_sem, e98, show ∀ j, wy.cell? ⟨r, j, none⟩ = _ from fun j => cell_of_heap (hl.1.at HB13.out.2 (by decide) (by decide)) j]) ⟨Ext.refl _, rfl⟩
              · intro ev wy ls hp hl hS hbh hk hd
                rw [if_neg (by decide)]
                have hc9 : ls 9 = false := Bool.eq_false_iff.2 fun hq => absurd (hbh.closed 9 _ rfl (hq) 8 (by decide)) (by rw [hbh.notyet]; decide)
                have hst := hS
                rw [show stage [9] ls = 0 from by simp [stage, List.filter, hc9]] at hst
                clear hc9 hS hbh
                have e99 : ev _ = _ := hk 99 (by decide)
                refine ⟨fun _ _ _ => ?_, fun _ hx hne => absurd hx hne⟩
                refine Yield.call rfl hp Try.func13 rfl (by kernel_rfl) ?_
                simp only [List.map_toArray, List.map_cons, List.map_nil, e99]
                have hEy : Ext W wy := Below.trans (B := W.heap.size) HST13.out.ext ((hl.2 HST13.out.lt).mono HST13.out.le)
                exact (mine14l_any (.slice b3 m3 d3) ps wy (HPS.out.2.1.below hEy) (fun q hq => (HPS.out.2.2 q hq).below hEy) (by have h1 := HWI.out.2; have h2 := congrArg List.length HPS.out.1; rw [List.length_map] at h2; omega)).mono fun e w' ⟨u, he, ho, hE⟩ => by
                  obtain ⟨x1, x2, x3, hx⟩ := ownSlice ho
                  subst hx
                  exact ⟨_, he, hE, _, _, _, rfl, rowLower ho (Nat.zero_le _)⟩
              · intro ev wy ls hp hl hS hbh hk hd
                rw [if_pos (by decide)]
                have hc9 : ls 9 = false := hbh.notyet
                have hst := hS
                rw [show stage [9] ls = 0 from by simp [stage, List.filter, hc9]] at hst
                have hup : stage [9] (upd ls 9) = 1 := by simp [stage, List.filter, upd, hc9]
                clear hc9 hS hbh
                have e95 : ev _ = _ := hk 95 (by decide)
                have e97 : ev _ = _ := hk 97 (by decide)
                have f100 : (fun (v : Value) (w : World) => ∃ a n c, v = .slice a n c ∧ w.ownsRow 0 63 6 (.slice a n c) ps.length (entFlat ps)) (ev (.tmp 100)) wy := hk 100 (by decide)
                generalize hx100 : ev (.tmp 100) = x100 at *
                refine ⟨fun _ _ _ => ?_, fun _ hx hne => absurd hx hne⟩
                obtain ⟨z1, z2, z3, hz9, ho9⟩ := f100
                refine Yield.call rfl hp Try.func12 rfl (by kernel_rfl) ?_
                simp only [List.map_toArray, List.map_cons, List.map_nil, e95, e97, hx100, hz9]
                have hEy : Ext W wy := Below.trans (B := W.heap.size) HST13.out.ext ((hl.2 HST13.out.lt).mono HST13.out.le)
                have hen : Ents wy (.slice z1 z2 z3) o.tail := by
                  have := ents_of_flat (ps := ps) (v := .slice z1 z2 z3) (fun q hq => (HPS.out.2.2 q hq).below hEy) (SlN.ofOwn ho9)
                  rwa [HPS.out.1] at this
                have hins := (show Seat14 W B p R' wy from ⟨hst, hEy, HST13.out.le, Nat.le_trans HST13.out.lt hl.1.size, HST13.out.small⟩).install (.slice b1 m1 d1) (.slice b2 m2 d2) (.slice z1 z2 z3) o.c o.tail HOP.out.seqs HOP.out.shards hen (by have := HWI.out.2; omega) HWI.out.1
                rw [HOT.out] at hins
                refine hins.mono ?_
                rintro e w' ⟨code, R'', he, hin, hreg, hkp, hbl⟩
                obtain ⟨rfl, rfl⟩ := HAG.out _ _ hin
                exact ⟨_, he, ⟨hkp, fun _ => hbl⟩, rfl, hreg.reg⟩
              · intro ev wy ls hp hl hS hbh hk hd
                rw [if_neg (by decide)]
                have hc9 : ls 9 = true := hbh.ready 9 (by decide)
                have hst := hS
                rw [show stage [9] ls = 1 from by simp [stage, List.filter, hc9]] at hst
                clear hc9 hS hbh
                have e101 : ev _ = _ := hk 101 (by decide)
                refine ⟨fun _ _ _ => ?_, fun _ hx hne => absurd hx hne⟩
                exact Yield.op (v := .bool false) (w' := wy) (by simp [execOp, go_sem, e101, hp.const]) ⟨Ext.refl _, rfl⟩
              · intro ev wy ls hp hl hS hbh hk hd
                rw [if_neg (by decide)]
                have hc9 : ls 9 = true := hbh.ready 9 (by decide)
                have hst := hS
                rw [show stage [9] ls = 1 from by simp [stage, List.filter, hc9]] at hst
                clear hc9 hS hbh
                have e102 : ev _ = _ := hk 102 (by decide)
                refine ⟨fun _ _ _ => ?_, fun _ hx hne => absurd hx hne⟩
                exact Yield.mv rfl ⟨Ext.refl _, e102⟩
              · intro ev wy ls hp hl hS hbh hk hd
                rw [if_neg (by decide)]
                have hc9 : ls 9 = true := hbh.closed 11 _ rfl (hbh.ready 11 (by decide)) 9 (by decide)
                have hst := hS
                rw [show stage [9] ls = 1 from by simp [stage, List.filter, hc9]] at hst
                clear hc9 hS hbh
                have e8 : ev _ = .pointer (some ⟨r, 0, none⟩) := hk 8 (by decide)
                refine ⟨fun _ _ _ => ?_, fun _ hx hne => absurd hx hne⟩
                exact Yield.op (v := .pointer (some ⟨r, 0, none⟩)) (w' := wy) (by simp [execOp, go_sem, e8]) ⟨Ext.refl _, rfl⟩
              · intro ev wy ls hp hl hS hbh hk hd
                rw [if_neg (by decide)]
                have hc9 : ls 9 = true := hbh.closed 11 _ rfl (hbh.ready 11 (by decide)) 9 (by decide)
                have hst := hS
                rw [show stage [9] ls = 1 from by simp [stage, List.filter, hc9]] at hst
                clear hc9 hS hbh
                have e104 : ev _ = _ := hk 104 (by decide)
                refine ⟨fun _ _ _ => ?_, fun _ hx hne => absurd hx hne⟩
                exact Yield.op (v := .pointer (some ⟨r, 0, none⟩)) (w' := wy) (by simp [execOp, go_sem, e104]) ⟨Ext.refl _, rfl⟩
              · intro ev wy ls hp hl hS hbh hk hd
                rw [if_neg (by decide)]
                have hc9 : ls 9 = true := hbh.closed 11 _ rfl (hbh.ready 11 (by decide)) 9 (by decide)
                have hst := hS
                rw [show stage [9] ls = 1 from by simp [stage, List.filter, hc9]] at hst
                clear hc9 hS hbh
                have e105 : ev _ = _ := hk 105 (by decide)
                refine ⟨fun _ _ _ => ?_, fun _ hx hne => absurd hx hne⟩
                exact Yield.op (v := .int .i64 OT) (w' := wy) (by simp [execOp, go_sem, e105, show ∀ j, wy.cell? ⟨r, j, none⟩ = _ from fun j => cell_of_heap (hl.1.at HB13.out.2 (by decide) (by decide)) j]) ⟨Ext.refl _, rfl⟩
              · intro ev wy ls hp hl hS hbh hk hd
                rw [if_neg (by decide)]
                have hc9 : ls 9 = true := hbh.closed 11 _ rfl (hbh.ready 11 (by decide)) 9 (by decide)
                have hst := hS
                rw [show stage [9] ls = 1 from by simp [stage, List.filter, hc9]] at hst
                clear hc9 hS hbh
                have e5 : ev _ = .pointer (some ⟨p, 0, none⟩) := hk 5 (by decide)
                refine ⟨fun _ _ _ => ?_, fun _ hx hne => absurd hx hne⟩
                exact Yield.mv rfl ⟨Ext.refl _, e5⟩
              · intro ev wy ls hp hl hS hbh hk hd
                rw [if_neg (by decide)]
                have hc9 : ls 9 = true := hbh.closed 11 _ rfl (hbh.ready 11 (by decide)) 9 (by decide)
                have hst := hS
                rw [show stage [9] ls = 1 from by simp [stage, List.filter, hc9]] at hst
                clear hc9 hS hbh
                have e107 : ev _ = _ := hk 107 (by decide)
                refine ⟨fun _ _ _ => ?_, fun _ hx hne => absurd hx hne⟩
                refine Yield.call rfl hp Try.func17 rfl (by kernel_rfl) ?_
                simp only [List.map_toArray, List.map_cons, List.map_nil, e107]
                exact (current14_any (show IsReg wy B p R' from hst)).mono fun e w' ⟨he, hE⟩ => ⟨_, he, hE, by rw [HC1.out]⟩
              · intro ev wy ls hp hl hS hbh hk hd
                rw [if_neg (by decide)]
                have hc9 : ls 9 = true := hbh.closed 11 _ rfl (hbh.ready 11 (by decide)) 9 (by decide)
                have hst := hS
                rw [show stage [9] ls = 1 from by simp [stage, List.filter, hc9]] at hst
                clear hc9 hS hbh
                have e106 : ev _ = _ := hk 106 (by decide)
                have e108 : ev _ = _ := hk 108 (by decide)
                refine ⟨fun _ _ _ => ?_, fun _ hx hne => absurd hx hne⟩
                exact Yield.op (v := .bool false) (w' := wy) (by simp [execOp, go_sem, e106, e108]; omega) ⟨Ext.refl _, rfl⟩
              · intro ev wy ls hp hl hS hbh hk hd
                rw [if_neg (by decide)]
                have hc9 : ls 9 = true := hbh.closed 11 _ rfl (hbh.ready 11 (by decide)) 9 (by decide)
                have hst := hS
                rw [show stage [9] ls = 1 from by simp [stage, List.filter, hc9]] at hst
                clear hc9 hS hbh
                have e103 : ev _ = _ := hk 103 (by decide)
                have e109 : ev _ = _ := hk 109 (by decide)
                refine ⟨fun _ _ _ => ?_, fun _ hx hne => absurd hx hne⟩
                exact Yield.pick (t := false) rfl e103 ⟨Ext.refl _, e109⟩
              · intro ev wy ls hp hl hS hbh hk hd
                rw [if_neg (by decide)]
                have hc9 : ls 9 = true := hbh.closed 11 _ rfl (hbh.closed 18 _ rfl (hbh.ready 18 (by decide)) 11 (by decide)) 9 (by decide)
                have hst := hS
                rw [show stage [9] ls = 1 from by simp [stage, List.filter, hc9]] at hst
                clear hc9 hS hbh
                have e94 : ev _ = _ := hk 94 (by decide)
                have e110 : ev _ = _ := hk 110 (by decide)
                exact Yield.pick (t := true) rfl e94 ⟨Ext.refl _, e110⟩
            · decide
            · intro vals wz hz hS hv
              have g92 : vals 0 = _ := hv 0 (by decide)
              have g93 : vals 1 = _ := hv 1 (by decide)
              have g94 : vals 2 = _ := hv 2 (by decide)
              have g95 : vals 3 = _ := hv 3 (by decide)
              have g96 : vals 4 = _ := hv 4 (by decide)
              have g97 : vals 5 = _ := hv 5 (by decide)
              have g98 : vals 6 = _ := hv 6 (by decide)
              have g99 : vals 7 = _ := hv 7 (by decide)
              have g100 : (fun (v : Value) (w : World) => ∃ a n c, v = .slice a n c ∧ w.ownsRow 0 63 6 (.slice a n c) ps.length (entFlat ps)) (vals 8) wz := hv 8 (by decide)
              have g101 : vals 9 = _ := hv 9 (by decide)
              have g102 : vals 10 = _ := hv 10 (by decide)
              have g103 : vals 11 = _ := hv 11 (by decide)
              have g104 : vals 12 = _ := hv 12 (by decide)
              have g105 : vals 13 = _ := hv 13 (by decide)
              have g106 : vals 14 = _ := hv 14 (by decide)
              have g107 : vals 15 = _ := hv 15 (by decide)
              have g108 : vals 16 = _ := hv 16 (by decide)
              have g109 : vals 17 = _ := hv 17 (by decide)
              have g110 : vals 18 = _ := hv 18 (by decide)
              have g111 : vals 19 = _ := hv 19 (by decide)
              clear hv
              simp only [putAll, Act.put, List.setIfInBounds_toArray, List.set_cons_zero, List.set_cons_succ, g92, g93, g94, g95, g96, g97, g98, g99, g101, g102, g103, g104, g105, g106, g107, g108, g109, g110, g111]
              clear g92 g93 g94 g95 g96 g97 g98 g99 g101 g102 g103 g104 g105 g106 g107 g108 g109 g110 g111
              generalize vals 8 = v100 at *
              have HSZ := Lib.hid (show Seat14 W B p R' wz from ⟨(show IsReg wz B p R' from hS), Below.trans (B := W.heap.size) HST13.out.ext ((hz.2 HST13.out.lt).mono HST13.out.le), HST13.out.le, Nat.le_trans HST13.out.lt hz.1.size, HST13.out.small⟩)
              clear hS hz g100
              go_wp2_with fail
              go_roundw
              case rel => exact ⟨k + 1, R', _, rfl, by omega, by go_num, HSZ⟩
              case measure => simp [intOf]; omega
          · go_upto_region 13 with fail
            refine wp_region_facts (by kernel_rfl) Ext (fun iop v w => match iop with
                | 0 => v = .int .i64 code
                | 1 => v = .bool false
                | 2 => v = .bool false
                | 3 => v = undef
                | 4 => v = undef
                | 5 => v = undef
                | 6 => v = undef
                | 7 => v = undef
                | 8 => v = undef
                | 9 => v = undef
                | 10 => v = undef
                | 11 => v = undef
                | 12 => v = undef
                | 13 => v = undef
                | 14 => v = undef
                | 15 => v = undef
                | 16 => v = undef
                | 17 => v = undef
                | 18 => v = undef
                | _ => v = .bool false
                ) (by kernel_rfl) (fun _ _ _ h k => Ext.trans h k) (fun a => Ext.refl a) (Ext.drew _) ?_ ?_ ?_
            · intro iop v wa wb hF hL
              iterate 19 (rcases iop with _ | iop; exact hF)
              exact hF
            · refine Obls.cons ?_ (Obls.cons ?_ (Obls.cons ?_ (Obls.cons ?_ (Obls.cons ?_ (Obls.cons ?_ (Obls.cons ?_ (Obls.cons ?_ (Obls.cons ?_ (Obls.cons ?_ (Obls.cons ?_ (Obls.cons ?_ (Obls.cons ?_ (Obls.cons ?_ (Obls.cons ?_ (Obls.cons ?_ (Obls.cons ?_ (Obls.cons ?_ (Obls.cons ?_ (Obls.cons ?_ (Obls.nil))))))))))))))))))))
              · intro ev wy hp hl hk hd
                have e12 : ev _ = .int .i64 code := hk 12 (by decide)
                exact Yield.mv rfl ⟨Ext.refl _, e12⟩
              · intro ev wy hp hl hk hd
                have e92 : ev _ = _ := hk 92 (by decide)
                exact Yield.op (v := .bool false) (w' := wy) (by simp [execOp, go_sem, e92, hp.const]; exact hcode) ⟨Ext.refl _, rfl⟩
              · intro ev wy hp hl hk hd
                have e93 : ev _ = _ := hk 93 (by decide)
                exact Yield.mv rfl ⟨Ext.refl _, e93⟩
              · intro ev wy hp hl hk hd
                have e5 : ev _ = .pointer (some ⟨p, 0, none⟩) := hk 5 (by decide)
                exact ⟨fun x hx he => (by rw [show x = .bool false from hx] at he; cases he), fun _ _ _ => rfl⟩
              · intro ev wy hp hl hk hd
                have e8 := hk 8 (by decide)
                exact ⟨fun x hx he => (by rw [show x = .bool false from hx] at he; cases he), fun _ _ _ => rfl⟩
              · intro ev wy hp hl hk hd
                have e96 : ev _ = _ := hk 96 (by decide)
                exact ⟨fun x hx he => (by rw [show x = .bool false from hx] at he; cases he), fun _ _ _ => rfl⟩
              · intro ev wy hp hl hk hd
                have e8 := hk 8 (by decide)
                exact ⟨fun x hx he => (by rw [show x = .bool false from hx] at he; cases he), fun _ _ _ => rfl⟩
              · intro ev wy hp hl hk hd
                have e98 : ev _ = _ := hk 98 (by decide)
                exact ⟨fun x hx he => (by rw [show x = .bool false from hx] at he; cases he), fun _ _ _ => rfl⟩
              · intro ev wy hp hl hk hd
                have e99 : ev _ = _ := hk 99 (by decide)
                exact ⟨fun x hx he => (by rw [show x = .bool false from hx] at he; cases he), fun _ _ _ => rfl⟩
              · intro ev wy hp hl hk hd
                have e95 : ev _ = _ := hk 95 (by decide)
                have e97 : ev _ = _ := hk 97 (by decide)
                have e100 : ev _ = _ := hk 100 (by decide)
                exact ⟨fun x hx he => (by rw [show x = .bool false from hx] at he; cases he), fun _ _ _ => rfl⟩
              · intro ev wy hp hl hk hd
                have e101 : ev _ = _ := hk 101 (by decide)
                exact ⟨fun x hx he => (by rw [show x = .bool false from hx] at he; cases he), fun _ _ _ => rfl⟩
              · intro ev wy hp hl hk hd
                have e102 : ev _ = _ := hk 102 (by decide)
                exact ⟨fun x hx he => (by rw [show x = .bool false from hx] at he; cases he), fun _ _ _ => rfl⟩
              · intro ev wy hp hl hk hd
                have e8 := hk 8 (by decide)
                exact ⟨fun x hx he => (by rw [show x = undef from hx] at he; cases he), fun _ _ _ => rfl⟩
              · intro ev wy hp hl hk hd
                have e104 : ev _ = _ := hk 104 (by decide)
                exact ⟨fun x hx he => (by rw [show x = undef from hx] at he; cases he), fun _ _ _ => rfl⟩
              · intro ev wy hp hl hk hd
                have e105 : ev _ = _ := hk 105 (by decide)
                exact ⟨fun x hx he => (by rw [show x = undef from hx] at he; cases he), fun _ _ _ => rfl⟩
              · intro ev wy hp hl hk hd
                have e5 : ev _ = .pointer (some ⟨p, 0, none⟩) := hk 5 (by decide)
                exact ⟨fun x hx he => (by rw [show x = undef from hx] at he; cases he), fun _ _ _ => rfl⟩
              · intro ev wy hp hl hk hd
                have e107 : ev _ = _ := hk 107 (by decide)
                exact ⟨fun x hx he => (by rw [show x = undef from hx] at he; cases he), fun _ _ _ => rfl⟩
              · intro ev wy hp hl hk hd
                have e106 : ev _ = _ := hk 106 (by decide)
                have e108 : ev _ = _ := hk 108 (by decide)
                exact ⟨fun x hx he => (by rw [show x = undef from hx] at he; cases he), fun _ _ _ => rfl⟩
              · intro ev wy hp hl hk hd
                have e103 : ev _ = _ := hk 103 (by decide)
                have e109 : ev _ = _ := hk 109 (by decide)
                exact ⟨fun x hx he => (by rw [show x = .bool false from hx] at he; cases he), fun _ _ _ => rfl⟩
              · intro ev wy hp hl hk hd
                have e94 : ev _ = _ := hk 94 (by decide)
                have e110 : ev _ = _ := hk 110 (by decide)
                exact Yield.pick (t := false) rfl e94 ⟨Ext.refl _, hp.const _⟩
            · intro vals wz hz hv
              have g92 : vals 0 = _ := hv 0 (by decide)
              have g93 : vals 1 = _ := hv 1 (by decide)
              have g94 : vals 2 = _ := hv 2 (by decide)
              have g95 : vals 3 = _ := hv 3 (by decide)
              have g96 : vals 4 = _ := hv 4 (by decide)
              have g97 : vals 5 = _ := hv 5 (by decide)
              have g98 : vals 6 = _ := hv 6 (by decide)
              have g99 : vals 7 = _ := hv 7 (by decide)
              have g100 : vals 8 = _ := hv 8 (by decide)
              have g101 : vals 9 = _ := hv 9 (by decide)
              have g102 : vals 10 = _ := hv 10 (by decide)
              have g103 : vals 11 = _ := hv 11 (by decide)
              have g104 : vals 12 = _ := hv 12 (by decide)
              have g105 : vals 13 = _ := hv 13 (by decide)
              have g106 : vals 14 = _ := hv 14 (by decide)
              have g107 : vals 15 = _ := hv 15 (by decide)
              have g108 : vals 16 = _ := hv 16 (by decide)
              have g109 : vals 17 = _ := hv 17 (by decide)
              have g110 : vals 18 = _ := hv 18 (by decide)
              have g111 : vals 19 = _ := hv 19 (by decide)
              clear hv
              simp only [putAll, Act.put, List.setIfInBounds_toArray, List.set_cons_zero, List.set_cons_succ, g92, g93, g94, g95, g96, g97, g98, g99, g100, g101, g102, g103, g104, g105, g106, g107, g108, g109, g110, g111]
              clear g92 g93 g94 g95 g96 g97 g98 g99 g100 g101 g102 g103 g104 g105 g106 g107 g108 g109 g110 g111
              have HSZ := Lib.hid (HST13.out.later hz)
              clear hz
              go_wp2_with fail
              go_roundw
              case rel => exact ⟨k + 1, R', _, rfl, by omega, by go_num, HSZ⟩
              case measure => simp [intOf]; omega
        · have hne : ¬ C1 = C0 := by omega
          have hov2 : ov2 = true := by rw [← HOV.out, HC1.out]; exact decide_eq_true (by omega)
          subst hov2
          have hwr : IntKind.i64.wrap (C0 + 1) = C0 + 1 := IntWalk.i64_in _ (by have h1 := HBD.out; rw [HC1.out] at h1; have h2 := HST7.out.reg.ok.first_pos; rw [HC0.out] at h2; have h3 := HST7.out.reg.ok.ne; have h4 := HC0.out; unfold Reg.current at h4; omega)
          go_wp2_with fail
          refine (current14_any HST13.out.reg).mono ?_
          rintro e w14 ⟨rfl, hE14⟩
          rw [HC1.out]
          have HST14 := Lib.hid (HST13.out.later hE14)
          have HB14 := Lib.hid (And.intro (heap_ext HB13.out.1 hE14) (heap_ext HB13.out.2 hE14))
          have q1 := cell_of_heap HB14.out.1 4
          simp only [List.getElem?_toArray, List.getElem?_cons_zero, List.getElem?_cons_succ] at q1
          clear hE14
          go_upto_region 13 with fail
          have hterm := (Reg.Inst.term HST7.out.reg.ok HIN.out)
          rw [HC1.out, HOT.out] at hterm
          have HAG := Lib.hid (fun code R'' h => Reg.Inst.again HST7.out.reg.ok HIN.out (code := code) (R'' := R'') h)
          obtain ⟨ps, hps, hpsl, hpsi⟩ := flat_of_ents HOP.out.tail
          have HPS := Lib.hid (And.intro hps (And.intro hpsl hpsi))
          clear hps hpsl hpsi
          refine wp_region_marked (by kernel_rfl) Ext (KX14 B) (fun iop v w => match iop with
              | 0 => v = .int .i64 0
              | 1 => v = .bool true
              | 2 => v = .bool true
              | 3 => v = .pointer (some ⟨p, 0, none⟩)
              | 4 => v = .pointer (some ⟨r, 0, none⟩)
              | 5 => v = .agg #[.int .i64 OT, .slice b1 m1 d1, .slice b2 m2 d2]
              | 6 => v = .pointer (some ⟨r, 3, none⟩)
              | 7 => v = .slice b3 m3 d3
              | 8 => ∃ a n c, v = .slice a n c ∧ w.ownsRow 0 63 6 (.slice a n c) ps.length (entFlat ps)
              | 9 => v = .int .i64 0
              | 10 => v = .bool false
              | 11 => v = .bool false
              | 12 => v = .pointer (some ⟨r, 0, none⟩)
              | 13 => v = .pointer (some ⟨r, 0, none⟩)
              | 14 => v = .int .i64 OT
              | 15 => v = .pointer (some ⟨p, 0, none⟩)
              | 16 => v = .int .i64 C1
              | 17 => v = .bool false
              | 18 => v = .bool false
              | _ => v = .bool false
              ) [9] (RegS14 B p R') (by kernel_rfl) (fun _ _ _ h k => KX14.trans h k) (fun a => Ext.refl a) (fun _ _ h => KX14.ext h) (fun _ _ _ h hs => IsReg.ext hs h) (Ext.drew _) HST14.out.reg ?_ ?_ ?_ ?_
          · intro iop v wa wb hF hL
            iterate 8 (rcases iop with _ | iop; exact hF)
            rcases iop with _ | iop; (first | exact hF | (obtain ⟨a, n, c, h1, h2⟩ := hF; exact ⟨a, n, c, h1, Keeps14.row h2 hL.1 (by decide) (by decide)⟩))
            iterate 10 (rcases iop with _ | iop; exact hF)
            exact hF
          · refine Obls2.cons ?_ (Obls2.cons ?_ (Obls2.cons ?_ (Obls2.cons ?_ (Obls2.cons ?_ (Obls2.cons ?_ (Obls2.cons ?_ (Obls2.cons ?_ (Obls2.cons ?_ (Obls2.cons ?_ (Obls2.cons ?_ (Obls2.cons ?_ (Obls2.cons ?_ (Obls2.cons ?_ (Obls2.cons ?_ (Obls2.cons ?_ (Obls2.cons ?_ (Obls2.cons ?_ (Obls2.cons ?_ (Obls2.cons ?_ (Obls2.nil))))))))))))))))))))
            · intro ev wy ls hp hl hS hbh hk hd
              rw [if_neg (by decide)]
              have hc9 : ls 9 = false := Bool.eq_false_iff.2 fun hq => absurd (hbh.closed 1 _ rfl (hbh.closed 2 _ rfl (hbh.closed 9 _ rfl (hq) 2 (by decide)) 1 (by decide)) 0 (by decide)) (by rw [hbh.notyet]; decide)
              have hst := hS
              rw [show stage [9] ls = 0 from by simp [stage, List.filter, hc9]] at hst
              clear hc9 hS hbh
              have e12 : ev _ = .int .i64 0 := hk 12 (by decide)
              exact Yield.mv rfl ⟨Ext.refl _, e12⟩
            · intro ev wy ls hp hl hS hbh hk hd
              rw [if_neg (by decide)]
              have hc9 : ls 9 = false := Bool.eq_false_iff.2 fun hq => absurd (hbh.closed 2 _ rfl (hbh.closed 9 _ rfl (hq) 2 (by decide)) 1 (by decide)) (by rw [hbh.notyet]; decide)
              have hst := hS
              rw [show stage [9] ls = 0 from by simp [stage, List.filter, hc9]] at hst
              clear hc9 hS hbh
              have e92 : ev _ = _ := hk 92 (by decide)
              exact Yield.op (v := .bool true) (w' := wy) (by simp [execOp, go_sem, e92, hp.const]) ⟨Ext.refl _, rfl⟩
            · intro ev wy ls hp hl hS hbh hk hd
              rw [if_neg (by decide)]
              have hc9 : ls 9 = false := Bool.eq_false_iff.2 fun hq => absurd (hbh.closed 9 _ rfl (hq) 2 (by decide)) (by rw [hbh.notyet]; decide)
              have hst := hS
              rw [show stage [9] ls = 0 from by simp [stage, List.filter, hc9]] at hst
              clear hc9 hS hbh
              have e93 : ev _ = _ := hk 93 (by decide)
              exact Yield.mv rfl ⟨Ext.refl _, e93⟩
            · intro ev wy ls hp hl hS hbh hk hd
              rw [if_neg (by decide)]
              have hc9 : ls 9 = false := Bool.eq_false_iff.2 fun hq => absurd (hbh.closed 9 _ rfl (hq) 3 (by decide)) (by rw [hbh.notyet]; decide)
              have hst := hS
              rw [show stage [9] ls = 0 from by simp [stage, List.filter, hc9]] at hst
              clear hc9 hS hbh
              have e5 : ev _ = .pointer (some ⟨p, 0, none⟩) := hk 5 (by decide)
              refine ⟨fun _ _ _ => ?_, fun _ hx hne => absurd hx hne⟩
              exact Yield.mv rfl ⟨Ext.refl _, e5⟩
            · intro ev wy ls hp hl hS hbh hk hd
              rw [if_neg (by decide)]
              have hc9 : ls 9 = false := Bool.eq_false_iff.2 fun hq => absurd (hbh.closed 5 _ rfl (hbh.closed 9 _ rfl (hq) 5 (by decide)) 4 (by decide)) (by rw [hbh.notyet]; decide)
              have hst := hS
              rw [show stage [9] ls = 0 from by simp [stage, List.filter, hc9]] at hst
              clear hc9 hS hbh
              have e8 : ev _ = .pointer (some ⟨r, 0, none⟩) := hk 8 (by decide)
              refine ⟨fun _ _ _ => ?_, fun _ hx hne => absurd hx hne⟩
              exact Yield.op (v := .pointer (some ⟨r, 0, none⟩)) (w' := wy) (by simp [execOp, go_sem, e8]) ⟨Ext.refl _, rfl⟩
            · intro ev wy ls hp hl hS hbh hk hd
              rw [if_neg (by decide)]
              have hc9 : ls 9 = false := Bool.eq_false_iff.2 fun hq => absurd (hbh.closed 9 _ rfl (hq) 5 (by decide)) (by rw [hbh.notyet]; decide)
              have hst := hS
              rw [show stage [9] ls = 0 from by simp [stage, List.filter, hc9]] at hst
              clear hc9 hS hbh
              have e96 : ev _ = _ := hk 96 (by decide)
              refine ⟨fun _ _ _ => ?_, fun _ hx hne => absurd hx hne⟩
              exact Yield.op (v := .agg #[.int .i64 OT, .slice b1 m1 d1, .slice b2 m2 d2]) (w' := wy) (by simp [execOp, go_sem, e96, show ∀ j, wy.cell? ⟨r, j, none⟩ = _ from fun j => cell_of_heap (hl.1.at HB14.out.2 (by decide) (by decide)) j]) ⟨Ext.refl _, rfl⟩
            · intro ev wy ls hp hl hS hbh hk hd
              rw [if_neg (by decide)]
              have hc9 : ls 9 = false := Bool.eq_false_iff.2 fun hq => absurd (hbh.closed 7 _ rfl (hbh.closed 8 _ rfl (hbh.closed 9 _ rfl (hq) 8 (by decide)) 7 (by decide)) 6 (by decide)) (by rw [hbh.notyet]; decide)
              have hst := hS
              rw [show stage [9] ls = 0 from by simp [stage, List.filter, hc9]] at hst
              clear hc9 hS hbh
              have e8 : ev _ = .pointer (some ⟨r, 0, none⟩) := hk 8 (by decide)
              refine ⟨fun _ _ _ => ?_, fun _ hx hne => absurd hx hne⟩
              exact Yield.op (v := .pointer (some ⟨r, 3, none⟩)) (w' := wy) (by simp [execOp, go_sem, e8]) ⟨Ext.refl _, rfl⟩
            · intro ev wy ls hp hl hS hbh hk hd
              rw [if_neg (by decide)]
              have hc9 : ls 9 = false := Bool.eq_false_iff.2 fun hq => absurd (hbh.closed 8 _ rfl (hbh.closed 9 _ rfl (hq) 8 (by decide)) 7 (by decide)) (by rw [hbh.notyet]; decide)
              have hst := hS
              rw [show stage [9] ls = 0 from by simp [stage, List.filter, hc9]] at hst
              clear hc9 hS hbh
              have e98 : ev _ = _ := hk 98 (by decide)
              refine ⟨fun _ _ _ => ?_, fun _ hx hne => absurd hx hne⟩
              exact Yield.op (v := .slice b3 m3 d3) (w' := wy) (by simp [execOp, go_sem, e98, show ∀ j, wy.cell? ⟨r, j, none⟩ = _ from fun j => cell_of_heap (hl.1.at HB14.out.2 (by decide) (by decide)) j]) ⟨Ext.refl _, rfl⟩
            · intro ev wy ls hp hl hS hbh hk hd
              rw [if_neg (by decide)]
              have hc9 : ls 9 = false := Bool.eq_false_iff.2 fun hq => absurd (hbh.closed 9 _ rfl (hq) 8 (by decide)) (by rw [hbh.notyet]; decide)
              have hst := hS
              rw [show stage [9] ls = 0 from by simp [stage, List.filter, hc9]] at hst
              clear hc9 hS hbh
              have e99 : ev _ = _ := hk 99 (by decide)
              refine ⟨fun _ _ _ => ?_, fun _ hx hne => absurd hx hne⟩
              refine Yield.call rfl hp Try.func13 rfl (by kernel_rfl) ?_
              simp only [List.map_toArray, List.map_cons, List.map_nil, e99]
              have hEy : Ext W wy := Below.trans (B := W.heap.size) HST14.out.ext ((hl.2 HST14.out.lt).mono HST14.out.le)
              exact (mine14l_any (.slice b3 m3 d3) ps wy (HPS.out.2.1.below hEy) (fun q hq => (HPS.out.2.2 q hq).below hEy) (by have h1 := HWI.out.2; have h2 := congrArg List.length HPS.out.1; rw [List.length_map] at h2; omega)).mono fun e w' ⟨u, he, ho, hE⟩ => by
                obtain ⟨x1, x2, x3, hx⟩ := ownSlice ho
                subst hx
                exact ⟨_, he, hE, _, _, _, rfl, rowLower ho (Nat.zero_le _)⟩
            · intro ev wy ls hp hl hS hbh hk hd
              rw [if_pos (by decide)]
              have hc9 : ls 9 = false := hbh.notyet
              have hst := hS
              rw [show stage [9] ls = 0 from by simp [stage, List.filter, hc9]] at hst
              have hup : stage [9] (upd ls 9) = 1 := by simp [stage, List.filter, upd, hc9]
              clear hc9 hS hbh
              have e95 : ev _ = _ := hk 95 (by decide)
              have e97 : ev _ = _ := hk 97 (by decide)
              have f100 : (fun (v : Value) (w : World) => ∃ a n c, v = .slice a n c ∧ w.ownsRow 0 63 6 (.slice a n c) ps.length (entFlat ps)) (ev (.tmp 100)) wy := hk 100 (by decide)
              generalize hx100 : ev (.tmp 100) = x100 at *
              refine ⟨fun _ _ _ => ?_, fun _ hx hne => absurd hx hne⟩
              obtain ⟨z1, z2, z3, hz9, ho9⟩ := f100
              refine Yield.call rfl hp Try.func12 rfl (by kernel_rfl) ?_
              simp only [List.map_toArray, List.map_cons, List.map_nil, e95, e97, hx100, hz9]
              have hEy : Ext W wy := Below.trans (B := W.heap.size) HST14.out.ext ((hl.2 HST14.out.lt).mono HST14.out.le)
              have hen : Ents wy (.slice z1 z2 z3) o.tail := by
                have := ents_of_flat (ps := ps) (v := .slice z1 z2 z3) (fun q hq => (HPS.out.2.2 q hq).below hEy) (SlN.ofOwn ho9)
                rwa [HPS.out.1] at this
              have hins := (show Seat14 W B p R' wy from ⟨hst, hEy, HST14.out.le, Nat.le_trans HST14.out.lt hl.1.size, HST14.out.small⟩).install (.slice b1 m1 d1) (.slice b2 m2 d2) (.slice z1 z2 z3) o.c o.tail HOP.out.seqs HOP.out.shards hen (by have := HWI.out.2; omega) HWI.out.1
              rw [HOT.out] at hins
              refine hins.mono ?_
              rintro e w' ⟨code, R'', he, hin, hreg, hkp, hbl⟩
              obtain ⟨rfl, rfl⟩ := HAG.out _ _ hin
              exact ⟨_, he, ⟨hkp, fun _ => hbl⟩, rfl, hreg.reg⟩
            · intro ev wy ls hp hl hS hbh hk hd
              rw [if_neg (by decide)]
              have hc9 : ls 9 = true := hbh.ready 9 (by decide)
              have hst := hS
              rw [show stage [9] ls = 1 from by simp [stage, List.filter, hc9]] at hst
              clear hc9 hS hbh
              have e101 : ev _ = _ := hk 101 (by decide)
              refine ⟨fun _ _ _ => ?_, fun _ hx hne => absurd hx hne⟩
              exact Yield.op (v := .bool false) (w' := wy) (by simp [execOp, go_sem, e101, hp.const]) ⟨Ext.refl _, rfl⟩
            · intro ev wy ls hp hl hS hbh hk hd
              rw [if_neg (by decide)]
              have hc9 : ls 9 = true := hbh.ready 9 (by decide)
              have hst := hS
              rw [show stage [9] ls = 1 from by simp [stage, List.filter, hc9]] at hst
              clear hc9 hS hbh
              have e102 : ev _ = _ := hk 102 (by decide)
              refine ⟨fun _ _ _ => ?_, fun _ hx hne => absurd hx hne⟩
              exact Yield.mv rfl ⟨Ext.refl _, e102⟩
            · intro ev wy ls hp hl hS hbh hk hd
              rw [if_neg (by decide)]
              have hc9 : ls 9 = true := hbh.closed 11 _ rfl (hbh.ready 11 (by decide)) 9 (by decide)
              have hst := hS
              rw [show stage [9] ls = 1 from by simp [stage, List.filter, hc9]] at hst
              clear hc9 hS hbh
              have e8 : ev _ = .pointer (some ⟨r, 0, none⟩) := hk 8 (by decide)
              refine ⟨fun _ _ _ => ?_, fun _ hx hne => absurd hx hne⟩
              exact Yield.op (v := .pointer (some ⟨r, 0, none⟩)) (w' := wy) (by simp [execOp, go_sem, e8]) ⟨Ext.refl _, rfl⟩
            · intro ev wy ls hp hl hS hbh hk hd
              rw [if_neg (by decide)]
              have hc9 : ls 9 = true := hbh.closed 11 _ rfl (hbh.ready 11 (by decide)) 9 (by decide)
              have hst := hS
              rw [show stage [9] ls = 1 from by simp [stage, List.filter, hc9]] at hst
              clear hc9 hS hbh
              have e104 : ev _ = _ := hk 104 (by decide)
              refine ⟨fun _ _ _ => ?_, fun _ hx hne => absurd hx hne⟩
              exact Yield.op (v := .pointer (some ⟨r, 0, none⟩)) (w' := wy) (by simp [execOp, go_sem, e104]) ⟨Ext.refl _, rfl⟩
            · intro ev wy ls hp hl hS hbh hk hd
              rw [if_neg (by decide)]
              have hc9 : ls 9 = true := hbh.closed 11 _ rfl (hbh.ready 11 (by decide)) 9 (by decide)
              have hst := hS
              rw [show stage [9] ls = 1 from by simp [stage, List.filter, hc9]] at hst
              clear hc9 hS hbh
              have e105 : ev _ = _ := hk 105 (by decide)
              refine ⟨fun _ _ _ => ?_, fun _ hx hne => absurd hx hne⟩
              exact Yield.op (v := .int .i64 OT) (w' := wy) (by simp [execOp, go_sem, e105, show ∀ j, wy.cell? ⟨r, j, none⟩ = _ from fun j => cell_of_heap (hl.1.at HB14.out.2 (by decide) (by decide)) j]) ⟨Ext.refl _, rfl⟩
            · intro ev wy ls hp hl hS hbh hk hd
              rw [if_neg (by decide)]
              have hc9 : ls 9 = true := hbh.closed 11 _ rfl (hbh.ready 11 (by decide)) 9 (by decide)
              have hst := hS
              rw [show stage [9] ls = 1 from by simp [stage, List.filter, hc9]] at hst
              clear hc9 hS hbh
              have e5 : ev _ = .pointer (some ⟨p, 0, none⟩) := hk 5 (by decide)
              refine ⟨fun _ _ _ => ?_, fun _ hx hne => absurd hx hne⟩
              exact Yield.mv rfl ⟨Ext.refl _, e5⟩
            · intro ev wy ls hp hl hS hbh hk hd
              rw [if_neg (by decide)]
              have hc9 : ls 9 = true := hbh.closed 11 _ rfl (hbh.ready 11 (by decide)) 9 (by decide)
              have hst := hS
              rw [show stage [9] ls = 1 from by simp [stage, List.filter, hc9]] at hst
              clear hc9 hS hbh
              have e107 : ev _ = _ := hk 107 (by decide)
              refine ⟨fun _ _ _ => ?_, fun _ hx hne => absurd hx hne⟩
              refine Yield.call rfl hp Try.func17 rfl (by kernel_rfl) ?_
              simp only [List.map_toArray, List.map_cons, List.map_nil, e107]
              exact (current14_any (show IsReg wy B p R' from hst)).mono fun e w' ⟨he, hE⟩ => ⟨_, he, hE, by rw [HC1.out]⟩
            · intro ev wy ls hp hl hS hbh hk hd
              rw [if_neg (by decide)]
              have hc9 : ls 9 = true := hbh.closed 11 _ rfl (hbh.ready 11 (by decide)) 9 (by decide)
              have hst := hS
              rw [show stage [9] ls = 1 from by simp [stage, List.filter, hc9]] at hst
              clear hc9 hS hbh
              have e106 : ev _ = _ := hk 106 (by decide)
              have e108 : ev _ = _ := hk 108 (by decide)
              refine ⟨fun _ _ _ => ?_, fun _ hx hne => absurd hx hne⟩
              exact Yield.op (v := .bool false) (w' := wy) (by simp [execOp, go_sem, e106, e108]; omega) ⟨Ext.refl _, rfl⟩
            · intro ev wy ls hp hl hS hbh hk hd
              rw [if_neg (by decide)]
              have hc9 : ls 9 = true := hbh.closed 11 _ rfl (hbh.ready 11 (by decide)) 9 (by decide)
              have hst := hS
              rw [show stage [9] ls = 1 from by simp [stage, List.filter, hc9]] at hst
              clear hc9 hS hbh
              have e103 : ev _ = _ := hk 103 (by decide)
              have e109 : ev _ = _ := hk 109 (by decide)
              refine ⟨fun _ _ _ => ?_, fun _ hx hne => absurd hx hne⟩
              exact Yield.pick (t := false) rfl e103 ⟨Ext.refl _, e109⟩
            · intro ev wy ls hp hl hS hbh hk hd
              rw [if_neg (by decide)]
              have hc9 : ls 9 = true := hbh.closed 11 _ rfl (hbh.closed 18 _ rfl (hbh.ready 18 (by decide)) 11 (by decide)) 9 (by decide)
              have hst := hS
              rw [show stage [9] ls = 1 from by simp [stage, List.filter, hc9]] at hst
              clear hc9 hS hbh
              have e94 : ev _ = _ := hk 94 (by decide)
              have e110 : ev _ = _ := hk 110 (by decide)
              exact Yield.pick (t := true) rfl e94 ⟨Ext.refl _, e110⟩
          · decide
          · intro vals wz hz hS hv
            have g92 : vals 0 = _ := hv 0 (by decide)
            have g93 : vals 1 = _ := hv 1 (by decide)
            have g94 : vals 2 = _ := hv 2 (by decide)
            have g95 : vals 3 = _ := hv 3 (by decide)
            have g96 : vals 4 = _ := hv 4 (by decide)
            have g97 : vals 5 = _ := hv 5 (by decide)
            have g98 : vals 6 = _ := hv 6 (by decide)
            have g99 : vals 7 = _ := hv 7 (by decide)
            have g100 : (fun (v : Value) (w : World) => ∃ a n c, v = .slice a n c ∧ w.ownsRow 0 63 6 (.slice a n c) ps.length (entFlat ps)) (vals 8) wz := hv 8 (by decide)
            have g101 : vals 9 = _ := hv 9 (by decide)
            have g102 : vals 10 = _ := hv 10 (by decide)
            have g103 : vals 11 = _ := hv 11 (by decide)
            have g104 : vals 12 = _ := hv 12 (by decide)
            have g105 : vals 13 = _ := hv 13 (by decide)
            have g106 : vals 14 = _ := hv 14 (by decide)
            have g107 : vals 15 = _ := hv 15 (by decide)
            have g108 : vals 16 = _ := hv 16 (by decide)
            have g109 : vals 17 = _ := hv 17 (by decide)
            have g110 : vals 18 = _ := hv 18 (by decide)
            have g111 : vals 19 = _ := hv 19 (by decide)
            clear hv
            simp only [putAll, Act.put, List.setIfInBounds_toArray, List.set_cons_zero, List.set_cons_succ, g92, g93, g94, g95, g96, g97, g98, g99, g101, g102, g103, g104, g105, g106, g107, g108, g109, g110, g111]
            clear g92 g93 g94 g95 g96 g97 g98 g99 g101 g102 g103 g104 g105 g106 g107 g108 g109 g110 g111
            generalize vals 8 = v100 at *
            have HSZ := Lib.hid (show Seat14 W B p R' wz from ⟨(show IsReg wz B p R' from hS), Below.trans (B := W.heap.size) HST14.out.ext ((hz.2 HST14.out.lt).mono HST14.out.le), HST14.out.le, Nat.le_trans HST14.out.lt hz.1.size, HST14.out.small⟩)
            clear hS hz g100
            go_wp2_with fail
            go_roundw
            case rel => exact ⟨k + 1, R', _, rfl, by omega, by go_num, HSZ⟩
            case measure => simp [intOf]; omega

namespace registerStays
theorem own : ownKnob Try.prog.godebug = none := by kernel_rfl
theorem laidOut : laidOutB Try.prog = true := by kernel_rfl
set_option linter.unusedVariables false in
set_option maxRecDepth 100000 in
theorem lifted (os : Os) (started : os.Started) (H : Type) (enc : TypeId × Value → H) :
    ReturnsInHanded {} Try.checked os 4 .any (Rows.registerStaysSpec.pre6 enc Try.prog Try.f4 Rows.registerStaysRow.domain false) (Rows.registerStaysSpec.post enc Try.prog Try.f4 false true false false) := by
  refine returnsInHanded_of_change_sized (C := Try.checked) own started (by kernel_rfl) Try.func4
    (ChangeSpec.witness6 (enc := enc) (C := Try.checked) false ⟨#[], #[.agg #[.int .i64 0, .slice none 0 0, .slice none 0 0], .slice none 0 0], []⟩ 8 (by kernel_rfl) (by kernel_rfl) (by kernel_rfl) (by kernel_rfl)) ?_
  intro W base args ds gs before hval0 hW hcnd hsz _
  have hval : ∀ (j : Nat) t v, Try.f4.params[j]? = some t → args[j]? = some v → Value.okWide Try.prog W .any base t v := hval0
  have hW' := hW
  obtain ⟨p, q, hA0, hV, rfl, hfz, hnd⟩ := hW'
  have hA : DataW.TrodAll enc Try.prog W 0 (fun _ => true) true Try.f4.params.toList args.toList ds p := hA0
  rw [Try.params4] at hA hval
  obtain ⟨v0, vs0, d0, ds0, p0, q0, hargs, rfl, rfl, h0, r0⟩ := trodAll_cons hA
  obtain ⟨v1, vs1, d1, ds1, p1, q1, rfl, rfl, rfl, h1, r1⟩ := trodAll_cons r0
  obtain ⟨rfl, rfl, rfl⟩ := trodAll_nil r1
  obtain rfl : args = #[v0, v1] := by cases args; simp_all
  obtain ⟨rfl, rfl⟩ := trodVars_none hV
  have k0 := h0
  have lt0 : ∀ x ∈ p0, x.block < W.heap.size := by obtain ⟨m, hm⟩ := k0; exact DataW.trod_lt m _ _ _ hm
  obtain ⟨l0, w0⟩ := conf_arg (hval 0 25 v0 rfl rfl) h0
  have k1 := h1
  have lt1 : ∀ x ∈ p1, x.block < W.heap.size := by obtain ⟨m, hm⟩ := k1; exact DataW.trod_lt m _ _ _ hm
  obtain ⟨a1, len1, cap1, rfl⟩ := okWide_slice Try.underlying26 (hval 1 26 v1 rfl rfl)
  obtain ⟨l1, w1, f1⟩ : ∃ l, Ops14 W (.slice a1 len1 cap1) l ∧ ∀ o ∈ l, o.Wide := by
    obtain ⟨fuel, hf⟩ := h1
    obtain ⟨v, l, hcs, hb, hft⟩ := ops14_of_raw (x := (d1, p1)) hf (fun m hm => of_decide_eq_true (List.all_eq_true.1 hsz _ (DataW.weights_mem_each (j := 1) (by rw [Try.params4]; rfl) rfl m hm)))
    simp [Value.cells] at hcs
    subst hcs
    exact ⟨l, hb, hft⟩
  clear hA0 hval0
  refine (registerStays_walk v0 l0 a1 len1 cap1 l1 W w0 w1 f1).mono fun e W' ⟨he, bel⟩ => ?_
  subst he
  exact ⟨_, rfl, _, _, _, [], _, [], hW, trodAll_mk1 (shut_bool Try.underlying4 _), (trodAll_cons_mk (Below.trod laidOut (by kernel_rfl) (of_decide_eq_true (by kernel_rfl)) k0 bel lt0) (trodAll_cons_mk (Below.trod laidOut (by kernel_rfl) (of_decide_eq_true (by kernel_rfl)) k1 bel lt1) trodAll_mk0)), rfl, bel.frame _, fun h => by cases h⟩
theorem over : Rows.registerStaysRow.holds Try.pinned (OpenSpec.ofChange Rows.registerStaysSpec) :=
  OpenClaim.holds_of_wide 4 Try.f4 rfl rfl rfl rfl rfl rfl rfl ⟨rfl, rfl, rfl, rfl, rfl⟩ rfl rfl rfl rfl rfl (by kernel_rfl) Try.func4 (by kernel_rfl)
    (of_decide_eq_true (by kernel_rfl)) (by unfold Func.isWrapper; first | (rw [if_pos (by decide +kernel)]; kernel_rfl) | (rw [if_neg (by decide +kernel)]; exact ⟨rfl, rfl⟩))
    (fun os started H enc _ => lifted os started H enc)
theorem proved : Rows.RegisterStaysSaid := over
end registerStays
end Go.Proofs.Ytkpcmedmiiohnaa
