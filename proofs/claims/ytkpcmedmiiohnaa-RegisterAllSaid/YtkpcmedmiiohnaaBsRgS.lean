/-
  Merged: Layer 14, the statements' helpers: stands.
-/
import Derived.Test.YtkpcmedmiiohnaaBsRgQ
import Derived.Test.YtkpcmedmiiohnaaBsRgR

namespace Go.Proofs.Ytkpcmedmiiohnaa
set_option linter.unusedSimpArgs false
set_option linter.unusedVariables false
set_option maxRecDepth 100000
open Go.RowKit
/- Layer 14, the statements' helpers: stands. -/
set_option maxHeartbeats 16000000 in
theorem stands14_any {W w : World} {B p : Nat} {vL vT : Value} {R : List Reg.Row} (hst : Seat14 W B p R w) (h : RefReg W w vL vT R) :
    Calls Try.prog 14 #[.pointer (some ⟨p, 0, none⟩), .agg #[vL, vT]] w fun e w' => e = .returned (.bool true) ∧ Ext w w' := by
  have hk := hst.reg.ok
  have HK := Lib.hid hk
  have HST := Lib.hid hst
  obtain ⟨g, c, hL, hnc, hcm, hcl⟩ := h.openL hk.ne
  obtain ⟨ta, tc, hT, htc, htm, hct⟩ := h.openT
  obtain ⟨m, hn⟩ : ∃ m, R.length = m + 1 := ⟨R.length - 1, by have := hk.ne; omega⟩
  rw [hn] at hL hnc
  rw [hn, Nat.add_sub_cancel] at hT htc
  subst hL hT
  have HH := Lib.hid h
  have HCL := Lib.hid hcl
  have HCT := Lib.hid hct
  obtain ⟨F, hF⟩ : ∃ z, Reg.first R = z := ⟨_, rfl⟩
  have hcur : Reg.current R = F + (m : Int) := by unfold Reg.current; rw [hF, hn]; omega
  have hfp := hk.first_pos
  rw [hF, hcur] at hfp
  have HN := Lib.hid (And.intro hn (And.intro hF hcur))
  obtain ⟨q, hq⟩ : ∃ z, w.heap.size = z := ⟨_, rfl⟩
  obtain ⟨w1, hw1⟩ : ∃ z, w.alloc (.cells #[.slice (some ⟨g, 0, none⟩) (m + 1) c, .slice ta m tc] 38) = z := ⟨_, rfl⟩
  have hE1 : Ext w w1 := by rw [← hw1]; exact Ext.alloc _ _
  have hB1 : w1.heap[q]? = some (.cells #[.slice (some ⟨g, 0, none⟩) (m + 1) c, .slice ta m tc] 38 (0, 0)) := by rw [← hw1, ← hq]; exact heap_alloc_new _ _
  have HW := Lib.hid (And.intro hq hw1)
  have HE1 := Lib.hid hE1
  have hcells : ∀ wy, Ext w1 wy → wy.cell? ⟨q, 0, none⟩ = some (.slice (some ⟨g, 0, none⟩) (m + 1) c) ∧ wy.cell? ⟨q, 1, none⟩ = some (.slice ta m tc) := fun wy hy =>
    ⟨cell_of_heap (heap_ext hB1 hy) 0, cell_of_heap (heap_ext hB1 hy) 1⟩
  have HCE := Lib.hid hcells
  obtain ⟨z0, z1⟩ := hcells w1 (Ext.refl _)
  obtain ⟨i1, i2, i3, i4, i5, i6, k0, hz0⟩ := hcl m (by omega)
  obtain ⟨l1, l2, l3, l4, l5, l6, f0, hz1⟩ := hcl 0 (by omega)
  have ht0 := hk.term 0 (by omega)
  have htm1 := hk.term m (by omega)
  rw [hF] at ht0 htm1
  rw [htm1] at k0
  rw [ht0] at f0
  replace f0 : w.cell? ⟨g, 0, none⟩ = some (.int .i64 F) := by simpa using f0
  have HC0 := Lib.hid (And.intro (cellExt hE1 k0) (cellExt hE1 f0))
  have k0' := cellExt hE1 k0
  have f0' := cellExt hE1 f0
  have hwm : IntKind.i64.wrap ((m : Int) + 1 - 1) = (m : Int) := by rw [show (m : Int) + 1 - 1 = (m : Int) by omega]; exact IntWalk.i64_in _ (by omega)
  have hwF : IntKind.i64.wrap (F - 1) = F - 1 := IntWalk.i64_in _ (by omega)
  have hwC : IntKind.i64.wrap (F + (m : Int) + 1) = F + (m : Int) + 1 := IntWalk.i64_in _ (by omega)
  have HWW := Lib.hid (And.intro hwm (And.intro hwF hwC))
  clear hk hst h hcl hct hn hF hcur hq hw1 hE1 hB1 hcells hz0 hz1 ht0 htm1 k0 f0 hwF hwC
  go_enter Try.func14, Try.ntmps14
  go_upto_region 1 with fail
  rw [HW.out.1, HW.out.2]
  go_upto_region 2 with fail
  refine wp_region_facts (by kernel_rfl) Ext (fun iop v w => match iop with
      | 0 => v = .pointer (some ⟨p, 0, none⟩)
      | 1 => v = .int .i64 F
      | 2 => v = .pointer (some ⟨q, 0, none⟩)
      | 3 => v = .slice (some ⟨g, 0, none⟩) (m + 1) c
      | 4 => v = .pointer (some ⟨g, 0, none⟩)
      | 5 => v = .pointer (some ⟨g, 0, none⟩)
      | 6 => v = .int .i64 F
      | 7 => v = .bool false
      | 8 => v = .bool false
      | 9 => v = .pointer (some ⟨p, 0, none⟩)
      | 10 => v = .int .i64 (F + (m : Int))
      | 11 => v = .int .i64 (F + (m : Int))
      | 12 => v = .bool false
      | _ => v = .bool false
      ) (by kernel_rfl) (fun _ _ _ h k => Ext.trans h k) (fun a => Ext.refl a) (Ext.drew _) ?_ ?_ ?_
  · intro iop v wa wb hF hL
    iterate 13 (rcases iop with _ | iop; exact hF)
    exact hF
  · refine Obls.cons ?_ (Obls.cons ?_ (Obls.cons ?_ (Obls.cons ?_ (Obls.cons ?_ (Obls.cons ?_ (Obls.cons ?_ (Obls.cons ?_ (Obls.cons ?_ (Obls.cons ?_ (Obls.cons ?_ (Obls.cons ?_ (Obls.cons ?_ (Obls.cons ?_ (Obls.nil))))))))))))))
    · intro ev wy hp hl hk hd
      have e0 : ev _ = .pointer (some ⟨p, 0, none⟩) := hk 0 (by decide)
      exact Yield.mv rfl ⟨Ext.refl _, e0⟩
    · intro ev wy hp hl hk hd
      have e24 : ev _ = _ := hk 24 (by decide)
      refine Yield.call rfl hp Try.func20 rfl (by kernel_rfl) ?_
      simp only [List.map_toArray, List.map_cons, List.map_nil, e24]
      exact (firstE14 HST.out.reg wy (HE1.out.trans hl)).mono fun e w' ⟨he, hE⟩ => ⟨_, he, hE, by rw [HN.out.2.1]⟩
    · intro ev wy hp hl hk hd
      have e3 : ev _ = .pointer (some ⟨q, 0, none⟩) := hk 3 (by decide)
      exact Yield.oq (by simp [execOp, go_sem, e3])
    · intro ev wy hp hl hk hd
      have e26 : ev _ = _ := hk 26 (by decide)
      exact Yield.op (v := .slice (some ⟨g, 0, none⟩) (m + 1) c) (w' := wy) (by simp [execOp, go_sem, e26, (HCE.out wy hl).1]) ⟨Ext.refl _, rfl⟩
    · intro ev wy hp hl hk hd
      have e27 : ev _ = _ := hk 27 (by decide)
      exact Yield.op (v := .pointer (some ⟨g, 0, none⟩)) (w' := wy) (by simp [execOp, go_sem, e27, hp.const]) ⟨Ext.refl _, rfl⟩
    · intro ev wy hp hl hk hd
      have e28 : ev _ = _ := hk 28 (by decide)
      exact Yield.oq (by simp [execOp, go_sem, e28])
    · intro ev wy hp hl hk hd
      have e29 : ev _ = _ := hk 29 (by decide)
      exact Yield.op (v := .int .i64 F) (w' := wy) (by simp [execOp, go_sem, e29, cellExt hl HC0.out.2]) ⟨Ext.refl _, rfl⟩
    · intro ev wy hp hl hk hd
      have e25 : ev _ = _ := hk 25 (by decide)
      have e30 : ev _ = _ := hk 30 (by decide)
      exact Yield.op (v := .bool false) (w' := wy) (by simp [execOp, go_sem, e25, e30]) ⟨Ext.refl _, rfl⟩
    · intro ev wy hp hl hk hd
      have e31 : ev _ = _ := hk 31 (by decide)
      exact Yield.mv rfl ⟨Ext.refl _, e31⟩
    · intro ev wy hp hl hk hd
      have e0 : ev _ = .pointer (some ⟨p, 0, none⟩) := hk 0 (by decide)
      refine ⟨fun _ _ _ => ?_, fun _ hx hne => absurd hx hne⟩
      exact Yield.mv rfl ⟨Ext.refl _, e0⟩
    · intro ev wy hp hl hk hd
      have e33 : ev _ = _ := hk 33 (by decide)
      refine ⟨fun _ _ _ => ?_, fun _ hx hne => absurd hx hne⟩
      refine Yield.call rfl hp Try.func17 rfl (by kernel_rfl) ?_
      simp only [List.map_toArray, List.map_cons, List.map_nil, e33]
      exact (current14_any (HST.out.reg.ext (HE1.out.trans hl))).mono fun e w' ⟨he, hE⟩ => ⟨_, he, hE, by rw [HN.out.2.2]⟩
    · intro ev wy hp hl hk hd
      have e5 : ev _ = .int .i64 (F + (m : Int)) := hk 5 (by decide)
      refine ⟨fun _ _ _ => ?_, fun _ hx hne => absurd hx hne⟩
      exact Yield.mv rfl ⟨Ext.refl _, e5⟩
    · intro ev wy hp hl hk hd
      have e34 : ev _ = _ := hk 34 (by decide)
      have e35 : ev _ = _ := hk 35 (by decide)
      refine ⟨fun _ _ _ => ?_, fun _ hx hne => absurd hx hne⟩
      exact Yield.op (v := .bool false) (w' := wy) (by simp [execOp, go_sem, e34, e35]) ⟨Ext.refl _, rfl⟩
    · intro ev wy hp hl hk hd
      have e32 : ev _ = _ := hk 32 (by decide)
      have e36 : ev _ = _ := hk 36 (by decide)
      exact Yield.pick (t := false) rfl e32 ⟨Ext.refl _, e36⟩
  · intro vals wz hz hv
    have g24 : vals 0 = _ := hv 0 (by decide)
    have g25 : vals 1 = _ := hv 1 (by decide)
    have g26 : vals 2 = _ := hv 2 (by decide)
    have g27 : vals 3 = _ := hv 3 (by decide)
    have g28 : vals 4 = _ := hv 4 (by decide)
    have g29 : vals 5 = _ := hv 5 (by decide)
    have g30 : vals 6 = _ := hv 6 (by decide)
    have g31 : vals 7 = _ := hv 7 (by decide)
    have g32 : vals 8 = _ := hv 8 (by decide)
    have g33 : vals 9 = _ := hv 9 (by decide)
    have g34 : vals 10 = _ := hv 10 (by decide)
    have g35 : vals 11 = _ := hv 11 (by decide)
    have g36 : vals 12 = _ := hv 12 (by decide)
    have g37 : vals 13 = _ := hv 13 (by decide)
    clear hv
    simp only [putAll, Act.put, List.setIfInBounds_toArray, List.set_cons_zero, List.set_cons_succ, g24, g25, g26, g27, g28, g29, g30, g31, g32, g33, g34, g35, g36, g37]
    clear g24 g25 g26 g27 g28 g29 g30 g31 g32 g33 g34 g35 g36 g37
    have HZ := Lib.hid hz
    clear z0 z1 k0' f0' hz
    obtain ⟨z0, z1⟩ := HCE.out wz HZ.out
    have f0' := cellExt HZ.out HC0.out.2
    have hwF := HWW.out.2.1
    have hwC := HWW.out.2.2
    go_wp2_with fail
    go_loopw [6] (fun tt wx => ∃ (k : Nat) (wr : World), wr = wx ∧ k ≤ m + 3 ∧ tt = .int .i64 (F - 1 + (k : Int)) ∧ Hid (Ext w1 wr)) (fun tt _ => (F + (m : Int) + 2 - intOf tt).toNat)
    case atStart => exact ⟨0, _, rfl, by omega, by simp, HZ⟩
    case round =>
      obtain ⟨k, wr, hwr, hk3, rfl, hI⟩ := hrel
      subst hwr
      clear z0 z1 f0'
      obtain ⟨z0, z1⟩ := HCE.out wr hI.out
      by_cases hlt : k ≤ m + 2
      case neg =>
        go_wp2_with fail
        go_ret
        exact ⟨rfl, HE1.out.trans hI.out⟩
      obtain ⟨t, ht⟩ : ∃ z, F - 1 + (k : Int) = z := ⟨_, rfl⟩
      have HT := Lib.hid ht
      have htl : t ≤ F + (m : Int) + 1 := by omega
      rw [ht]
      have HSTr := Lib.hid (HST.out.later (HE1.out.trans hI.out))
      clear ht
      go_wp2_with fail
      refine (HSTr.out.row t).mono ?_
      rintro e w3 hg
      cases hlx : Reg.look R t with
      | none =>
        rcases hg with ⟨hE3, ⟨hno, rfl⟩ | ⟨x, s, d, tl, hx, _⟩⟩
        case inr => rw [hlx] at hx; cases hx
        obtain ⟨w4, hw4⟩ : ∃ z, w3.alloc (.cells #[.int .i64 0, .slice none 0 0, .slice none 0 0, .slice none 0 0, .bool false] 56) = z := ⟨_, rfl⟩
        obtain ⟨rx, hrx⟩ : ∃ z, w3.heap.size = z := ⟨_, rfl⟩
        have hE4 : Ext w3 w4 := by rw [← hw4]; exact Ext.alloc _ _
        have HW4 := Lib.hid (And.intro hw4 hrx)
        have HE4 := Lib.hid (hI.out.trans (hE3.trans hE4))
        have HLX := Lib.hid hlx
        clear hlx hE3 hno hw4 hrx hE4
        go_upto_region 8 with fail
        rw [HW4.out.1, HW4.out.2]
        clear z0 z1
        obtain ⟨z0, z1⟩ := HCE.out w4 HE4.out
        go_wp2_with fail
        refine (start14_any t (HST.out.reg.ext (HE1.out.trans HE4.out))).mono ?_
        rintro e w5 ⟨he, hE5⟩
        rw [HLX.out] at he
        subst he
        have HE5 := Lib.hid (HE4.out.trans hE5)
        clear hE5 z0 z1
        obtain ⟨z0, z1⟩ := HCE.out w5 HE5.out
        go_wp2_with fail
        refine (refStart14_any t (HH.out.ext (HE1.out.trans HE5.out)) HK.out (HST.out.ext.trans (HE1.out.trans HE5.out)) HST.out.small).mono ?_
        rintro e w6 ⟨he, hE6⟩
        rw [HLX.out] at he
        subst he
        have HE6 := Lib.hid (HE5.out.trans hE6)
        clear hE6 z0 z1
        obtain ⟨z0, z1⟩ := HCE.out w6 HE6.out
        go_wp2_with fail
        refine (refFind14_any t (HH.out.ext (HE1.out.trans HE6.out)) HK.out).mono ?_
        rintro e w7 ⟨rfl, hE7⟩
        rw [Reg.at_none HLX.out HK.out]
        have HE7 := Lib.hid (HE6.out.trans hE7)
        clear hE7 z0 z1
        have hwt : IntKind.i64.wrap (t + 1) = t + 1 := IntWalk.i64_in _ (by have := HT.out; omega)
        go_wp2_with fail
        go_roundw
        case rel => exact ⟨k + 1, _, rfl, by omega, by have := HT.out; congr 1; omega, HE7⟩
        case measure => simp [intOf]; have := HT.out; omega
      | some x =>
        obtain ⟨hE3, u1, v1, t1, u2, v2, t2, u3, v3, t3, rfl, ho1, ho2, ho3⟩ := hg.some hlx
        obtain ⟨i, hi, hat, hix, hit⟩ := Reg.at_some hlx HK.out
        rw [HN.out.2.1] at hit
        rw [HN.out.2.2]
        have him : i < m + 1 := by rw [← HN.out.1]; exact hi
        obtain ⟨XT, hXT⟩ : ∃ z, x.c.term = z := ⟨_, rfl⟩
        rw [hXT]
        obtain ⟨ov, hov⟩ : ∃ z, decide (t < F + (m : Int)) = z := ⟨_, rfl⟩
        rw [hov]
        obtain ⟨w4, hw4⟩ : ∃ z, w3.alloc (.cells #[.int .i64 XT, .slice u1 v1 t1, .slice u2 v2 t2, .slice u3 v3 t3, .bool ov] 56) = z := ⟨_, rfl⟩
        obtain ⟨rx, hrx⟩ : ∃ z, w3.heap.size = z := ⟨_, rfl⟩
        have hE4 : Ext w3 w4 := by rw [← hw4]; exact Ext.alloc _ _
        have hB4 : w4.heap[rx]? = some (.cells #[.int .i64 XT, .slice u1 v1 t1, .slice u2 v2 t2, .slice u3 v3 t3, .bool ov] 56 (0, 0)) := by rw [← hw4, ← hrx]; exact heap_alloc_new _ _
        obtain ⟨j1, j2, j3, j4, j5, j6, k0, k1, k2, hj5, hji, hjr⟩ := HCL.out i hi
        rw [hix] at k0 hj5 hji hjr
        rw [hXT] at k0
        have HJ3 := Lib.hid (And.intro k0 (And.intro k1 k2))
        have HJR := Lib.hid (And.intro hji hjr)
        have HW4 := Lib.hid (And.intro hw4 hrx)
        have HE4 := Lib.hid (hI.out.trans (hE3.trans hE4))
        have HB4 := Lib.hid hB4
        have HO4 := Lib.hid (And.intro hXT (And.intro (show OwnI w4 wr.heap.size (.slice u1 v1 t1) x.c.seqs from rowExt ho1 hE4) (And.intro (ho2.ext hE4) (ho3.keeps (Keeps14.ext hE4)))))
        have HLX := Lib.hid hlx
        have HAT := Lib.hid (And.intro hat hit)
        have HIX := Lib.hid (show ∃ h : i < R.length, R[i] = x from ⟨hi, hix⟩)
        have HOV := Lib.hid hov
        clear hg hlx hE3 ho1 ho2 ho3 hi hat hix hit hXT hov hw4 hrx hE4 hB4 k0 k1 k2 hj5 hji hjr
        go_upto_region 8 with fail
        rw [HW4.out.1, HW4.out.2]
        clear z0 z1
        obtain ⟨z0, z1⟩ := HCE.out w4 HE4.out
        go_wp2_with fail
        refine (start14_any t (HST.out.reg.ext (HE1.out.trans HE4.out))).mono ?_
        rintro e w5 ⟨he, hE5⟩
        rw [HLX.out] at he
        obtain ⟨S, hS⟩ : ∃ z, x.start = z := ⟨_, rfl⟩
        simp only [hS] at he
        subst he
        have HS := Lib.hid hS
        have HE5 := Lib.hid (HE4.out.trans hE5)
        have HB5 := Lib.hid (heap_ext HB4.out hE5)
        have h45 := Lib.hid hE5
        clear hE5 z0 z1 hS
        obtain ⟨z0, z1⟩ := HCE.out w5 HE5.out
        go_wp2_with fail
        refine (refStart14_any t (HH.out.ext (HE1.out.trans HE5.out)) HK.out (HST.out.ext.trans (HE1.out.trans HE5.out)) HST.out.small).mono ?_
        rintro e w6 ⟨he, hE6⟩
        rw [HLX.out] at he
        simp only [HS.out] at he
        subst he
        have HE6 := Lib.hid (HE5.out.trans hE6)
        have h46 := Lib.hid (h45.out.trans hE6)
        clear hE6 z0 z1
        obtain ⟨z0, z1⟩ := HCE.out w6 HE6.out
        go_wp2_with fail
        refine (refFind14_any t (HH.out.ext (HE1.out.trans HE6.out)) HK.out).mono ?_
        rintro e w9 ⟨rfl, hE7⟩
        rw [HAT.out.1]
        have HE9 := Lib.hid (HE6.out.trans hE7)
        have H49 := Lib.hid (h46.out.trans hE7)
        have HB9 := Lib.hid (heap_ext HB4.out H49.out)
        clear hE7 z0 z1
        obtain ⟨z0, z1⟩ := HCE.out w9 HE9.out
        have hwt : IntKind.i64.wrap (t + 1) = t + 1 := IntWalk.i64_in _ (by have := HT.out; omega)
        have hsame := fun (wy : World) (hy : Ext w9 wy) => refSame6_any (.agg #[.int .i64 x.c.term, .slice u1 v1 t1, .slice u2 v2 t2]) (.agg #[.int .i64 x.c.term, .slice j1 j2 j3, .slice j4 j5 j6]) x.c x.c wy ⟨_, _, rfl, (HO4.out.2.1.ints).below (H49.out.trans hy), (HO4.out.2.2.1.rows).below (H49.out.trans hy)⟩ ⟨_, _, rfl, HJR.out.1.below (HST.out.ext.trans (HE1.out.trans (HE9.out.trans hy))), HJR.out.2.below (HST.out.ext.trans (HE1.out.trans (HE9.out.trans hy)))⟩
        rw [HO4.out.1, Term.alike_self] at hsame
        have HSAME := Lib.hid hsame
        clear hsame
        by_cases hilt : i < m
        · have hov1 : ov = true := by rw [← HOV.out]; exact decide_eq_true (by have := HAT.out.2; omega)
          subst hov1
          obtain ⟨gt, y1, y2, y3, hta, hcell, hten⟩ := HCT.out i (by have := HN.out.1; omega)
          subst hta
          have htx : R[i]'(by have := HN.out.1; omega) = x := by obtain ⟨_, h⟩ := HIX.out; exact h
          rw [htx] at hten
          have HT3 := Lib.hid (And.intro hcell (fun (wy : World) (hy : Ext w1 wy) => hten.below (HST.out.ext.trans (HE1.out.trans hy))))
          have hent : ∀ wy, Ext w9 wy → Calls Try.prog 38 #[.slice u3 v3 t3] wy fun e w' => ∃ v, e = .returned v ∧ Ext wy w' ∧ ∃ a n c, v = .slice a n c ∧ Ents w' (.slice a n c) x.tail := fun wy hy => by
            obtain ⟨ps, h1, h2, h3⟩ := HO4.out.2.2.2.keeps (Keeps14.ext (H49.out.trans hy))
            have hpl : ps.length = x.tail.length := by rw [← h1, List.length_map]
            have hsm : x.tail.length * 64 ≤ 140737488355328 := by
              obtain ⟨hi, hx⟩ := HIX.out
              have := HST.out.small _ (List.getElem_mem hi)
              rwa [hx] at this
            refine (entries14l_any (.slice u3 v3 t3) ps wy (by rw [hpl]; exact SlN.ofOwn h3) (fun q hq => (h2 q hq).ints) (by rw [hpl]; exact hsm)).mono ?_
            rintro e w' ⟨u, he, ho, hE⟩
            obtain ⟨e1, e2, e3, hu⟩ := ownSlice ho
            subst hu
            have hen := ents_of_flat (ps := ps) (fun q hq => (h2 q hq).ints.below hE) (SlN.ofOwn ho)
            rw [h1] at hen
            exact ⟨_, he, hE, e1, e2, e3, rfl, hen⟩
          have HENT := Lib.hid hent
          clear hcell hten htx hent
          go_upto_region 15 with fail
          refine wp_region_facts (by kernel_rfl) Ext (fun iop v w => match iop with
              | 0 => v = .pointer (some ⟨rx, 0, none⟩)
              | 1 => v = .agg #[.int .i64 XT, .slice u1 v1 t1, .slice u2 v2 t2]
              | 2 => v = .pointer (some ⟨q, 0, none⟩)
              | 3 => v = .slice (some ⟨g, 0, none⟩) (m + 1) c
              | 4 => v = .int .i64 (i : Nat)
              | 5 => v = .pointer (some ⟨g, i * 3, none⟩)
              | 6 => v = .agg #[.int .i64 XT, .slice j1 j2 j3, .slice j4 j5 j6]
              | 7 => v = .bool true
              | 8 => v = .bool false
              | 9 => v = .bool false
              | 10 => v = .pointer (some ⟨rx, 4, none⟩)
              | 11 => v = .bool true
              | 12 => v = .bool true
              | 13 => v = .bool false
              | 14 => v = .bool false
              | 15 => v = .bool false
              | 16 => v = .bool true
              | 17 => v = .bool true
              | 18 => v = .pointer (some ⟨rx, 3, none⟩)
              | 19 => v = .slice u3 v3 t3
              | 20 => ∃ a n c, v = .slice a n c ∧ Ents w (.slice a n c) x.tail
              | 21 => v = .pointer (some ⟨q, 1, none⟩)
              | 22 => v = .slice (some ⟨gt, 0, none⟩) m tc
              | 23 => v = .int .i64 (i : Nat)
              | 24 => v = .pointer (some ⟨gt, i, none⟩)
              | 25 => v = .slice y1 y2 y3
              | 26 => v = .bool true
              | 27 => v = .bool false
              | 28 => v = .bool false
              | 29 => v = .bool false
              | 30 => v = .bool false
              | 31 => v = .bool true
              | 32 => v = .bool false
              | 33 => v = .bool false
              | 34 => v = undef
              | 35 => v = undef
              | 36 => v = undef
              | 37 => v = undef
              | 38 => v = .bool false
              | _ => v = .bool false
              ) (by kernel_rfl) (fun _ _ _ h k => Ext.trans h k) (fun a => Ext.refl a) (Ext.drew _) ?_ ?_ ?_
          · intro iop v wa wb hF hL
            iterate 20 (rcases iop with _ | iop; exact hF)
            rcases iop with _ | iop; (first | exact hF | (obtain ⟨a, n, c, h1, h2⟩ := hF; exact ⟨a, n, c, h1, h2.below hL⟩))
            iterate 18 (rcases iop with _ | iop; exact hF)
            exact hF
          · refine Obls.cons ?_ (Obls.cons ?_ (Obls.cons ?_ (Obls.cons ?_ (Obls.cons ?_ (Obls.cons ?_ (Obls.cons ?_ (Obls.cons ?_ (Obls.cons ?_ (Obls.cons ?_ (Obls.cons ?_ (Obls.cons ?_ (Obls.cons ?_ (Obls.cons ?_ (Obls.cons ?_ (Obls.cons ?_ (Obls.cons ?_ (Obls.cons ?_ (Obls.cons ?_ (Obls.cons ?_ (Obls.cons ?_ (Obls.cons ?_ (Obls.cons ?_ (Obls.cons ?_ (Obls.cons ?_ (Obls.cons ?_ (Obls.cons ?_ (Obls.cons ?_ (Obls.cons ?_ (Obls.cons ?_ (Obls.cons ?_ (Obls.cons ?_ (Obls.cons ?_ (Obls.cons ?_ (Obls.cons ?_ (Obls.cons ?_ (Obls.cons ?_ (Obls.cons ?_ (Obls.cons ?_ (Obls.cons ?_ (Obls.nil))))))))))))))))))))))))))))))))))))))))
            · intro ev wy hp hl hk hd
              have e7 : ev _ = .pointer (some ⟨rx, 0, none⟩) := hk 7 (by decide)
              exact Yield.oq (by simp [execOp, go_sem, e7])
            · intro ev wy hp hl hk hd
              have e101 : ev _ = _ := hk 101 (by decide)
              exact Yield.op (v := .agg #[.int .i64 XT, .slice u1 v1 t1, .slice u2 v2 t2]) (w' := wy) (by simp [execOp, go_sem, e101, show ∀ j, wy.cell? ⟨rx, j, none⟩ = _ from fun j => cell_of_heap (heap_ext HB9.out hl) j]) ⟨Ext.refl _, rfl⟩
            · intro ev wy hp hl hk hd
              have e3 : ev _ = .pointer (some ⟨q, 0, none⟩) := hk 3 (by decide)
              exact Yield.oq (by simp [execOp, go_sem, e3])
            · intro ev wy hp hl hk hd
              have e103 : ev _ = _ := hk 103 (by decide)
              exact Yield.op (v := .slice (some ⟨g, 0, none⟩) (m + 1) c) (w' := wy) (by simp [execOp, go_sem, e103, (HCE.out wy (HE9.out.trans hl)).1]) ⟨Ext.refl _, rfl⟩
            · intro ev wy hp hl hk hd
              have e13 : ev _ = .int .i64 (i : Nat) := hk 13 (by decide)
              exact Yield.mv rfl ⟨Ext.refl _, e13⟩
            · intro ev wy hp hl hk hd
              have e104 : ev _ = _ := hk 104 (by decide)
              have e105 : ev _ = _ := hk 105 (by decide)
              exact Yield.op (v := .pointer (some ⟨g, i * 3, none⟩)) (w' := wy) (by simp [execOp, go_sem, e104, e105]; omega) ⟨Ext.refl _, rfl⟩
            · intro ev wy hp hl hk hd
              have e106 : ev _ = _ := hk 106 (by decide)
              exact Yield.op (v := .agg #[.int .i64 XT, .slice j1 j2 j3, .slice j4 j5 j6]) (w' := wy) (by simp [execOp, go_sem, e106, cellExt ((HE1.out.trans HE9.out).trans hl) HJ3.out.1, cellExt ((HE1.out.trans HE9.out).trans hl) HJ3.out.2.1, cellExt ((HE1.out.trans HE9.out).trans hl) HJ3.out.2.2]) ⟨Ext.refl _, rfl⟩
            · intro ev wy hp hl hk hd
              have e102 : ev _ = _ := hk 102 (by decide)
              have e107 : ev _ = _ := hk 107 (by decide)
              refine Yield.call rfl hp Try.func27 rfl (by kernel_rfl) ?_
              simp only [List.map_toArray, List.map_cons, List.map_nil, e102, e107]
              exact (HSAME.out wy hl).mono fun _ _ ⟨he, hb⟩ => ⟨_, he, hb, by first | rfl | simp⟩
            · intro ev wy hp hl hk hd
              have e108 : ev _ = _ := hk 108 (by decide)
              exact Yield.oq (by simp [execOp, go_sem, e108])
            · intro ev wy hp hl hk hd
              have e109 : ev _ = _ := hk 109 (by decide)
              exact Yield.mv rfl ⟨Ext.refl _, e109⟩
            · intro ev wy hp hl hk hd
              have e7 : ev _ = .pointer (some ⟨rx, 0, none⟩) := hk 7 (by decide)
              refine ⟨fun _ _ _ => ?_, fun _ hx hne => absurd hx hne⟩
              exact Yield.op (v := .pointer (some ⟨rx, 4, none⟩)) (w' := wy) (by simp [execOp, go_sem, e7]) ⟨Ext.refl _, rfl⟩
            · intro ev wy hp hl hk hd
              have e111 : ev _ = _ := hk 111 (by decide)
              refine ⟨fun _ _ _ => ?_, fun _ hx hne => absurd hx hne⟩
              exact Yield.op (v := .bool true) (w' := wy) (by simp [execOp, go_sem, e111, show ∀ j, wy.cell? ⟨rx, j, none⟩ = _ from fun j => cell_of_heap (heap_ext HB9.out hl) j]) ⟨Ext.refl _, rfl⟩
            · intro ev wy hp hl hk hd
              have e14 : ev _ = .bool true := hk 14 (by decide)
              refine ⟨fun _ _ _ => ?_, fun _ hx hne => absurd hx hne⟩
              exact Yield.mv rfl ⟨Ext.refl _, e14⟩
            · intro ev wy hp hl hk hd
              have e112 : ev _ = _ := hk 112 (by decide)
              have e113 : ev _ = _ := hk 113 (by decide)
              refine ⟨fun _ _ _ => ?_, fun _ hx hne => absurd hx hne⟩
              exact Yield.op (v := .bool false) (w' := wy) (by simp [execOp, go_sem, e112, e113]) ⟨Ext.refl _, rfl⟩
            · intro ev wy hp hl hk hd
              have e110 : ev _ = _ := hk 110 (by decide)
              have e114 : ev _ = _ := hk 114 (by decide)
              exact Yield.pick (t := false) rfl e110 ⟨Ext.refl _, e114⟩
            · intro ev wy hp hl hk hd
              have e115 : ev _ = _ := hk 115 (by decide)
              exact Yield.mv rfl ⟨Ext.refl _, e115⟩
            · intro ev wy hp hl hk hd
              have e14 : ev _ = .bool true := hk 14 (by decide)
              refine ⟨fun _ _ _ => ?_, fun _ hx hne => absurd hx hne⟩
              exact Yield.mv rfl ⟨Ext.refl _, e14⟩
            · intro ev wy hp hl hk hd
              have e117 : ev _ = _ := hk 117 (by decide)
              refine ⟨fun _ _ _ => ?_, fun _ hx hne => absurd hx hne⟩
              exact Yield.mv rfl ⟨Ext.refl _, e117⟩
            · intro ev wy hp hl hk hd
              have e7 : ev _ = .pointer (some ⟨rx, 0, none⟩) := hk 7 (by decide)
              refine ⟨fun _ _ _ => ?_, fun _ hx hne => absurd hx hne⟩
              exact Yield.op (v := .pointer (some ⟨rx, 3, none⟩)) (w' := wy) (by simp [execOp, go_sem, e7]) ⟨Ext.refl _, rfl⟩
            · intro ev wy hp hl hk hd
              have e119 : ev _ = _ := hk 119 (by decide)
              refine ⟨fun _ _ _ => ?_, fun _ hx hne => absurd hx hne⟩
              exact Yield.op (v := .slice u3 v3 t3) (w' := wy) (by simp [execOp, go_sem, e119, show ∀ j, wy.cell? ⟨rx, j, none⟩ = _ from fun j => cell_of_heap (heap_ext HB9.out hl) j]) ⟨Ext.refl _, rfl⟩
            · intro ev wy hp hl hk hd
              have e120 : ev _ = _ := hk 120 (by decide)
              refine ⟨fun _ _ _ => ?_, fun _ hx hne => absurd hx hne⟩
              refine Yield.call rfl hp Try.func38 rfl (by kernel_rfl) ?_
              simp only [List.map_toArray, List.map_cons, List.map_nil, e120]
              exact HENT.out wy hl
            · intro ev wy hp hl hk hd
              have e3 : ev _ = .pointer (some ⟨q, 0, none⟩) := hk 3 (by decide)
              refine ⟨fun _ _ _ => ?_, fun _ hx hne => absurd hx hne⟩
              exact Yield.op (v := .pointer (some ⟨q, 1, none⟩)) (w' := wy) (by simp [execOp, go_sem, e3]) ⟨Ext.refl _, rfl⟩
            · intro ev wy hp hl hk hd
              have e122 : ev _ = _ := hk 122 (by decide)
              refine ⟨fun _ _ _ => ?_, fun _ hx hne => absurd hx hne⟩
              exact Yield.op (v := .slice (some ⟨gt, 0, none⟩) m tc) (w' := wy) (by simp [execOp, go_sem, e122, (HCE.out wy (HE9.out.trans hl)).2]) ⟨Ext.refl _, rfl⟩
            · intro ev wy hp hl hk hd
              have e13 : ev _ = .int .i64 (i : Nat) := hk 13 (by decide)
              refine ⟨fun _ _ _ => ?_, fun _ hx hne => absurd hx hne⟩
              exact Yield.mv rfl ⟨Ext.refl _, e13⟩
            · intro ev wy hp hl hk hd
              have e123 : ev _ = _ := hk 123 (by decide)
              have e124 : ev _ = _ := hk 124 (by decide)
              refine ⟨fun _ _ _ => ?_, fun _ hx hne => absurd hx hne⟩
              exact Yield.op (v := .pointer (some ⟨gt, i, none⟩)) (w' := wy) (by simp [execOp, go_sem, e123, e124]; omega) ⟨Ext.refl _, rfl⟩
            · intro ev wy hp hl hk hd
              have e125 : ev _ = _ := hk 125 (by decide)
              refine ⟨fun _ _ _ => ?_, fun _ hx hne => absurd hx hne⟩
              exact Yield.op (v := .slice y1 y2 y3) (w' := wy) (by simp [execOp, go_sem, e125, cellExt ((HE1.out.trans HE9.out).trans hl) HT3.out.1]) ⟨Ext.refl _, rfl⟩
            · intro ev wy hp hl hk hd
              have f121 : (fun (v : Value) (w : World) => ∃ a n c, v = .slice a n c ∧ Ents w (.slice a n c) x.tail) (ev (.tmp 121)) wy := hk 121 (by decide)
              generalize hx121 : ev (.tmp 121) = x121 at *
              have e126 : ev _ = _ := hk 126 (by decide)
              refine ⟨fun _ _ _ => ?_, fun _ hx hne => absurd hx hne⟩
              obtain ⟨b1, b2, b3, hb9, hen9⟩ := f121
              refine Yield.call rfl hp Try.func28 rfl (by kernel_rfl) ?_
              simp only [List.map_toArray, List.map_cons, List.map_nil, hx121, hb9, e126]
              exact (refSameAll14 _ _ x.tail x.tail wy hen9 (HT3.out.2 wy (HE9.out.trans hl))).mono fun e w' ⟨⟨b, h1, h2⟩, hE⟩ => ⟨_, h1, hE, by rw [h2.2 rfl]⟩
            · intro ev wy hp hl hk hd
              have e127 : ev _ = _ := hk 127 (by decide)
              refine ⟨fun _ _ _ => ?_, fun _ hx hne => absurd hx hne⟩
              exact Yield.op (v := .bool false) (w' := wy) (by simp [execOp, go_sem, e127]) ⟨Ext.refl _, rfl⟩
            · intro ev wy hp hl hk hd
              have e118 : ev _ = _ := hk 118 (by decide)
              have e128 : ev _ = _ := hk 128 (by decide)
              refine ⟨fun _ _ _ => ?_, fun _ hx hne => absurd hx hne⟩
              exact Yield.pick (t := true) rfl e118 ⟨Ext.refl _, e128⟩
            · intro ev wy hp hl hk hd
              have e116 : ev _ = _ := hk 116 (by decide)
              have e129 : ev _ = _ := hk 129 (by decide)
              exact Yield.pick (t := false) rfl e116 ⟨Ext.refl _, e129⟩
            · intro ev wy hp hl hk hd
              have e130 : ev _ = _ := hk 130 (by decide)
              exact Yield.mv rfl ⟨Ext.refl _, e130⟩
            · intro ev wy hp hl hk hd
              have e14 : ev _ = .bool true := hk 14 (by decide)
              refine ⟨fun _ _ _ => ?_, fun _ hx hne => absurd hx hne⟩
              exact Yield.mv rfl ⟨Ext.refl _, e14⟩
            · intro ev wy hp hl hk hd
              have e132 : ev _ = _ := hk 132 (by decide)
              refine ⟨fun _ _ _ => ?_, fun _ hx hne => absurd hx hne⟩
              exact Yield.op (v := .bool false) (w' := wy) (by simp [execOp, go_sem, e132]) ⟨Ext.refl _, rfl⟩
            · intro ev wy hp hl hk hd
              have e133 : ev _ = _ := hk 133 (by decide)
              refine ⟨fun _ _ _ => ?_, fun _ hx hne => absurd hx hne⟩
              exact Yield.mv rfl ⟨Ext.refl _, e133⟩
            · intro ev wy hp hl hk hd
              have e7 : ev _ = .pointer (some ⟨rx, 0, none⟩) := hk 7 (by decide)
              exact ⟨fun x hx he => (by rw [show x = .bool false from hx] at he; cases he), fun _ _ _ => rfl⟩
            · intro ev wy hp hl hk hd
              have e135 : ev _ = _ := hk 135 (by decide)
              exact ⟨fun x hx he => (by rw [show x = .bool false from hx] at he; cases he), fun _ _ _ => rfl⟩
            · intro ev wy hp hl hk hd
              have e136 : ev _ = _ := hk 136 (by decide)
              exact ⟨fun x hx he => (by rw [show x = .bool false from hx] at he; cases he), fun _ _ _ => rfl⟩
            · intro ev wy hp hl hk hd
              have e137 : ev _ = _ := hk 137 (by decide)
              exact ⟨fun x hx he => (by rw [show x = .bool false from hx] at he; cases he), fun _ _ _ => rfl⟩
            · intro ev wy hp hl hk hd
              have e134 : ev _ = _ := hk 134 (by decide)
              have e138 : ev _ = _ := hk 138 (by decide)
              refine ⟨fun _ _ _ => ?_, fun _ hx hne => absurd hx hne⟩
              exact Yield.pick (t := false) rfl e134 ⟨Ext.refl _, hp.const _⟩
            · intro ev wy hp hl hk hd
              have e131 : ev _ = _ := hk 131 (by decide)
              have e139 : ev _ = _ := hk 139 (by decide)
              exact Yield.pick (t := false) rfl e131 ⟨Ext.refl _, e139⟩
          · intro vals wz hz hv
            have g101 : vals 0 = _ := hv 0 (by decide)
            have g102 : vals 1 = _ := hv 1 (by decide)
            have g103 : vals 2 = _ := hv 2 (by decide)
            have g104 : vals 3 = _ := hv 3 (by decide)
            have g105 : vals 4 = _ := hv 4 (by decide)
            have g106 : vals 5 = _ := hv 5 (by decide)
            have g107 : vals 6 = _ := hv 6 (by decide)
            have g108 : vals 7 = _ := hv 7 (by decide)
            have g109 : vals 8 = _ := hv 8 (by decide)
            have g110 : vals 9 = _ := hv 9 (by decide)
            have g111 : vals 10 = _ := hv 10 (by decide)
            have g112 : vals 11 = _ := hv 11 (by decide)
            have g113 : vals 12 = _ := hv 12 (by decide)
            have g114 : vals 13 = _ := hv 13 (by decide)
            have g115 : vals 14 = _ := hv 14 (by decide)
            have g116 : vals 15 = _ := hv 15 (by decide)
            have g117 : vals 16 = _ := hv 16 (by decide)
            have g118 : vals 17 = _ := hv 17 (by decide)
            have g119 : vals 18 = _ := hv 18 (by decide)
            have g120 : vals 19 = _ := hv 19 (by decide)
            have g121 : (fun (v : Value) (w : World) => ∃ a n c, v = .slice a n c ∧ Ents w (.slice a n c) x.tail) (vals 20) wz := hv 20 (by decide)
            have g122 : vals 21 = _ := hv 21 (by decide)
            have g123 : vals 22 = _ := hv 22 (by decide)
            have g124 : vals 23 = _ := hv 23 (by decide)
            have g125 : vals 24 = _ := hv 24 (by decide)
            have g126 : vals 25 = _ := hv 25 (by decide)
            have g127 : vals 26 = _ := hv 26 (by decide)
            have g128 : vals 27 = _ := hv 27 (by decide)
            have g129 : vals 28 = _ := hv 28 (by decide)
            have g130 : vals 29 = _ := hv 29 (by decide)
            have g131 : vals 30 = _ := hv 30 (by decide)
            have g132 : vals 31 = _ := hv 31 (by decide)
            have g133 : vals 32 = _ := hv 32 (by decide)
            have g134 : vals 33 = _ := hv 33 (by decide)
            have g135 : vals 34 = _ := hv 34 (by decide)
            have g136 : vals 35 = _ := hv 35 (by decide)
            have g137 : vals 36 = _ := hv 36 (by decide)
            have g138 : vals 37 = _ := hv 37 (by decide)
            have g139 : vals 38 = _ := hv 38 (by decide)
            have g140 : vals 39 = _ := hv 39 (by decide)
            clear hv
            simp only [putAll, Act.put, List.setIfInBounds_toArray, List.set_cons_zero, List.set_cons_succ, g101, g102, g103, g104, g105, g106, g107, g108, g109, g110, g111, g112, g113, g114, g115, g116, g117, g118, g119, g120, g122, g123, g124, g125, g126, g127, g128, g129, g130, g131, g132, g133, g134, g135, g136, g137, g138, g139, g140]
            clear g101 g102 g103 g104 g105 g106 g107 g108 g109 g110 g111 g112 g113 g114 g115 g116 g117 g118 g119 g120 g122 g123 g124 g125 g126 g127 g128 g129 g130 g131 g132 g133 g134 g135 g136 g137 g138 g139 g140
            generalize vals 20 = v121 at *
            have HZ2 := Lib.hid (HE9.out.trans hz)
            clear hz z0 z1
            go_wp2_with fail
            go_roundw
            case rel => exact ⟨k + 1, _, rfl, by omega, by have := HT.out; congr 1; omega, HZ2⟩
            case measure => simp [intOf]; have := HT.out; omega
        · have hov1 : ov = false := by rw [← HOV.out]; exact decide_eq_false (by have := HAT.out.2; omega)
          subst hov1
          have hv3 : v3 = 0 := by
            obtain ⟨hi, hx⟩ := HIX.out
            have hlast := HK.out.last
            have hlen := HN.out.1
            have him2 : i = R.length - 1 := by omega
            subst him2
            rw [hx] at hlast
            have ho := HO4.out.2.2.2
            rw [hlast] at ho
            obtain ⟨ps, h1, h2, h3⟩ := ho
            have := ownLen h3
            simpa using this
          subst hv3
          go_upto_region 15 with fail
          refine wp_region_facts (by kernel_rfl) Ext (fun iop v w => match iop with
              | 0 => v = .pointer (some ⟨rx, 0, none⟩)
              | 1 => v = .agg #[.int .i64 XT, .slice u1 v1 t1, .slice u2 v2 t2]
              | 2 => v = .pointer (some ⟨q, 0, none⟩)
              | 3 => v = .slice (some ⟨g, 0, none⟩) (m + 1) c
              | 4 => v = .int .i64 (i : Nat)
              | 5 => v = .pointer (some ⟨g, i * 3, none⟩)
              | 6 => v = .agg #[.int .i64 XT, .slice j1 j2 j3, .slice j4 j5 j6]
              | 7 => v = .bool true
              | 8 => v = .bool false
              | 9 => v = .bool false
              | 10 => v = .pointer (some ⟨rx, 4, none⟩)
              | 11 => v = .bool false
              | 12 => v = .bool false
              | 13 => v = .bool false
              | 14 => v = .bool false
              | 15 => v = .bool false
              | 16 => v = .bool false
              | 17 => v = .bool false
              | 18 => v = undef
              | 19 => v = undef
              | 20 => v = undef
              | 21 => v = undef
              | 22 => v = undef
              | 23 => v = undef
              | 24 => v = undef
              | 25 => v = undef
              | 26 => v = undef
              | 27 => v = undef
              | 28 => v = .bool false
              | 29 => v = .bool false
              | 30 => v = .bool false
              | 31 => v = .bool false
              | 32 => v = .bool true
              | 33 => v = .bool true
              | 34 => v = .pointer (some ⟨rx, 3, none⟩)
              | 35 => v = .slice u3 0 t3
              | 36 => v = .int .i64 0
              | 37 => v = .bool false
              | 38 => v = .bool false
              | _ => v = .bool false
              ) (by kernel_rfl) (fun _ _ _ h k => Ext.trans h k) (fun a => Ext.refl a) (Ext.drew _) ?_ ?_ ?_
          · intro iop v wa wb hF hL
            iterate 39 (rcases iop with _ | iop; exact hF)
            exact hF
          · refine Obls.cons ?_ (Obls.cons ?_ (Obls.cons ?_ (Obls.cons ?_ (Obls.cons ?_ (Obls.cons ?_ (Obls.cons ?_ (Obls.cons ?_ (Obls.cons ?_ (Obls.cons ?_ (Obls.cons ?_ (Obls.cons ?_ (Obls.cons ?_ (Obls.cons ?_ (Obls.cons ?_ (Obls.cons ?_ (Obls.cons ?_ (Obls.cons ?_ (Obls.cons ?_ (Obls.cons ?_ (Obls.cons ?_ (Obls.cons ?_ (Obls.cons ?_ (Obls.cons ?_ (Obls.cons ?_ (Obls.cons ?_ (Obls.cons ?_ (Obls.cons ?_ (Obls.cons ?_ (Obls.cons ?_ (Obls.cons ?_ (Obls.cons ?_ (Obls.cons ?_ (Obls.cons ?_ (Obls.cons ?_ (Obls.cons ?_ (Obls.cons ?_ (Obls.cons ?_ (Obls.cons ?_ (Obls.cons ?_ (Obls.nil))))))))))))))))))))))))))))))))))))))))
            · intro ev wy hp hl hk hd
              have e7 : ev _ = .pointer (some ⟨rx, 0, none⟩) := hk 7 (by decide)
              exact Yield.oq (by simp [execOp, go_sem, e7])
            · intro ev wy hp hl hk hd
              have e101 : ev _ = _ := hk 101 (by decide)
              exact Yield.op (v := .agg #[.int .i64 XT, .slice u1 v1 t1, .slice u2 v2 t2]) (w' := wy) (by simp [execOp, go_sem, e101, show ∀ j, wy.cell? ⟨rx, j, none⟩ = _ from fun j => cell_of_heap (heap_ext HB9.out hl) j]) ⟨Ext.refl _, rfl⟩
            · intro ev wy hp hl hk hd
              have e3 : ev _ = .pointer (some ⟨q, 0, none⟩) := hk 3 (by decide)
              exact Yield.oq (by simp [execOp, go_sem, e3])
            · intro ev wy hp hl hk hd
              have e103 : ev _ = _ := hk 103 (by decide)
              exact Yield.op (v := .slice (some ⟨g, 0, none⟩) (m + 1) c) (w' := wy) (by simp [execOp, go_sem, e103, (HCE.out wy (HE9.out.trans hl)).1]) ⟨Ext.refl _, rfl⟩
            · intro ev wy hp hl hk hd
              have e13 : ev _ = .int .i64 (i : Nat) := hk 13 (by decide)
              exact Yield.mv rfl ⟨Ext.refl _, e13⟩
            · intro ev wy hp hl hk hd
              have e104 : ev _ = _ := hk 104 (by decide)
              have e105 : ev _ = _ := hk 105 (by decide)
              exact Yield.op (v := .pointer (some ⟨g, i * 3, none⟩)) (w' := wy) (by simp [execOp, go_sem, e104, e105]; omega) ⟨Ext.refl _, rfl⟩
            · intro ev wy hp hl hk hd
              have e106 : ev _ = _ := hk 106 (by decide)
              exact Yield.op (v := .agg #[.int .i64 XT, .slice j1 j2 j3, .slice j4 j5 j6]) (w' := wy) (by simp [execOp, go_sem, e106, cellExt ((HE1.out.trans HE9.out).trans hl) HJ3.out.1, cellExt ((HE1.out.trans HE9.out).trans hl) HJ3.out.2.1, cellExt ((HE1.out.trans HE9.out).trans hl) HJ3.out.2.2]) ⟨Ext.refl _, rfl⟩
            · intro ev wy hp hl hk hd
              have e102 : ev _ = _ := hk 102 (by decide)
              have e107 : ev _ = _ := hk 107 (by decide)
              refine Yield.call rfl hp Try.func27 rfl (by kernel_rfl) ?_
              simp only [List.map_toArray, List.map_cons, List.map_nil, e102, e107]
              exact (HSAME.out wy hl).mono fun _ _ ⟨he, hb⟩ => ⟨_, he, hb, by first | rfl | simp⟩
            · intro ev wy hp hl hk hd
              have e108 : ev _ = _ := hk 108 (by decide)
              exact Yield.oq (by simp [execOp, go_sem, e108])
            · intro ev wy hp hl hk hd
              have e109 : ev _ = _ := hk 109 (by decide)
              exact Yield.mv rfl ⟨Ext.refl _, e109⟩
            · intro ev wy hp hl hk hd
              have e7 : ev _ = .pointer (some ⟨rx, 0, none⟩) := hk 7 (by decide)
              refine ⟨fun _ _ _ => ?_, fun _ hx hne => absurd hx hne⟩
              exact Yield.op (v := .pointer (some ⟨rx, 4, none⟩)) (w' := wy) (by simp [execOp, go_sem, e7]) ⟨Ext.refl _, rfl⟩
            · intro ev wy hp hl hk hd
              have e111 : ev _ = _ := hk 111 (by decide)
              refine ⟨fun _ _ _ => ?_, fun _ hx hne => absurd hx hne⟩
              exact Yield.op (v := .bool false) (w' := wy) (by simp [execOp, go_sem, e111, show ∀ j, wy.cell? ⟨rx, j, none⟩ = _ from fun j => cell_of_heap (heap_ext HB9.out hl) j]) ⟨Ext.refl _, rfl⟩
            · intro ev wy hp hl hk hd
              have e14 : ev _ = .bool false := hk 14 (by decide)
              refine ⟨fun _ _ _ => ?_, fun _ hx hne => absurd hx hne⟩
              exact Yield.mv rfl ⟨Ext.refl _, e14⟩
            · intro ev wy hp hl hk hd
              have e112 : ev _ = _ := hk 112 (by decide)
              have e113 : ev _ = _ := hk 113 (by decide)
              refine ⟨fun _ _ _ => ?_, fun _ hx hne => absurd hx hne⟩
              exact Yield.op (v := .bool false) (w' := wy) (by simp [execOp, go_sem, e112, e113]) ⟨Ext.refl _, rfl⟩
            · intro ev wy hp hl hk hd
              have e110 : ev _ = _ := hk 110 (by decide)
              have e114 : ev _ = _ := hk 114 (by decide)
              exact Yield.pick (t := false) rfl e110 ⟨Ext.refl _, e114⟩
            · intro ev wy hp hl hk hd
              have e115 : ev _ = _ := hk 115 (by decide)
              exact Yield.mv rfl ⟨Ext.refl _, e115⟩
            · intro ev wy hp hl hk hd
              have e14 : ev _ = .bool false := hk 14 (by decide)
              refine ⟨fun _ _ _ => ?_, fun _ hx hne => absurd hx hne⟩
              exact Yield.mv rfl ⟨Ext.refl _, e14⟩
            · intro ev wy hp hl hk hd
              have e117 : ev _ = _ := hk 117 (by decide)
              refine ⟨fun _ _ _ => ?_, fun _ hx hne => absurd hx hne⟩
              exact Yield.mv rfl ⟨Ext.refl _, e117⟩
            · intro ev wy hp hl hk hd
              have e7 : ev _ = .pointer (some ⟨rx, 0, none⟩) := hk 7 (by decide)
              exact ⟨fun x hx he => (by rw [show x = .bool false from hx] at he; cases he), fun _ _ _ => rfl⟩
            · intro ev wy hp hl hk hd
              have e119 : ev _ = _ := hk 119 (by decide)
              exact ⟨fun x hx he => (by rw [show x = .bool false from hx] at he; cases he), fun _ _ _ => rfl⟩
            · intro ev wy hp hl hk hd
              have e120 : ev _ = _ := hk 120 (by decide)
              exact ⟨fun x hx he => (by rw [show x = .bool false from hx] at he; cases he), fun _ _ _ => rfl⟩
            · intro ev wy hp hl hk hd
              have e3 : ev _ = .pointer (some ⟨q, 0, none⟩) := hk 3 (by decide)
              exact ⟨fun x hx he => (by rw [show x = .bool false from hx] at he; cases he), fun _ _ _ => rfl⟩
            · intro ev wy hp hl hk hd
              have e122 : ev _ = _ := hk 122 (by decide)
              exact ⟨fun x hx he => (by rw [show x = .bool false from hx] at he; cases he), fun _ _ _ => rfl⟩
            · intro ev wy hp hl hk hd
              have e13 : ev _ = .int .i64 (i : Nat) := hk 13 (by decide)
              exact ⟨fun x hx he => (by rw [show x = .bool false from hx] at he; cases he), fun _ _ _ => rfl⟩
            · intro ev wy hp hl hk hd
              have e123 : ev _ = _ := hk 123 (by decide)
              have e124 : ev _ = _ := hk 124 (by decide)
              exact ⟨fun x hx he => (by rw [show x = .bool false from hx] at he; cases he), fun _ _ _ => rfl⟩
            · intro ev wy hp hl hk hd
              have e125 : ev _ = _ := hk 125 (by decide)
              exact ⟨fun x hx he => (by rw [show x = .bool false from hx] at he; cases he), fun _ _ _ => rfl⟩
            · intro ev wy hp hl hk hd
              have e121 : ev _ = _ := hk 121 (by decide)
              have e126 : ev _ = _ := hk 126 (by decide)
              exact ⟨fun x hx he => (by rw [show x = .bool false from hx] at he; cases he), fun _ _ _ => rfl⟩
            · intro ev wy hp hl hk hd
              have e127 : ev _ = _ := hk 127 (by decide)
              exact ⟨fun x hx he => (by rw [show x = .bool false from hx] at he; cases he), fun _ _ _ => rfl⟩
            · intro ev wy hp hl hk hd
              have e118 : ev _ = _ := hk 118 (by decide)
              have e128 : ev _ = _ := hk 128 (by decide)
              refine ⟨fun _ _ _ => ?_, fun _ hx hne => absurd hx hne⟩
              exact Yield.pick (t := false) rfl e118 ⟨Ext.refl _, hp.const _⟩
            · intro ev wy hp hl hk hd
              have e116 : ev _ = _ := hk 116 (by decide)
              have e129 : ev _ = _ := hk 129 (by decide)
              exact Yield.pick (t := false) rfl e116 ⟨Ext.refl _, e129⟩
            · intro ev wy hp hl hk hd
              have e130 : ev _ = _ := hk 130 (by decide)
              exact Yield.mv rfl ⟨Ext.refl _, e130⟩
            · intro ev wy hp hl hk hd
              have e14 : ev _ = .bool false := hk 14 (by decide)
              refine ⟨fun _ _ _ => ?_, fun _ hx hne => absurd hx hne⟩
              exact Yield.mv rfl ⟨Ext.refl _, e14⟩
            · intro ev wy hp hl hk hd
              have e132 : ev _ = _ := hk 132 (by decide)
              refine ⟨fun _ _ _ => ?_, fun _ hx hne => absurd hx hne⟩
              exact Yield.op (v := .bool true) (w' := wy) (by simp [execOp, go_sem, e132]) ⟨Ext.refl _, rfl⟩
            · intro ev wy hp hl hk hd
              have e133 : ev _ = _ := hk 133 (by decide)
              refine ⟨fun _ _ _ => ?_, fun _ hx hne => absurd hx hne⟩
              exact Yield.mv rfl ⟨Ext.refl _, e133⟩
            · intro ev wy hp hl hk hd
              have e7 : ev _ = .pointer (some ⟨rx, 0, none⟩) := hk 7 (by decide)
              refine ⟨fun _ _ _ => ?_, fun _ hx hne => absurd hx hne⟩
              exact Yield.op (v := .pointer (some ⟨rx, 3, none⟩)) (w' := wy) (by simp [execOp, go_sem, e7]) ⟨Ext.refl _, rfl⟩
            · intro ev wy hp hl hk hd
              have e135 : ev _ = _ := hk 135 (by decide)
              refine ⟨fun _ _ _ => ?_, fun _ hx hne => absurd hx hne⟩
              exact Yield.op (v := .slice u3 0 t3) (w' := wy) (by simp [execOp, go_sem, e135, show ∀ j, wy.cell? ⟨rx, j, none⟩ = _ from fun j => cell_of_heap (heap_ext HB9.out hl) j]) ⟨Ext.refl _, rfl⟩
            · intro ev wy hp hl hk hd
              have e136 : ev _ = _ := hk 136 (by decide)
              refine ⟨fun _ _ _ => ?_, fun _ hx hne => absurd hx hne⟩
              exact Yield.op (v := .int .i64 0) (w' := wy) (by simp [execOp, go_sem, e136]) ⟨Ext.refl _, rfl⟩
            · intro ev wy hp hl hk hd
              have e137 : ev _ = _ := hk 137 (by decide)
              refine ⟨fun _ _ _ => ?_, fun _ hx hne => absurd hx hne⟩
              exact Yield.op (v := .bool false) (w' := wy) (by simp [execOp, go_sem, e137, hp.const]) ⟨Ext.refl _, rfl⟩
            · intro ev wy hp hl hk hd
              have e134 : ev _ = _ := hk 134 (by decide)
              have e138 : ev _ = _ := hk 138 (by decide)
              refine ⟨fun _ _ _ => ?_, fun _ hx hne => absurd hx hne⟩
              exact Yield.pick (t := true) rfl e134 ⟨Ext.refl _, e138⟩
            · intro ev wy hp hl hk hd
              have e131 : ev _ = _ := hk 131 (by decide)
              have e139 : ev _ = _ := hk 139 (by decide)
              exact Yield.pick (t := false) rfl e131 ⟨Ext.refl _, e139⟩
          · intro vals wz hz hv
            have g101 : vals 0 = _ := hv 0 (by decide)
            have g102 : vals 1 = _ := hv 1 (by decide)
            have g103 : vals 2 = _ := hv 2 (by decide)
            have g104 : vals 3 = _ := hv 3 (by decide)
            have g105 : vals 4 = _ := hv 4 (by decide)
            have g106 : vals 5 = _ := hv 5 (by decide)
            have g107 : vals 6 = _ := hv 6 (by decide)
            have g108 : vals 7 = _ := hv 7 (by decide)
            have g109 : vals 8 = _ := hv 8 (by decide)
            have g110 : vals 9 = _ := hv 9 (by decide)
            have g111 : vals 10 = _ := hv 10 (by decide)
            have g112 : vals 11 = _ := hv 11 (by decide)
            have g113 : vals 12 = _ := hv 12 (by decide)
            have g114 : vals 13 = _ := hv 13 (by decide)
            have g115 : vals 14 = _ := hv 14 (by decide)
            have g116 : vals 15 = _ := hv 15 (by decide)
            have g117 : vals 16 = _ := hv 16 (by decide)
            have g118 : vals 17 = _ := hv 17 (by decide)
            have g119 : vals 18 = _ := hv 18 (by decide)
            have g120 : vals 19 = _ := hv 19 (by decide)
            have g121 : vals 20 = _ := hv 20 (by decide)
            have g122 : vals 21 = _ := hv 21 (by decide)
            have g123 : vals 22 = _ := hv 22 (by decide)
            have g124 : vals 23 = _ := hv 23 (by decide)
            have g125 : vals 24 = _ := hv 24 (by decide)
            have g126 : vals 25 = _ := hv 25 (by decide)
            have g127 : vals 26 = _ := hv 26 (by decide)
            have g128 : vals 27 = _ := hv 27 (by decide)
            have g129 : vals 28 = _ := hv 28 (by decide)
            have g130 : vals 29 = _ := hv 29 (by decide)
            have g131 : vals 30 = _ := hv 30 (by decide)
            have g132 : vals 31 = _ := hv 31 (by decide)
            have g133 : vals 32 = _ := hv 32 (by decide)
            have g134 : vals 33 = _ := hv 33 (by decide)
            have g135 : vals 34 = _ := hv 34 (by decide)
            have g136 : vals 35 = _ := hv 35 (by decide)
            have g137 : vals 36 = _ := hv 36 (by decide)
            have g138 : vals 37 = _ := hv 37 (by decide)
            have g139 : vals 38 = _ := hv 38 (by decide)
            have g140 : vals 39 = _ := hv 39 (by decide)
            clear hv
            simp only [putAll, Act.put, List.setIfInBounds_toArray, List.set_cons_zero, List.set_cons_succ, g101, g102, g103, g104, g105, g106, g107, g108, g109, g110, g111, g112, g113, g114, g115, g116, g117, g118, g119, g120, g121, g122, g123, g124, g125, g126, g127, g128, g129, g130, g131, g132, g133, g134, g135, g136, g137, g138, g139, g140]
            clear g101 g102 g103 g104 g105 g106 g107 g108 g109 g110 g111 g112 g113 g114 g115 g116 g117 g118 g119 g120 g121 g122 g123 g124 g125 g126 g127 g128 g129 g130 g131 g132 g133 g134 g135 g136 g137 g138 g139 g140
            have HZ2 := Lib.hid (HE9.out.trans hz)
            clear hz z0 z1
            go_wp2_with fail
            go_roundw
            case rel => exact ⟨k + 1, _, rfl, by omega, by have := HT.out; congr 1; omega, HZ2⟩
            case measure => simp [intOf]; have := HT.out; omega
end Go.Proofs.Ytkpcmedmiiohnaa
