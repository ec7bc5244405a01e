/-
  RegisterFinds: each record of a term that is over is found where it stands, by how many stand ahead of it: for every input the statement's function returns true, and leaves what came in as it was.
-/
import Derived.Test.YtkpcmedmiiohnaaBsRgM
namespace Go.Proofs.Ytkpcmedmiiohnaa
set_option linter.unusedSimpArgs false
set_option linter.unusedVariables false
open Go.ChangeShapes Go.WideShapes Go.ChangeAt Go.RowKit

theorem Reg.Ok.starts_le {R : List Reg.Row} (h : Reg.Ok R) : ∀ j (hj : j < R.length) i (hi : i ≤ j), (R[i]'(by omega)).start ≤ R[j].start := by
  intro j
  induction j with
  | zero => intro hj i hi; obtain rfl : i = 0 := by omega
            exact Int.le_refl _
  | succ j ih =>
    intro hj i hi
    rcases Nat.lt_or_ge i (j + 1) with q | q
    · have h1 := ih (by omega) i (by omega)
      have h2 := h.starts j hj
      have h3 := (h.many R[j] (List.getElem_mem _)).1
      rw [h2]
      omega
    · obtain rfl : i = j + 1 := by omega
      exact Int.le_refl _
/-- A record is found where it stands. -/
theorem Reg.Ok.found {R : List Reg.Row} (h : Reg.Ok R) (i : Nat) (hi : i < R.length) (n t x code : Int) (hn : 0 ≤ n) (hf : Reg.FindIs R (R[i].start + n) t x code) : code = 0 ∧ ((∀ hj : i + 1 < R.length, n < R[i + 1].start - R[i].start) → t = R[i].c.term ∧ x = n) := by
  have h0 := (h.start_bound i hi).1
  rcases hf with ⟨h1, _⟩ | ⟨rfl, j, hj, h1, h2, rfl, rfl⟩
  · omega
  refine ⟨rfl, fun hlt => ?_⟩
  have hij : j = i := by
    rcases Nat.lt_trichotomy j i with q | q | q
    · have := h2 i hi q
      omega
    · exact q
    · exfalso
      have h3 := hlt (by omega)
      have h4 := h.starts_le j hj (i + 1) q
      omega
  subst hij
  exact ⟨rfl, by omega⟩
set_option maxRecDepth 100000 in
set_option maxHeartbeats 20000000 in
theorem registerFinds_walk (cv : Value) (c : Term.C) (a : Option Addr) (len cap : Nat) (l : List Reg.Op) (n : Int) (W : World) (hcv : IsConf W cv c) (hv : Ops14 W (.slice a len cap) l) (hwd : ∀ o ∈ l, o.Wide) :
    Calls Try.prog 5 #[cv, .slice a len cap, .int .i64 n] W fun e W' => e = .returned (.bool true) ∧ Below W.heap.size W W' := by
  obtain ⟨hn, hcap, hmax⟩ := hv.len
  have HCV := Lib.hid hcv
  have HV := Lib.hid hv
  have HWD := Lib.hid hwd
  have HN := Lib.hid hn
  obtain ⟨s, d, rfl, hs, hd⟩ := hcv
  obtain ⟨a0, n0, k0, rfl⟩ := hs.isSlice
  obtain ⟨a1, k1, rfl, _⟩ := hd.open
  obtain ⟨n1, hn1⟩ : ∃ z, c.shards.length = z := ⟨_, rfl⟩
  obtain ⟨tc, htc⟩ : ∃ z, c.term = z := ⟨_, rfl⟩
  unfold confV at HCV ⊢
  rw [hn1, htc] at HCV ⊢
  have hbad : ∀ w1, Ext W w1 → Calls Try.prog 8 #[] w1 fun e w' => e = .returned (.bool true) ∧ Below W.heap.size W w' := fun w1 h => (alive14_any w1).mono fun e w' q => ⟨q.1, h.trans q.2⟩
  have HBAD := Lib.hid hbad
  obtain ⟨w1, hw1⟩ : ∃ z, W.alloc (.cells #[.int .i64 tc, .slice a0 n0 k0, .slice a1 n1 k1] 25) = z := ⟨_, rfl⟩
  obtain ⟨q, hq⟩ : ∃ z, W.heap.size = z := ⟨_, rfl⟩
  have hE1 : Ext W w1 := by rw [← hw1]; exact Ext.alloc _ _
  have hc1 : w1.heap[q]? = some (.cells #[.int .i64 tc, .slice a0 n0 k0, .slice a1 n1 k1] 25 (0, 0)) := by rw [← hw1, ← hq]; exact heap_alloc_new _ _
  have HW1 := Lib.hid (And.intro hw1 hq)
  have HE1 := Lib.hid (And.intro hE1 hc1)
  have y0 := cell_of_heap hc1 0
  have y1 := cell_of_heap hc1 1
  have y2 := cell_of_heap hc1 2
  simp only [List.getElem?_toArray, List.getElem?_cons_zero, List.getElem?_cons_succ] at y0 y1 y2
  have hnew := new14_any _ c w1 (HCV.out.below hE1)
  have HNEW := Lib.hid hnew
  clear hn hs hd hE1 hw1 hq hc1 htc hn1 hbad hnew hv hwd
  go_enter Try.func5, Try.ntmps5
  go_upto_region 1 with fail
  rw [HW1.out.1, HW1.out.2]
  go_wp2_with fail
  refine HNEW.out.mono ?_
  rintro e w2 (⟨hn, rfl, hE2⟩ | ⟨p, hcr, rfl, hr, hE2⟩)
  · have HE2 := Lib.hid (HE1.out.1.trans hE2)
    clear hE2
    go_wp2_with fail
    refine (HBAD.out _ HE2.out).mono ?_
    rintro e w3 ⟨rfl, hE3⟩
    go_wp2_with fail
    go_ret
    exact ⟨rfl, hE3⟩
  obtain ⟨B, hB⟩ : ∃ z, w1.heap.size = z := ⟨_, rfl⟩
  rw [hB] at hr
  have hst2 : Seat14 W B p [⟨c, [], 0⟩] w2 := ⟨hr, HE1.out.1.trans hE2, by rw [← hB]; exact HE1.out.1.size, by rw [← hB]; exact hE2.size, fun x hx => by rw [List.mem_singleton.1 hx]; simp⟩
  have HST2 := Lib.hid hst2
  have z0 := cellExt hE2 y0
  have z1 := cellExt hE2 y1
  have z2 := cellExt hE2 y2
  clear hr hE2 hst2 y0 y1 y2 hB
  go_wp2_with fail
  refine (few14_any _ c _ l w2 (HCV.out.below HST2.out.ext) (HV.out.below HST2.out.ext)).mono ?_
  rintro e w3 ⟨⟨b, rfl⟩, hE3⟩
  have HST3 := Lib.hid (HST2.out.later hE3)
  clear hE3 z0 z1 z2
  cases b with
  | false =>
    go_wp2_with fail
    refine (HBAD.out _ HST3.out.ext).mono ?_
    rintro e w3 ⟨rfl, hE3⟩
    go_wp2_with fail
    go_ret
    exact ⟨rfl, hE3⟩
  | true =>
    by_cases hneg : n < 0
    · go_wp2_with fail
      refine (HBAD.out _ HST3.out.ext).mono ?_
      rintro e w3 ⟨rfl, hE3⟩
      go_wp2_with fail
      go_ret
      exact ⟨rfl, hE3⟩
    by_cases hbig : 1099511627776 < n
    · go_wp2_with fail
      refine (HBAD.out _ HST3.out.ext).mono ?_
      rintro e w3 ⟨rfl, hE3⟩
      go_wp2_with fail
      go_ret
      exact ⟨rfl, hE3⟩
    go_wp2_with fail
    go_loopw [46] (fun i wx => ∃ (k : Nat) (R : List Reg.Row) (wr : World), wr = wx ∧ k ≤ len ∧ i = .int .i64 k ∧ Hid (Seat14 W B p R wr)) (fun i _ => len - (intOf i).toNat)
    case atStart => exact ⟨0, _, _, rfl, by omega, rfl, HST3⟩
    case round =>
      obtain ⟨k, R, wo, hwo, hk, rfl, hI⟩ := hrel
      subst hwo
      by_cases hlt : k < len
      case neg =>
        obtain rfl : k = len := by omega
        have HST5 := Lib.hid hI.out
        have HOK := Lib.hid hI.out.reg.ok
        clear hI
        go_wp2_with fail
        refine (first14_any HST5.out.reg).mono ?_
        rintro e w6 ⟨rfl, hww⟩
        subst hww
        obtain ⟨F, hF⟩ : ∃ z, Reg.first R = z := ⟨_, rfl⟩
        have HF := Lib.hid hF
        rw [hF]
        have hb := HOK.out.first_pos
        have hcur : Reg.current R = Reg.first R + (R.length : Int) - 1 := rfl
        rw [hcur, hF] at hb
        obtain ⟨N, hN⟩ : ∃ z, R.length = z := ⟨_, rfl⟩
        rw [hN] at hb
        have hN1 : 1 ≤ N := by have := HOK.out.ne; omega
        have HN2 := Lib.hid (show R.length = N ∧ Reg.current R = F + (N : Int) - 1 from ⟨hN, by rw [hcur, hF, hN]⟩)
        clear hF hcur hN
        go_wp2_with fail
        go_loopw [11] (fun tt wx => ∃ (i : Nat) (wr : World), wr = wx ∧ i ≤ N ∧ tt = .int .i64 (F + (i : Int)) ∧ Hid (Seat14 W B p R wr)) (fun tt _ => N - (intOf tt - F).toNat)
        case atStart => exact ⟨0, _, rfl, by omega, by simp, HST5⟩
        case round =>
          obtain ⟨i, wi, hwi, hi, rfl, hJ⟩ := hrel
          subst hwi
          go_wp2_with fail
          refine (current14_any hJ.out.reg).mono ?_
          rintro e w7 ⟨rfl, hE7⟩
          rw [HN2.out.2]
          have HST7 := Lib.hid (hJ.out.later hE7)
          clear hE7 hJ
          by_cases hiN : i < N
          case neg =>
            obtain rfl : i = N := by omega
            go_wp2_with fail
            refine (HBAD.out _ HST7.out.ext).mono ?_
            rintro e w8 ⟨rfl, hE8⟩
            go_wp2_with fail
            go_ret
            exact ⟨rfl, hE8⟩
          have hw64 : IntKind.i64.wrap (F + 64) = F + 64 := IntWalk.i64_in _ (by omega)
          have hwF : IntKind.i64.wrap (F + (i : Int) + 1) = F + (i : Int) + 1 := IntWalk.i64_in _ (by omega)
          go_wp2_with fail
          refine (first14_any HST7.out.reg).mono ?_
          rintro e w8 ⟨rfl, hww⟩
          subst hww
          rw [HF.out]
          go_wp2_with fail
          have hiR : i < R.length := by rw [HN2.out.1]; exact hiN
          obtain ⟨j, hj, _, hlk, hjt⟩ := HOK.out.look_some (t := F + (i : Int)) (by rw [HF.out]; omega) (by rw [HN2.out.2]; omega)
          rw [HF.out] at hjt
          obtain rfl : j = i := by omega
          have hsb := HOK.out.start_bound j hj
          have hrt := HOK.out.term j hj
          rw [HF.out] at hrt
          refine (start14_any (F + (j : Int)) HST7.out.reg).mono ?_
          rintro e w9 ⟨he, hE9⟩
          rw [hlk] at he
          subst he
          have HST9 := Lib.hid (HST7.out.later hE9)
          obtain ⟨A, hA⟩ : ∃ z, R[j].start = z := ⟨_, rfl⟩
          simp only [hA]
          rw [hA] at hsb
          have HFD := Lib.hid (fun t x code h => HOK.out.found j hj n t x code (by omega) h)
          rw [hA] at HFD
          have HRT := Lib.hid (And.intro hrt hA)
          clear hlk hE9 hrt hjt hA
          go_wp2_with fail
          refine (start14_any (F + (j : Int) + 1) HST9.out.reg).mono ?_
          rintro e w10 ⟨he, hE10⟩
          have HST10 := Lib.hid (HST9.out.later hE10)
          clear hE10
          have hlenR := HN2.out.1
          have hwA : IntKind.i64.wrap (A + n) = A + n := IntWalk.i64_in _ (by omega)
          have HPOS := Lib.hid (show A + n ≤ 9223372036854775807 by omega)
          by_cases hlast : j + 1 < N
          · have hj1 : j + 1 < R.length := by omega
            obtain ⟨j2, hj2, _, hlk2, hjt2⟩ := HOK.out.look_some (t := F + (j : Int) + 1) (by rw [HF.out]; omega) (by rw [HN2.out.2]; omega)
            rw [HF.out] at hjt2
            obtain rfl : j2 = j + 1 := by omega
            rw [hlk2] at he
            subst he
            have hle := HOK.out.starts_le (j + 1) hj1 j (by omega)
            have hsb2 := HOK.out.start_bound (j + 1) hj1
            rw [HRT.out.2] at hle
            have HFD2 := Lib.hid (fun t x code h => (HFD.out t x code h))
            obtain ⟨b, hb2⟩ : ∃ z, R[j + 1].start = z := ⟨_, rfl⟩
            simp only [hb2] at hle ⊢
            rw [hb2] at hsb2
            have HBB := Lib.hid (show ∀ h : j + 1 < R.length, R[j + 1].start = b from fun _ => hb2)
            have hba : ¬ b < A := by omega
            have hwS : IntKind.i64.wrap (b - A) = b - A := IntWalk.i64_in _ (by omega)
            clear hlk2 hjt2 hb2 hlenR
            go_wp2_with fail
            refine (find14_any (A + n) HST10.out.reg HPOS.out).mono ?_
            rintro e w11 ⟨t, x, code, rfl, hf, hE11⟩
            obtain ⟨rfl, himp⟩ := HFD.out t x code hf
            obtain ⟨w12, hw12⟩ : ∃ z, w11.alloc (.cells #[.int .i64 t, .int .i64 x] 49) = z := ⟨_, rfl⟩
            obtain ⟨rs, hrs⟩ : ∃ z, w11.heap.size = z := ⟨_, rfl⟩
            have hE12 : Ext w11 w12 := by rw [← hw12]; exact Ext.alloc _ _
            have hB12 : w12.heap[rs]? = some (.cells #[.int .i64 t, .int .i64 x] 49 (0, 0)) := by rw [← hw12, ← hrs]; exact heap_alloc_new _ _
            have HW12 := Lib.hid (And.intro hw12 hrs)
            have s0 := cell_of_heap hB12 0
            have s1 := cell_of_heap hB12 1
            simp only [List.getElem?_toArray, List.getElem?_cons_zero, List.getElem?_cons_succ] at s0 s1
            have HST12 := Lib.hid (HST10.out.later (hE11.trans hE12))
            have HIMP := Lib.hid himp
            clear hf hE11 hw12 hrs hE12 hB12 himp
            go_upto_region 17 with fail
            rw [HW12.out.1, HW12.out.2]
            by_cases hnb : n < b - A
            · obtain ⟨rfl, rfl⟩ := HIMP.out (fun h => by rw [HBB.out h]; exact hnb)
              rw [HRT.out.1] at s0
              go_wp2_with fail
              go_roundw
              case rel => exact ⟨j + 1, _, rfl, by omega, by congr 1; omega, HST12⟩
              case measure => simp [intOf]; omega
            · go_wp2_with fail
              go_roundw
              case rel => exact ⟨j + 1, _, rfl, by omega, by congr 1; omega, HST12⟩
              case measure => simp [intOf]; omega
          · have hno := (Reg.look_none (R := R) (t := F + (j : Int) + 1) (by rw [HN2.out.2]; omega)).2
            rw [hno] at he
            subst he
            clear hno hlenR
            go_wp2_with fail
            refine (find14_any (A + n) HST10.out.reg HPOS.out).mono ?_
            rintro e w11 ⟨t, x, code, rfl, hf, hE11⟩
            obtain ⟨rfl, himp⟩ := HFD.out t x code hf
            obtain ⟨rfl, rfl⟩ := himp (fun h => by rw [HN2.out.1] at h; omega)
            obtain ⟨w12, hw12⟩ : ∃ z, w11.alloc (.cells #[.int .i64 (F + (j : Int)), .int .i64 x] 49) = z := ⟨_, rfl⟩
            obtain ⟨rs, hrs⟩ : ∃ z, w11.heap.size = z := ⟨_, rfl⟩
            have hE12 : Ext w11 w12 := by rw [← hw12]; exact Ext.alloc _ _
            have hB12 : w12.heap[rs]? = some (.cells #[.int .i64 (F + (j : Int)), .int .i64 x] 49 (0, 0)) := by rw [← hw12, ← hrs]; exact heap_alloc_new _ _
            have HW12 := Lib.hid (And.intro hw12 hrs)
            have s0 := cell_of_heap hB12 0
            have s1 := cell_of_heap hB12 1
            simp only [List.getElem?_toArray, List.getElem?_cons_zero, List.getElem?_cons_succ] at s0 s1
            have HST12 := Lib.hid (HST10.out.later (hE11.trans hE12))
            rw [HRT.out.1]
            clear hf hE11 hw12 hrs hE12 hB12 himp
            go_upto_region 17 with fail
            rw [HW12.out.1, HW12.out.2]
            go_wp2_with fail
            go_roundw
            case rel => exact ⟨j + 1, _, rfl, by omega, by congr 1; omega, HST12⟩
            case measure => simp [intOf]; omega
      have hkl : k < l.length := by rw [← HN.out]; exact hlt
      obtain ⟨b, off, b1, m1, d1, b2, m2, d2, b3, m3, d3, rfl, hop⟩ := HV.out.at k hkl
      have hwide := HWD.out _ (List.getElem_mem hkl)
      obtain ⟨o, hO⟩ : ∃ o, l[k] = o := ⟨_, rfl⟩
      rw [hO] at hop hwide
      have HOP := Lib.hid hop
      have HWI := Lib.hid hwide
      obtain ⟨p0, p1, p2, p3, _, _, _⟩ := hop.below hI.out.ext
      obtain ⟨OT, hOT⟩ : ∃ z, o.c.term = z := ⟨_, rfl⟩
      rw [hOT] at p0
      have HOT := Lib.hid hOT
      obtain ⟨w7, hw4⟩ : ∃ z, wo.alloc (.cells #[.int .i64 OT, .slice b1 m1 d1, .slice b2 m2 d2, .slice b3 m3 d3] 41) = z := ⟨_, rfl⟩
      obtain ⟨r, hr⟩ : ∃ z, wo.heap.size = z := ⟨_, rfl⟩
      have hE4 : Ext wo w7 := by rw [← hw4]; exact Ext.alloc _ _
      have hB4 : w7.heap[r]? = some (.cells #[.int .i64 OT, .slice b1 m1 d1, .slice b2 m2 d2, .slice b3 m3 d3] 41 (0, 0)) := by rw [← hw4, ← hr]; exact heap_alloc_new _ _
      have HW4 := Lib.hid (And.intro hw4 hr)
      have HB7 := Lib.hid hB4
      have HST7 := Lib.hid (hI.out.later hE4)
      clear hop hwide hO hOT hw4 hr hE4 hB4 hI hkl
      go_upto_region 7 with fail
      rw [HW4.out.1, HW4.out.2]
      clear p0 p1 p2 p3
      refine wp_region_tail (by kernel_rfl) 6 Ext (fun iop v w => match iop with
          | 0 => v = .pointer (some ⟨p, 0, none⟩)
          | 1 => v = .pointer (some ⟨r, 0, none⟩)
          | 2 => v = .agg #[.int .i64 OT, .slice b1 m1 d1, .slice b2 m2 d2]
          | 3 => v = .pointer (some ⟨r, 3, none⟩)
          | 4 => v = .slice b3 m3 d3
          | _ => ∃ a n c, v = .slice a n c ∧ Ents w (.slice a n c) o.tail
          ) (by kernel_rfl) (by kernel_rfl) (by decide) (fun _ _ _ h k => Ext.trans h k) (fun a => Ext.refl a) (Ext.drew _) ?_ ?_ ?_
      · intro iop v wa wb hF hL
        iterate 5 (rcases iop with _ | iop; exact hF)
        (first | exact hF | (obtain ⟨a, n, c, h1, h2⟩ := hF; exact ⟨a, n, c, h1, h2.below hL⟩))
      · refine Obls.cons ?_ (Obls.cons ?_ (Obls.cons ?_ (Obls.cons ?_ (Obls.cons ?_ (Obls.cons ?_ (Obls.nil))))))
        · intro ev wy hp hl hk hd
          have e7 : ev _ = .pointer (some ⟨p, 0, none⟩) := hk 7 (by decide)
          exact Yield.mv rfl ⟨Ext.refl _, e7⟩
        · intro ev wy hp hl hk hd
          have e10 : ev _ = .pointer (some ⟨r, 0, none⟩) := hk 10 (by decide)
          exact Yield.oq (by simp [execOp, go_sem, e10])
        · intro ev wy hp hl hk hd
          have e51 : ev _ = _ := hk 51 (by decide)
          exact Yield.op (v := .agg #[.int .i64 OT, .slice b1 m1 d1, .slice b2 m2 d2]) (w' := wy) (by simp [execOp, go_sem, e51, show ∀ j, wy.cell? ⟨r, j, none⟩ = _ from fun j => cell_of_heap (heap_ext HB7.out hl) j]) ⟨Ext.refl _, rfl⟩
        · intro ev wy hp hl hk hd
          have e10 : ev _ = .pointer (some ⟨r, 0, none⟩) := hk 10 (by decide)
          exact Yield.oq (by simp [execOp, go_sem, e10])
        · intro ev wy hp hl hk hd
          have e53 : ev _ = _ := hk 53 (by decide)
          exact Yield.op (v := .slice b3 m3 d3) (w' := wy) (by simp [execOp, go_sem, e53, show ∀ j, wy.cell? ⟨r, j, none⟩ = _ from fun j => cell_of_heap (heap_ext HB7.out hl) j]) ⟨Ext.refl _, rfl⟩
        · intro ev wy hp hl hk hd
          have e54 : ev _ = _ := hk 54 (by decide)
          refine Yield.call rfl hp Try.func13 rfl (by kernel_rfl) ?_
          simp only [List.map_toArray, List.map_cons, List.map_nil, e54]
          exact (mine14_any (.slice b3 m3 d3) o.tail wy (HOP.out.tail.below (HST7.out.ext.trans hl)) (by have := HWI.out.2; omega)).mono fun e w' ⟨u, he, ho, hE⟩ => by
            obtain ⟨x1, x2, hx⟩ := ho.isSlice
            subst hx
            exact ⟨_, he, hE, _, _, _, rfl, ho.ents hE⟩
      · intro vals wz hz hv
        have g50 : vals 0 = _ := hv 0 (by decide)
        have g51 : vals 1 = _ := hv 1 (by decide)
        have g52 : vals 2 = _ := hv 2 (by decide)
        have g53 : vals 3 = _ := hv 3 (by decide)
        have g54 : vals 4 = _ := hv 4 (by decide)
        have g55 : (fun (v : Value) (w : World) => ∃ a n c, v = .slice a n c ∧ Ents w (.slice a n c) o.tail) (vals 5) wz := hv 5 (by decide)
        clear hv
        simp only [List.take_succ_cons, List.take_zero, List.drop_succ_cons, List.drop_zero]
        simp only [putAll, Act.put, List.setIfInBounds_toArray, List.set_cons_zero, List.set_cons_succ, g50, g51, g52, g53, g54]
        clear g50 g51 g52 g53 g54
        generalize vals 5 = v55 at *
        obtain ⟨e1, e2, e3, rfl, hent⟩ := g55
        have hins := (HST7.out.later hz).install (.slice b1 m1 d1) (.slice b2 m2 d2) (.slice e1 e2 e3) o.c o.tail HOP.out.seqs HOP.out.shards hent (by have := HWI.out.2; omega) HWI.out.1
        rw [HOT.out] at hins
        have HINS := Lib.hid hins
        have HZ := Lib.hid hz
        clear hins hent hz
        go_wp2_with fail
        refine HINS.out.mono ?_
        rintro e w9 ⟨code, R', rfl, hin, hst9, hkp, _⟩
        have HST9 := Lib.hid hst9
        have HB9 := Lib.hid (hkp.at (heap_ext HB7.out HZ.out) (by decide) (by decide))
        clear hin hst9 hkp
        go_wp2_with fail
        go_roundw
        case rel => exact ⟨k + 1, _, _, rfl, by omega, by go_num, HST9⟩
        case measure => simp [intOf]; omega

namespace registerFinds
theorem own : ownKnob Try.prog.godebug = none := by kernel_rfl
theorem laidOut : laidOutB Try.prog = true := by kernel_rfl
set_option linter.unusedVariables false in
set_option maxRecDepth 100000 in
theorem lifted (os : Os) (started : os.Started) (H : Type) (enc : TypeId × Value → H) :
    ReturnsInHanded {} Try.checked os 5 .any (Rows.registerFindsSpec.pre6 enc Try.prog Try.f5 Rows.registerFindsRow.domain false) (Rows.registerFindsSpec.post enc Try.prog Try.f5 false true false false) := by
  refine returnsInHanded_of_change_sized (C := Try.checked) own started (by kernel_rfl) Try.func5
    (ChangeSpec.witness6 (enc := enc) (C := Try.checked) false ⟨#[], #[.agg #[.int .i64 0, .slice none 0 0, .slice none 0 0], .slice none 0 0, .int .i64 0], []⟩ 8 (by kernel_rfl) (by kernel_rfl) (by kernel_rfl) (by kernel_rfl)) ?_
  intro W base args ds gs before hval0 hW hcnd hsz _
  have hval : ∀ (j : Nat) t v, Try.f5.params[j]? = some t → args[j]? = some v → Value.okWide Try.prog W .any base t v := hval0
  have hW' := hW
  obtain ⟨p, q, hA0, hV, rfl, hfz, hnd⟩ := hW'
  have hA : DataW.TrodAll enc Try.prog W 0 (fun _ => true) true Try.f5.params.toList args.toList ds p := hA0
  rw [Try.params5] at hA hval
  obtain ⟨v0, vs0, d0, ds0, p0, q0, hargs, rfl, rfl, h0, r0⟩ := trodAll_cons hA
  obtain ⟨v1, vs1, d1, ds1, p1, q1, rfl, rfl, rfl, h1, r1⟩ := trodAll_cons r0
  obtain ⟨v2, vs2, d2, ds2, p2, q2, rfl, rfl, rfl, h2, r2⟩ := trodAll_cons r1
  obtain ⟨rfl, rfl, rfl⟩ := trodAll_nil r2
  obtain rfl : args = #[v0, v1, v2] := by cases args; simp_all
  obtain ⟨rfl, rfl⟩ := trodVars_none hV
  have k0 := h0
  have lt0 : ∀ x ∈ p0, x.block < W.heap.size := by obtain ⟨m, hm⟩ := k0; exact DataW.trod_lt m _ _ _ hm
  obtain ⟨l0, w0⟩ := conf_arg (hval 0 25 v0 rfl rfl) h0
  have k1 := h1
  have lt1 : ∀ x ∈ p1, x.block < W.heap.size := by obtain ⟨m, hm⟩ := k1; exact DataW.trod_lt m _ _ _ hm
  obtain ⟨a1, len1, cap1, rfl⟩ := okWide_slice Try.underlying26 (hval 1 26 v1 rfl rfl)
  obtain ⟨l1, w1, f1⟩ : ∃ l, Ops14 W (.slice a1 len1 cap1) l ∧ ∀ o ∈ l, o.Wide := by
    obtain ⟨fuel, hf⟩ := h1
    obtain ⟨v, l, hcs, hb, hft⟩ := ops14_of_raw (x := (d1, p1)) hf (fun m hm => of_decide_eq_true (List.all_eq_true.1 hsz _ (DataW.weights_mem_each (j := 1) (by rw [Try.params5]; rfl) rfl m hm)))
    simp [Value.cells] at hcs
    subst hcs
    exact ⟨l, hb, hft⟩
  have k2 := h2
  have lt2 : ∀ x ∈ p2, x.block < W.heap.size := by obtain ⟨m, hm⟩ := k2; exact DataW.trod_lt m _ _ _ hm
  obtain ⟨a2, rfl, _, _, w2⟩ := open_int Try.underlying3 (hval 2 3 v2 rfl rfl) h2
  clear hA0 hval0
  refine (registerFinds_walk v0 l0 a1 len1 cap1 l1 a2 W w0 w1 f1).mono fun e W' ⟨he, bel⟩ => ?_
  subst he
  exact ⟨_, rfl, _, _, _, [], _, [], hW, trodAll_mk1 (shut_bool Try.underlying4 _), (trodAll_cons_mk (Below.trod laidOut (by kernel_rfl) (of_decide_eq_true (by kernel_rfl)) k0 bel lt0) (trodAll_cons_mk (Below.trod laidOut (by kernel_rfl) (of_decide_eq_true (by kernel_rfl)) k1 bel lt1) (trodAll_cons_mk (Below.trod laidOut (by kernel_rfl) (of_decide_eq_true (by kernel_rfl)) k2 bel lt2) trodAll_mk0))), rfl, bel.frame _, fun h => by cases h⟩
theorem over : Rows.registerFindsRow.holds Try.pinned (OpenSpec.ofChange Rows.registerFindsSpec) :=
  OpenClaim.holds_of_wide 5 Try.f5 rfl rfl rfl rfl rfl rfl rfl ⟨rfl, rfl, rfl, rfl, rfl⟩ rfl rfl rfl rfl rfl (by kernel_rfl) Try.func5 (by kernel_rfl)
    (of_decide_eq_true (by kernel_rfl)) (by unfold Func.isWrapper; first | (rw [if_pos (by decide +kernel)]; kernel_rfl) | (rw [if_neg (by decide +kernel)]; exact ⟨rfl, rfl⟩))
    (fun os started H enc _ => lifted os started H enc)
theorem proved : Rows.RegisterFindsSaid := over
end registerFinds
end Go.Proofs.Ytkpcmedmiiohnaa
