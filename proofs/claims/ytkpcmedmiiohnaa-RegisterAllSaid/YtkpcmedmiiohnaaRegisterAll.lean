/-
  RegisterAll: every install of any script is answered as the document says; which terms there are, over with which tails, and where they start, is what it says; who can't be is none: for every input the statement's function returns true, and leaves what came in as it was.
-/
import Derived.Test.YtkpcmedmiiohnaaBsRgS
namespace Go.Proofs.Ytkpcmedmiiohnaa
set_option linter.unusedSimpArgs false
set_option linter.unusedVariables false
open Go.ChangeShapes Go.WideShapes Go.ChangeAt Go.RowKit

theorem Reg.Inst.det {R R1 R2 : List Reg.Row} {c : Term.C} {l : List Ent.E} {a b : Int} (h : Reg.Inst R c l a R1) (k : Reg.Inst R c l b R2) : a = b ∧ R1 = R2 := by
  cases h with
  | bad h => cases k with
    | bad _ => exact ⟨rfl, rfl⟩
    | same g _ _ _ _ _ _ => exact absurd g h
    | other g _ _ _ => exact absurd g h
    | none g _ _ => exact absurd g h
    | next g _ _ _ _ _ => exact absurd g h
  | same g x a hx ha h1 h2 => cases k with
    | bad h => exact absurd g h
    | same _ _ _ _ _ _ _ => exact ⟨rfl, rfl⟩
    | other _ y hy hn =>
      rw [hx] at hy
      injection hy with hy
      subst hy
      exact absurd ⟨a, ha, h1, h2⟩ hn
    | none _ h _ => rw [hx] at h; cases h
    | next _ h _ _ _ _ => rw [hx] at h; cases h
  | other g x hx hn => cases k with
    | bad h => exact absurd g h
    | same _ y a hy ha h1 h2 =>
      rw [hx] at hy
      injection hy with hy
      subst hy
      exact absurd ⟨a, ha, h1, h2⟩ hn
    | other _ _ _ _ => exact ⟨rfl, rfl⟩
    | none _ h _ => rw [hx] at h; cases h
    | next _ h _ _ _ _ => rw [hx] at h; cases h
  | none g hx ha => cases k with
    | bad h => exact absurd g h
    | same _ _ _ h _ _ _ => rw [hx] at h; cases h
    | other _ _ h _ => rw [hx] at h; cases h
    | none _ _ _ => exact ⟨rfl, rfl⟩
    | next _ _ _ _ _ h => rw [ha] at h; cases h
  | next g hx pre a hR ha => cases k with
    | bad h => exact absurd g h
    | same _ _ _ h _ _ _ => rw [hx] at h; cases h
    | other _ _ h _ => rw [hx] at h; cases h
    | none _ _ h => rw [ha] at h; cases h
    | next _ _ pre2 a2 hR2 _ =>
      have e := List.append_inj' (hR.symm.trans hR2) rfl
      have e2 : a = a2 := by simpa using e.2
      rw [e.1, e2]
      exact ⟨rfl, rfl⟩
/-- The register where the document's was written into. -/
theorem IsReg.aside {w w' : World} {B p g : Nat} {R : List Reg.Row} {cs : Array Value} (h : IsReg w B p R) (hg : w.heap[g]? = some (.cells cs 38 (0, 0))) (hb : But g w w') : IsReg w' B p R := by
  obtain ⟨v, L, h1, h2, h3, h4⟩ := h.at'
  have hpg : p ≠ g := by
    intro e
    rw [e, hg] at h1
    injection h1 with h1
    injection h1 with _ h1 _
    exact absurd h1 (by decide)
  refine ⟨⟨v, L, (hb.block p (Array.getElem?_eq_some_iff.1 h1).1 hpg).trans h1, rowBut h2 (rowBeside h2 hg (by decide)) hb, fun r hr => ?_, h4⟩, h.ge, h.ok⟩
  obtain ⟨r1, r2, ps, r3, r4, r5⟩ := h3 r hr
  exact ⟨r1.but hg (by decide) hb, r2.but hg (by decide) (by decide) hb, ps, r3, fun q hq => (r4 q hq).but hg (by decide) hb, rowBut r5 (rowBeside r5 hg (by decide)) hb⟩
theorem RefReg.aside {W w w' : World} {g : Nat} {vL vT : Value} {R : List Reg.Row} {cs : Array Value} (h : RefReg W w vL vT R) (hg : w.heap[g]? = some (.cells cs 38 (0, 0))) (hb : But g w w') : RefReg W w' vL vT R := by
  obtain ⟨⟨L, h1, h2, h3⟩, T, h4, h5, h6⟩ := h
  exact ⟨⟨L, h1, rowBut h2 (rowBeside h2 hg (by decide)) hb, h3⟩, T, h4, rowBut h5 (rowBeside h5 hg (by decide)) hb, h6⟩
def RegX14 (B p : Nat) (R R' : List Reg.Row) (n : Nat) (w : World) : Prop := IsReg w B p (if n = 0 then R else R')
theorem RefReg.first {W w : World} (c : Term.C) (T : TypeId) (s d : Value) (hs : Ints W s c.seqs) (hd : IRows W d c.shards) : RefReg W (w.alloc (.cells #[.int .i64 c.term, s, d] 25)) (.slice (some ⟨w.heap.size, 0, none⟩) 1 1) (.slice none 0 0) [⟨c, [], 0⟩] := by
  refine ⟨⟨[⟨s, d, c⟩], rfl, ?_, fun r hr => by rw [List.mem_singleton.1 hr]; exact ⟨hs, hd⟩⟩, [], rfl, World.ownsRow_nil _ _ _ _, fun r hr => by cases hr⟩
  exact World.ownsRow_lit (e := 25) (size := 3) (base := 0) w #[.int .i64 c.term, s, d] 1 (Nat.zero_le _) (by simp [maxLen]) rfl

set_option maxRecDepth 100000 in
set_option maxHeartbeats 20000000 in
theorem registerAll_walk (cv : Value) (c : Term.C) (a : Option Addr) (len cap : Nat) (l : List Reg.Op) (pos : Int) (W : World) (hcv : IsConf W cv c) (hv : Ops14 W (.slice a len cap) l) (hwd : ∀ o ∈ l, o.Wide) (hpos : Wf64 pos) :
    Calls Try.prog 3 #[cv, .slice a len cap, .int .i64 pos] W fun e W' => e = .returned (.bool true) ∧ Below W.heap.size W W' := by
  obtain ⟨hn, hcap, hmax⟩ := hv.len
  have HPOS := Lib.hid (show pos ≤ 9223372036854775807 by
    unfold Wf64 at hpos
    simp [Lit.wf, IntKind.min, IntKind.max, IntKind.signed, IntKind.bits] at hpos
    omega)
  have HCV := Lib.hid hcv
  have HV := Lib.hid hv
  have HWD := Lib.hid hwd
  have HN := Lib.hid hn
  obtain ⟨s, d, rfl, hs, hd⟩ := hcv
  obtain ⟨a0, n0, k0, rfl⟩ := hs.isSlice
  obtain ⟨a1, k1, rfl, hzz⟩ := hd.open
  have HSD := Lib.hid (And.intro hs hd)
  obtain ⟨n1, hn1⟩ : ∃ z, c.shards.length = z := ⟨_, rfl⟩
  obtain ⟨tc, htc⟩ : ∃ z, c.term = z := ⟨_, rfl⟩
  unfold confV at HCV ⊢
  rw [hn1, htc] at HCV ⊢
  rw [hn1] at HSD
  have HTC := Lib.hid htc
  have hbad : ∀ w1, Ext W w1 → Calls Try.prog 8 #[] w1 fun e w' => e = .returned (.bool true) ∧ Below W.heap.size W w' := fun w1 h => (alive14_any w1).mono fun e w' q => ⟨q.1, h.trans q.2⟩
  have HBAD := Lib.hid hbad
  obtain ⟨w1, hw1⟩ : ∃ z, W.alloc (.cells #[.int .i64 tc, .slice a0 n0 k0, .slice a1 n1 k1] 25) = z := ⟨_, rfl⟩
  obtain ⟨q, hq⟩ : ∃ z, W.heap.size = z := ⟨_, rfl⟩
  have hE1 : Ext W w1 := by rw [← hw1]; exact Ext.alloc _ _
  have hc1 : w1.heap[q]? = some (.cells #[.int .i64 tc, .slice a0 n0 k0, .slice a1 n1 k1] 25 (0, 0)) := by rw [← hw1, ← hq]; exact heap_alloc_new _ _
  have HW1 := Lib.hid (And.intro hw1 hq)
  have HE1 := Lib.hid hE1
  have hcells : ∀ wy, Ext w1 wy → wy.cell? ⟨q, 0, none⟩ = some (.int .i64 tc) ∧ wy.cell? ⟨q, 1, none⟩ = some (.slice a0 n0 k0) ∧ wy.cell? ⟨q, 2, none⟩ = some (.slice a1 n1 k1) := fun wy hy => ⟨cell_of_heap (heap_ext hc1 hy) 0, cell_of_heap (heap_ext hc1 hy) 1, cell_of_heap (heap_ext hc1 hy) 2⟩
  have HCE := Lib.hid hcells
  obtain ⟨y0, y1, y2⟩ := hcells w1 (Ext.refl _)
  clear hn hs hd hE1 hw1 hq hc1 htc hn1 hbad hv hwd hpos hzz hcells
  go_enter Try.func3, Try.ntmps3
  go_upto_region 1 with fail
  rw [HW1.out.1, HW1.out.2]
  go_wp2_with fail
  refine (few14_any _ c _ l w1 (HCV.out.below HE1.out) (HV.out.below HE1.out)).mono ?_
  rintro e w2 ⟨⟨b, rfl⟩, hE2⟩
  have HE2 := Lib.hid hE2
  clear hE2 y0 y1 y2
  obtain ⟨y0, y1, y2⟩ := HCE.out w2 HE2.out
  cases b with
  | false =>
    go_wp2_with fail
    refine (HBAD.out _ (HE1.out.trans HE2.out)).mono ?_
    rintro e w3 ⟨rfl, hE3⟩
    go_wp2_with fail
    go_ret
    exact ⟨rfl, hE3⟩
  | true =>
  go_wp2_with fail
  refine (new14_any _ c w2 (HCV.out.below (HE1.out.trans HE2.out))).mono ?_
  rintro e w3 (⟨hn, rfl, hE3⟩ | ⟨p, hcr, rfl, hr, hE3⟩)
  · have HE3 := Lib.hid (HE2.out.trans hE3)
    have HNR := Lib.hid hn
    clear hE3 hn y0 y1 y2
    obtain ⟨y0, y1, y2⟩ := HCE.out w3 HE3.out
    go_wp2_with fail
    refine (refRight6_any _ c w3 (HCV.out.below (HE1.out.trans HE3.out))).mono ?_
    rw [HNR.out]
    rintro e w4 ⟨rfl, hE4⟩
    have HE4 := Lib.hid (HE3.out.trans hE4)
    clear hE4 y0 y1 y2
    go_wp2_with fail
    refine (alive14_any _).mono ?_
    rintro e w5 ⟨rfl, hE5⟩
    have HE5 := Lib.hid (HE1.out.trans (HE4.out.trans hE5))
    clear hE5
    go_wp2_with fail
    go_ret
    exact ⟨by simp, HE5.out⟩
  obtain ⟨B, hB⟩ : ∃ z, w2.heap.size = z := ⟨_, rfl⟩
  rw [hB] at hr
  have hst2 : Seat14 W B p [⟨c, [], 0⟩] w3 := ⟨hr, HE1.out.trans (HE2.out.trans hE3), by rw [← hB]; exact (HE1.out.trans HE2.out).size, by rw [← hB]; exact hE3.size, fun x hx => by rw [List.mem_singleton.1 hx]; simp⟩
  have HST3 := Lib.hid hst2
  have HE3 := Lib.hid (HE2.out.trans hE3)
  have HCR := Lib.hid hcr
  clear hr hE3 hst2 hB hcr y0 y1 y2
  obtain ⟨y0, y1, y2⟩ := HCE.out w3 HE3.out
  go_wp2_with fail
  refine (refRight6_any _ c w3 (HCV.out.below (HE1.out.trans HE3.out))).mono ?_
  rw [HCR.out]
  rintro e w4 ⟨rfl, hE4⟩
  have HST4 := Lib.hid (HST3.out.later hE4)
  have HE4 := Lib.hid (HE3.out.trans hE4)
  clear hE4 y0 y1 y2
  obtain ⟨y0, y1, y2⟩ := HCE.out w4 HE4.out
  have hrf := RefReg.first (W := W) (w := w4) c 0 (.slice a0 n0 k0) (.slice a1 n1 k1) HSD.out.1 HSD.out.2
  rw [HTC.out] at hrf
  have hE5 := Ext.alloc w4 (.cells #[.int .i64 tc, .slice a0 n0 k0, .slice a1 n1 k1] 25)
  obtain ⟨g0, hg0⟩ : ∃ z, w4.heap.size = z := ⟨_, rfl⟩
  rw [hg0] at hrf
  obtain ⟨w5, hw5⟩ : ∃ z, w4.alloc (.cells #[.int .i64 tc, .slice a0 n0 k0, .slice a1 n1 k1] 25) = z := ⟨_, rfl⟩
  rw [hw5] at hrf hE5
  obtain ⟨w6, hw6⟩ : ∃ z, w5.alloc (.cells #[.slice (some ⟨g0, 0, none⟩) 1 1, .slice none 0 0] 38) = z := ⟨_, rfl⟩
  have hs5 : w5.heap.size = g0 + 1 := by rw [← hw5, World.size_alloc, hg0]
  have hE6 : Ext w5 w6 := by rw [← hw6]; exact Ext.alloc _ _
  have hB6 : w6.heap[g0 + 1]? = some (.cells #[.slice (some ⟨g0, 0, none⟩) 1 1, .slice none 0 0] 38 (0, 0)) := by rw [← hw6, ← hs5]; exact heap_alloc_new _ _
  have HW6 := Lib.hid (And.intro hg0 (And.intro hw5 (And.intro hs5 hw6)))
  have HLP := Lib.hid (And.intro (HST4.out.later (hE5.trans hE6)) (And.intro (hrf.ext hE6) hB6))
  clear hrf hE5 hg0 hw5 hw6 hs5 hE6 hB6
  go_upto_region 9 with fail
  rw [HW6.out.1, HW6.out.2.1]
  try rw [HW6.out.2.2.1]
  try rw [HW6.out.2.2.2]
  obtain ⟨q9, hq9⟩ : ∃ z, g0 + 1 = z := ⟨_, rfl⟩
  rw [hq9] at HLP ⊢
  have HQ9 := Lib.hid hq9
  clear hq9 y0 y1 y2
  go_wp2_with fail
  go_loopw [51] (fun i wx => ∃ (k : Nat) (R : List Reg.Row) (r1 r2 : Option Addr) (r3 r4 r5 r6 : Nat) (wr : World), wr = wx ∧ k ≤ len ∧ i = .int .i64 k ∧ Hid (Seat14 W B p R wr ∧ RefReg W wr (.slice r1 r3 r4) (.slice r2 r5 r6) R ∧ wr.heap[q9]? = some (.cells #[.slice r1 r3 r4, .slice r2 r5 r6] 38 (0, 0)))) (fun i _ => len - (intOf i).toNat)
  case atStart => exact ⟨0, _, _, _, _, _, _, _, _, rfl, by omega, rfl, HLP⟩
  case round =>
      obtain ⟨k, R, r1, r2, r3, r4, r5, r6, wo, hwo, hk, rfl, hI⟩ := hrel
      subst hwo
      by_cases hlt : k < len
      case neg =>
        obtain rfl : k = len := by omega
        go_wp2_with fail
        refine (HBAD.out _ hI.out.1.ext).mono ?_
        rintro e w3 ⟨rfl, hE3⟩
        go_wp2_with fail
        go_ret
        exact ⟨rfl, hE3⟩
      have hkl : k < l.length := by rw [← HN.out]; exact hlt
      obtain ⟨b, off, b1, m1, d1, b2, m2, d2, b3, m3, d3, rfl, hop⟩ := HV.out.at k hkl
      have hwide := HWD.out _ (List.getElem_mem hkl)
      obtain ⟨o, hO⟩ : ∃ o, l[k] = o := ⟨_, rfl⟩
      rw [hO] at hop hwide
      have HOP := Lib.hid hop
      have HWI := Lib.hid hwide
      obtain ⟨p0, p1, p2, p3, _, _, _⟩ := hop.below hI.out.1.ext
      obtain ⟨OT, hOT⟩ : ∃ z, o.c.term = z := ⟨_, rfl⟩
      rw [hOT] at p0
      have HOT := Lib.hid hOT
      obtain ⟨w7, hw4⟩ : ∃ z, wo.alloc (.cells #[.int .i64 OT, .slice b1 m1 d1, .slice b2 m2 d2, .slice b3 m3 d3] 41) = z := ⟨_, rfl⟩
      obtain ⟨r, hr⟩ : ∃ z, wo.heap.size = z := ⟨_, rfl⟩
      have hE4 : Ext wo w7 := by rw [← hw4]; exact Ext.alloc _ _
      have hB4 : w7.heap[r]? = some (.cells #[.int .i64 OT, .slice b1 m1 d1, .slice b2 m2 d2, .slice b3 m3 d3] 41 (0, 0)) := by rw [← hw4, ← hr]; exact heap_alloc_new _ _
      have HW4 := Lib.hid (And.intro hw4 hr)
      have HB7 := Lib.hid hB4
      have HST7 := Lib.hid (hI.out.1.later hE4)
      have HRF7 := Lib.hid (And.intro (hI.out.2.1.ext hE4) (heap_ext hI.out.2.2 hE4))
      have c0 := cell_of_heap hB4 0
      have c1 := cell_of_heap hB4 1
      have c2 := cell_of_heap hB4 2
      have c3 := cell_of_heap hB4 3
      have e0 := cell_of_heap HRF7.out.2 0
      have e1 := cell_of_heap HRF7.out.2 1
      simp only [List.getElem?_toArray, List.getElem?_cons_zero, List.getElem?_cons_succ] at c0 c1 c2 c3 e0 e1
      have hins := refInstall14_any (.slice b1 m1 d1) (.slice b2 m2 d2) (.slice b3 m3 d3) o.c o.tail HRF7.out.1 HST7.out.reg.ok HST7.out.ext HOP.out.seqs HOP.out.shards HOP.out.tail (by have := HWI.out.2; omega) HWI.out.1
      rw [HOT.out] at hins
      have HINS := Lib.hid hins
      clear hop hwide hO hOT hw4 hr hE4 hB4 hI hkl hins
      go_upto_region 12 with fail
      rw [HW4.out.1, HW4.out.2]
      clear p0 p1 p2 p3
      go_wp2_with fail
      refine HINS.out.mono ?_
      rintro e w8 ⟨code, R', x1, x2, x3, x4, x5, x6, rfl, hin, hrf, hE8⟩
      obtain ⟨w9, hw9⟩ : ∃ z, w8.alloc (.cells #[.slice x1 x2 x3, .slice x4 x5 x6] 38) = z := ⟨_, rfl⟩
      obtain ⟨q12, hq12⟩ : ∃ z, w8.heap.size = z := ⟨_, rfl⟩
      have hE9 : Ext w8 w9 := by rw [← hw9]; exact Ext.alloc _ _
      have hB9 : w9.heap[q12]? = some (.cells #[.slice x1 x2 x3, .slice x4 x5 x6] 38 (0, 0)) := by rw [← hw9, ← hq12]; exact heap_alloc_new _ _
      have hq9 := heap_ext HRF7.out.2 (hE8.trans hE9)
      have f0 := cell_of_heap hB9 0
      have f1 := cell_of_heap hB9 1
      have g0' := cell_of_heap hq9 0
      have g1' := cell_of_heap hq9 1
      have h0' := frozen_of_heap hq9 0
      have h1' := frozen_of_heap hq9 1
      simp only [List.getElem?_toArray, List.getElem?_cons_zero, List.getElem?_cons_succ] at f0 f1 g0' g1'
      have HW9 := Lib.hid (And.intro hw9 hq12)
      have HIN := Lib.hid hin
      have HE9 := Lib.hid (hE8.trans hE9)
      have HRF9 := Lib.hid (And.intro (hrf.ext hE9) hq9)
      clear hin hrf hE8 hw9 hq12 hE9 hB9 hq9 c0 c1 c2 c3 e0 e1
      go_upto_region 13 with fail
      rw [HW9.out.1, HW9.out.2]
      go_upto_region 14 with fail
      have hq10 := heap_setCell (heap_setCell HRF9.out.2 0 (.slice x1 x2 x3)) 1 (.slice x4 x5 x6)
      obtain ⟨w10, hw10⟩ : ∃ z, (w9.setCell ⟨q9, 0, none⟩ (.slice x1 x2 x3)).setCell ⟨q9, 1, none⟩ (.slice x4 x5 x6) = z := ⟨_, rfl⟩
      have hB10 : But q9 w9 w10 := by rw [← hw10]; exact ((But.refl _ _).setCell 0 none _).setCell 1 none _
      rw [hw10] at hq10 ⊢
      have hq10' : w10.heap[q9]? = some (.cells #[.slice x1 x2 x3, .slice x4 x5 x6] 38 (0, 0)) := hq10
      have hst9 := HST7.out.later HE9.out
      have hr9 := heap_ext HB7.out HE9.out
      have hrq : r ≠ q9 := by
        intro e
        have h1 := HRF9.out.2
        rw [← e, hr9] at h1
        injection h1 with h1
        injection h1 with _ h1 _
        exact absurd h1 (by decide)
      have HQW := Lib.hid (show W.heap.size ≤ q9 from by
        have h1 := HST4.out.ext.size
        have h2 := HW6.out.1
        have h3 := HQ9.out
        omega)
      have HST10 := Lib.hid (show Seat14 W B p R w10 from ⟨hst9.reg.aside HRF9.out.2 hB10, Below.trans (B := W.heap.size) hst9.ext (hB10.below HQW.out hst9.ext.size), hst9.le, Nat.le_trans hst9.lt hB10.size, hst9.small⟩)
      have HB10 := Lib.hid (And.intro ((hB10.block r (Array.getElem?_eq_some_iff.1 hr9).1 hrq).trans hr9) hq10')
      have HRF10 := Lib.hid (HRF9.out.1.aside HRF9.out.2 hB10)
      obtain ⟨ps, hps, hpsl, hpsi⟩ := flat_of_ents HOP.out.tail
      have HPS := Lib.hid (And.intro hps (And.intro hpsl hpsi))
      clear hps hpsl hpsi hq10 hw10 hB10 hq10' hst9 hr9 hrq f0 f1 g0' g1' h0' h1'
      refine wp_region_marked (by kernel_rfl) Ext (KX14 B) (fun iop v w => match iop with
          | 0 => v = .pointer (some ⟨p, 0, none⟩)
          | 1 => v = .pointer (some ⟨r, 0, none⟩)
          | 2 => v = .agg #[.int .i64 OT, .slice b1 m1 d1, .slice b2 m2 d2]
          | 3 => v = .pointer (some ⟨r, 3, none⟩)
          | 4 => v = .slice b3 m3 d3
          | 5 => ∃ a n c, v = .slice a n c ∧ w.ownsRow 0 63 6 (.slice a n c) ps.length (entFlat ps)
          | 6 => v = .int .i64 code
          | 7 => v = .int .i64 code
          | 8 => v = .bool false
          | 9 => v = .bool false
          | 10 => v = .pointer (some ⟨p, 0, none⟩)
          | 11 => v = .agg #[.slice x1 x2 x3, .slice x4 x5 x6]
          | 12 => v = .bool true
          | 13 => v = .bool false
          | _ => v = .bool false
          ) [6] (RegX14 B p R R') (by kernel_rfl) (fun _ _ _ h k => KX14.trans h k) (fun a => Ext.refl a) (fun _ _ h => KX14.ext h) (fun _ _ _ h hs => IsReg.ext hs h) (Ext.drew _) HST10.out.reg ?_ ?_ ?_ ?_
      · intro iop v wa wb hF hL
        iterate 5 (rcases iop with _ | iop; exact hF)
        rcases iop with _ | iop; (first | exact hF | (obtain ⟨a, n, c, h1, h2⟩ := hF; exact ⟨a, n, c, h1, Keeps14.row h2 hL.1 (by decide) (by decide)⟩))
        iterate 8 (rcases iop with _ | iop; exact hF)
        exact hF
      · refine Obls2.cons ?_ (Obls2.cons ?_ (Obls2.cons ?_ (Obls2.cons ?_ (Obls2.cons ?_ (Obls2.cons ?_ (Obls2.cons ?_ (Obls2.cons ?_ (Obls2.cons ?_ (Obls2.cons ?_ (Obls2.cons ?_ (Obls2.cons ?_ (Obls2.cons ?_ (Obls2.cons ?_ (Obls2.cons ?_ (Obls2.nil)))))))))))))))
        · intro ev wy ls hp hl hS hbh hk hd
          rw [if_neg (by decide)]
          have hc6 : ls 6 = false := Bool.eq_false_iff.2 fun hq => absurd (hbh.closed 6 _ rfl (hq) 0 (by decide)) (by rw [hbh.notyet]; decide)
          have hst := hS
          rw [show stage [6] ls = 0 from by simp [stage, List.filter, hc6]] at hst
          clear hc6 hS hbh
          have e7 : ev _ = .pointer (some ⟨p, 0, none⟩) := hk 7 (by decide)
          exact Yield.mv rfl ⟨Ext.refl _, e7⟩
        · intro ev wy ls hp hl hS hbh hk hd
          rw [if_neg (by decide)]
          have hc6 : ls 6 = false := Bool.eq_false_iff.2 fun hq => absurd (hbh.closed 2 _ rfl (hbh.closed 6 _ rfl (hq) 2 (by decide)) 1 (by decide)) (by rw [hbh.notyet]; decide)
          have hst := hS
          rw [show stage [6] ls = 0 from by simp [stage, List.filter, hc6]] at hst
          clear hc6 hS hbh
          have e11 : ev _ = .pointer (some ⟨r, 0, none⟩) := hk 11 (by decide)
          exact Yield.op (v := .pointer (some ⟨r, 0, none⟩)) (w' := wy) (by simp [execOp, go_sem, e11]) ⟨Ext.refl _, rfl⟩
        · intro ev wy ls hp hl hS hbh hk hd
          rw [if_neg (by decide)]
          have hc6 : ls 6 = false := Bool.eq_false_iff.2 fun hq => absurd (hbh.closed 6 _ rfl (hq) 2 (by decide)) (by rw [hbh.notyet]; decide)
          have hst := hS
          rw [show stage [6] ls = 0 from by simp [stage, List.filter, hc6]] at hst
          clear hc6 hS hbh
          have e66 : ev _ = _ := hk 66 (by decide)
          exact Yield.op (v := .agg #[.int .i64 OT, .slice b1 m1 d1, .slice b2 m2 d2]) (w' := wy) (by simp [execOp, go_sem, e66, show ∀ j, wy.cell? ⟨r, j, none⟩ = _ from fun j => cell_of_heap (hl.1.at HB10.out.1 (by decide) (by decide)) j]) ⟨Ext.refl _, rfl⟩
        · intro ev wy ls hp hl hS hbh hk hd
          rw [if_neg (by decide)]
          have hc6 : ls 6 = false := Bool.eq_false_iff.2 fun hq => absurd (hbh.closed 4 _ rfl (hbh.closed 5 _ rfl (hbh.closed 6 _ rfl (hq) 5 (by decide)) 4 (by decide)) 3 (by decide)) (by rw [hbh.notyet]; decide)
          have hst := hS
          rw [show stage [6] ls = 0 from by simp [stage, List.filter, hc6]] at hst
          clear hc6 hS hbh
          have e11 : ev _ = .pointer (some ⟨r, 0, none⟩) := hk 11 (by decide)
          exact Yield.op (v := .pointer (some ⟨r, 3, none⟩)) (w' := wy) (by simp [execOp, go_sem, e11]) ⟨Ext.refl _, rfl⟩
        · intro ev wy ls hp hl hS hbh hk hd
          rw [if_neg (by decide)]
          have hc6 : ls 6 = false := Bool.eq_false_iff.2 fun hq => absurd (hbh.closed 5 _ rfl (hbh.closed 6 _ rfl (hq) 5 (by decide)) 4 (by decide)) (by rw [hbh.notyet]; decide)
          have hst := hS
          rw [show stage [6] ls = 0 from by simp [stage, List.filter, hc6]] at hst
          clear hc6 hS hbh
          have e68 : ev _ = _ := hk 68 (by decide)
          exact Yield.op (v := .slice b3 m3 d3) (w' := wy) (by simp [execOp, go_sem, e68, show ∀ j, wy.cell? ⟨r, j, none⟩ = _ from fun j => cell_of_heap (hl.1.at HB10.out.1 (by decide) (by decide)) j]) ⟨Ext.refl _, rfl⟩
        · intro ev wy ls hp hl hS hbh hk hd
          rw [if_neg (by decide)]
          have hc6 : ls 6 = false := Bool.eq_false_iff.2 fun hq => absurd (hbh.closed 6 _ rfl (hq) 5 (by decide)) (by rw [hbh.notyet]; decide)
          have hst := hS
          rw [show stage [6] ls = 0 from by simp [stage, List.filter, hc6]] at hst
          clear hc6 hS hbh
          have e69 : ev _ = _ := hk 69 (by decide)
          refine Yield.call rfl hp Try.func13 rfl (by kernel_rfl) ?_
          simp only [List.map_toArray, List.map_cons, List.map_nil, e69]
          have hEy : Ext W wy := Below.trans (B := W.heap.size) HST10.out.ext ((hl.2 HST10.out.lt).mono HST10.out.le)
          exact (mine14l_any (.slice b3 m3 d3) ps wy (HPS.out.2.1.below hEy) (fun q hq => (HPS.out.2.2 q hq).below hEy) (by have h1 := HWI.out.2; have h2 := congrArg List.length HPS.out.1; rw [List.length_map] at h2; omega)).mono fun e w' ⟨u, he, ho, hE⟩ => by
            obtain ⟨x1, x2, x3, hx⟩ := ownSlice ho
            subst hx
            exact ⟨_, he, hE, _, _, _, rfl, rowLower ho (Nat.zero_le _)⟩
        · intro ev wy ls hp hl hS hbh hk hd
          rw [if_pos (by decide)]
          have hc6 : ls 6 = false := hbh.notyet
          have hst := hS
          rw [show stage [6] ls = 0 from by simp [stage, List.filter, hc6]] at hst
          have hup : stage [6] (upd ls 6) = 1 := by simp [stage, List.filter, upd, hc6]
          clear hc6 hS hbh
          have e65 : ev _ = _ := hk 65 (by decide)
          have e67 : ev _ = _ := hk 67 (by decide)
          have f70 : (fun (v : Value) (w : World) => ∃ a n c, v = .slice a n c ∧ w.ownsRow 0 63 6 (.slice a n c) ps.length (entFlat ps)) (ev (.tmp 70)) wy := hk 70 (by decide)
          generalize hx70 : ev (.tmp 70) = x70 at *
          obtain ⟨z1, z2, z3, hz9, ho9⟩ := f70
          refine Yield.call rfl hp Try.func12 rfl (by kernel_rfl) ?_
          simp only [List.map_toArray, List.map_cons, List.map_nil, e65, e67, hx70, hz9]
          have hEy : Ext W wy := Below.trans (B := W.heap.size) HST10.out.ext ((hl.2 HST10.out.lt).mono HST10.out.le)
          have hen : Ents wy (.slice z1 z2 z3) o.tail := by
            have := ents_of_flat (ps := ps) (v := .slice z1 z2 z3) (fun q hq => (HPS.out.2.2 q hq).below hEy) (SlN.ofOwn ho9)
            rwa [HPS.out.1] at this
          have hins := (show Seat14 W B p R wy from ⟨(show IsReg wy B p R from hst), hEy, HST10.out.le, Nat.le_trans HST10.out.lt hl.1.size, HST10.out.small⟩).install (.slice b1 m1 d1) (.slice b2 m2 d2) (.slice z1 z2 z3) o.c o.tail HOP.out.seqs HOP.out.shards hen (by have := HWI.out.2; omega) HWI.out.1
          rw [HOT.out] at hins
          refine hins.mono ?_
          rintro e w' ⟨code2, R2, he, hin2, hreg, hkp, hbl⟩
          obtain ⟨hcc, hrr⟩ := hin2.det HIN.out
          rw [hcc] at he
          rw [hrr] at hreg
          exact ⟨_, he, ⟨hkp, fun _ => hbl⟩, rfl, by rw [hup]; exact hreg.reg⟩
        · intro ev wy ls hp hl hS hbh hk hd
          rw [if_neg (by decide)]
          clear hS hbh
          have e13 : ev _ = .int .i64 code := hk 13 (by decide)
          exact Yield.mv rfl ⟨Ext.refl _, e13⟩
        · intro ev wy ls hp hl hS hbh hk hd
          rw [if_neg (by decide)]
          have hc6 : ls 6 = true := hbh.ready 6 (by decide)
          have hst := hS
          rw [show stage [6] ls = 1 from by simp [stage, List.filter, hc6]] at hst
          clear hc6 hS hbh
          have e71 : ev _ = _ := hk 71 (by decide)
          have e72 : ev _ = _ := hk 72 (by decide)
          exact Yield.op (v := .bool false) (w' := wy) (by simp [execOp, go_sem, e71, e72]) ⟨Ext.refl _, rfl⟩
        · intro ev wy ls hp hl hS hbh hk hd
          rw [if_neg (by decide)]
          have hc6 : ls 6 = true := hbh.ready 6 (by decide)
          have hst := hS
          rw [show stage [6] ls = 1 from by simp [stage, List.filter, hc6]] at hst
          clear hc6 hS hbh
          have e73 : ev _ = _ := hk 73 (by decide)
          exact Yield.mv rfl ⟨Ext.refl _, e73⟩
        · intro ev wy ls hp hl hS hbh hk hd
          rw [if_neg (by decide)]
          have hc6 : ls 6 = true := hbh.closed 9 _ rfl (hbh.ready 9 (by decide)) 6 (by decide)
          have hst := hS
          rw [show stage [6] ls = 1 from by simp [stage, List.filter, hc6]] at hst
          clear hc6 hS hbh
          have e7 : ev _ = .pointer (some ⟨p, 0, none⟩) := hk 7 (by decide)
          refine ⟨fun _ _ _ => ?_, fun _ hx hne => absurd hx hne⟩
          exact Yield.mv rfl ⟨Ext.refl _, e7⟩
        · intro ev wy ls hp hl hS hbh hk hd
          rw [if_neg (by decide)]
          have hc6 : ls 6 = true := hbh.closed 9 _ rfl (hbh.ready 9 (by decide)) 6 (by decide)
          have hst := hS
          rw [show stage [6] ls = 1 from by simp [stage, List.filter, hc6]] at hst
          clear hc6 hS hbh
          have e9 : ev _ = .pointer (some ⟨q9, 0, none⟩) := hk 9 (by decide)
          refine ⟨fun _ _ _ => ?_, fun _ hx hne => absurd hx hne⟩
          exact Yield.op (v := .agg #[.slice x1 x2 x3, .slice x4 x5 x6]) (w' := wy) (by simp [execOp, go_sem, e9, show ∀ j, wy.cell? ⟨q9, j, none⟩ = _ from fun j => cell_of_heap (hl.1.at HB10.out.2 (by decide) (by decide)) j]) ⟨Ext.refl _, rfl⟩
        · intro ev wy ls hp hl hS hbh hk hd
          rw [if_neg (by decide)]
          have hc6 : ls 6 = true := hbh.closed 9 _ rfl (hbh.ready 9 (by decide)) 6 (by decide)
          have hst := hS
          rw [show stage [6] ls = 1 from by simp [stage, List.filter, hc6]] at hst
          clear hc6 hS hbh
          have e75 : ev _ = _ := hk 75 (by decide)
          have e76 : ev _ = _ := hk 76 (by decide)
          refine ⟨fun _ _ _ => ?_, fun _ hx hne => absurd hx hne⟩
          refine Yield.call rfl hp Try.func14 rfl (by kernel_rfl) ?_
          simp only [List.map_toArray, List.map_cons, List.map_nil, e75, e76]
          have hEy : Ext W wy := Below.trans (B := W.heap.size) HST10.out.ext ((hl.2 HST10.out.lt).mono HST10.out.le)
          exact (stands14_any (show Seat14 W B p R' wy from ⟨(show IsReg wy B p R' from hst), hEy, HST10.out.le, Nat.le_trans HST10.out.lt hl.1.size, HIN.out.small HST10.out.small (by have := HWI.out.2; omega)⟩) (HRF10.out.keeps hl.1)).mono fun e w' ⟨he, hE⟩ => ⟨_, he, hE, rfl⟩
        · intro ev wy ls hp hl hS hbh hk hd
          rw [if_neg (by decide)]
          have hc6 : ls 6 = true := hbh.closed 9 _ rfl (hbh.ready 9 (by decide)) 6 (by decide)
          have hst := hS
          rw [show stage [6] ls = 1 from by simp [stage, List.filter, hc6]] at hst
          clear hc6 hS hbh
          have e77 : ev _ = _ := hk 77 (by decide)
          refine ⟨fun _ _ _ => ?_, fun _ hx hne => absurd hx hne⟩
          exact Yield.op (v := .bool false) (w' := wy) (by simp [execOp, go_sem, e77]) ⟨Ext.refl _, rfl⟩
        · intro ev wy ls hp hl hS hbh hk hd
          rw [if_neg (by decide)]
          have hc6 : ls 6 = true := hbh.closed 9 _ rfl (hbh.ready 9 (by decide)) 6 (by decide)
          have hst := hS
          rw [show stage [6] ls = 1 from by simp [stage, List.filter, hc6]] at hst
          clear hc6 hS hbh
          have e74 : ev _ = _ := hk 74 (by decide)
          have e78 : ev _ = _ := hk 78 (by decide)
          exact Yield.pick (t := false) rfl e74 ⟨Ext.refl _, e78⟩
      · decide
      · intro vals wz hz hS hv
        have g65 : vals 0 = _ := hv 0 (by decide)
        have g66 : vals 1 = _ := hv 1 (by decide)
        have g67 : vals 2 = _ := hv 2 (by decide)
        have g68 : vals 3 = _ := hv 3 (by decide)
        have g69 : vals 4 = _ := hv 4 (by decide)
        have g70 : (fun (v : Value) (w : World) => ∃ a n c, v = .slice a n c ∧ w.ownsRow 0 63 6 (.slice a n c) ps.length (entFlat ps)) (vals 5) wz := hv 5 (by decide)
        have g71 : vals 6 = _ := hv 6 (by decide)
        have g72 : vals 7 = _ := hv 7 (by decide)
        have g73 : vals 8 = _ := hv 8 (by decide)
        have g74 : vals 9 = _ := hv 9 (by decide)
        have g75 : vals 10 = _ := hv 10 (by decide)
        have g76 : vals 11 = _ := hv 11 (by decide)
        have g77 : vals 12 = _ := hv 12 (by decide)
        have g78 : vals 13 = _ := hv 13 (by decide)
        have g79 : vals 14 = _ := hv 14 (by decide)
        clear hv
        simp only [putAll, Act.put, List.setIfInBounds_toArray, List.set_cons_zero, List.set_cons_succ, g65, g66, g67, g68, g69, g71, g72, g73, g74, g75, g76, g77, g78, g79]
        clear g65 g66 g67 g68 g69 g71 g72 g73 g74 g75 g76 g77 g78 g79
        generalize vals 5 = v70 at *
        have HSZ := Lib.hid (show Seat14 W B p R' wz from ⟨(show IsReg wz B p R' from hS), Below.trans (B := W.heap.size) HST10.out.ext ((hz.2 HST10.out.lt).mono HST10.out.le), HST10.out.le, Nat.le_trans HST10.out.lt hz.1.size, HIN.out.small HST10.out.small (by have := HWI.out.2; omega)⟩)
        have HRZ := Lib.hid (And.intro (HRF10.out.keeps hz.1) (hz.1.at HB10.out.2 (by decide) (by decide)))
        clear hS hz g70
        go_wp2_with fail
        refine (find14_any pos HSZ.out.reg HPOS.out).mono ?_
        rintro e w11 ⟨t, x, fc, rfl, hfi, hE11⟩
        obtain ⟨w12, hw12⟩ : ∃ z, w11.alloc (.cells #[.int .i64 t, .int .i64 x] 49) = z := ⟨_, rfl⟩
        obtain ⟨u14, hu14⟩ : ∃ z, w11.heap.size = z := ⟨_, rfl⟩
        have hE12 : Ext w11 w12 := by rw [← hw12]; exact Ext.alloc _ _
        have hB12 : w12.heap[u14]? = some (.cells #[.int .i64 t, .int .i64 x] 49 (0, 0)) := by rw [← hw12, ← hu14]; exact heap_alloc_new _ _
        have HW12 := Lib.hid (And.intro hw12 hu14)
        have HS12 := Lib.hid (HSZ.out.later (hE11.trans hE12))
        have HR12 := Lib.hid (And.intro (HRZ.out.1.ext (hE11.trans hE12)) (heap_ext HRZ.out.2 (hE11.trans hE12)))
        have HB12 := Lib.hid hB12
        have HFI := Lib.hid hfi
        have e0 := cell_of_heap HR12.out.2 0
        have e1 := cell_of_heap HR12.out.2 1
        simp only [List.getElem?_toArray, List.getElem?_cons_zero, List.getElem?_cons_succ] at e0 e1
        clear hfi hE11 hw12 hu14 hE12 hB12
        go_upto_region 17 with fail
        rw [HW12.out.1, HW12.out.2]
        go_wp2_with fail
        refine (refPlace14_any pos HR12.out.1 HS12.out.reg.ok HS12.out.ext HS12.out.small HPOS.out).mono ?_
        rintro e w13 ⟨t', x', fc', rfl, hfi, hE13⟩
        obtain ⟨rfl, rfl, rfl⟩ := HFI.out.uniq HS12.out.reg.ok hfi
        obtain ⟨w14, hw14⟩ : ∃ z, w13.alloc (.cells #[.int .i64 t, .int .i64 x] 49) = z := ⟨_, rfl⟩
        obtain ⟨u16, hu16⟩ : ∃ z, w13.heap.size = z := ⟨_, rfl⟩
        have hE14 : Ext w13 w14 := by rw [← hw14]; exact Ext.alloc _ _
        have hB14 : w14.heap[u16]? = some (.cells #[.int .i64 t, .int .i64 x] 49 (0, 0)) := by rw [← hw14, ← hu16]; exact heap_alloc_new _ _
        have HW14 := Lib.hid (And.intro hw14 hu16)
        have HLQ := Lib.hid (And.intro (HS12.out.later (hE13.trans hE14)) (And.intro (HR12.out.1.ext (hE13.trans hE14)) (heap_ext HR12.out.2 (hE13.trans hE14))))
        have i0 := cell_of_heap hB14 0
        have i1 := cell_of_heap hB14 1
        have j0 := cell_of_heap (heap_ext HB12.out (hE13.trans hE14)) 0
        have j1 := cell_of_heap (heap_ext HB12.out (hE13.trans hE14)) 1
        simp only [List.getElem?_toArray, List.getElem?_cons_zero, List.getElem?_cons_succ] at i0 i1 j0 j1
        clear hfi hE13 hw14 hu16 hE14 hB14 e0 e1
        go_upto_region 18 with fail
        rw [HW14.out.1, HW14.out.2]
        go_wp2_with fail
        go_roundw
        case rel => exact ⟨k + 1, R', x1, x4, x2, x3, x5, x6, _, rfl, by omega, by go_num, HLQ⟩
        case measure => simp [intOf]; omega

namespace registerAll
theorem own : ownKnob Try.prog.godebug = none := by kernel_rfl
theorem laidOut : laidOutB Try.prog = true := by kernel_rfl
set_option linter.unusedVariables false in
set_option maxRecDepth 100000 in
theorem lifted (os : Os) (started : os.Started) (H : Type) (enc : TypeId × Value → H) :
    ReturnsInHanded {} Try.checked os 3 .any (Rows.registerAllSpec.pre6 enc Try.prog Try.f3 Rows.registerAllRow.domain false) (Rows.registerAllSpec.post enc Try.prog Try.f3 false true false false) := by
  refine returnsInHanded_of_change_sized (C := Try.checked) own started (by kernel_rfl) Try.func3
    (ChangeSpec.witness6 (enc := enc) (C := Try.checked) false ⟨#[], #[.agg #[.int .i64 0, .slice none 0 0, .slice none 0 0], .slice none 0 0, .int .i64 0], []⟩ 8 (by kernel_rfl) (by kernel_rfl) (by kernel_rfl) (by kernel_rfl)) ?_
  intro W base args ds gs before hval0 hW hcnd hsz _
  have hval : ∀ (j : Nat) t v, Try.f3.params[j]? = some t → args[j]? = some v → Value.okWide Try.prog W .any base t v := hval0
  have hW' := hW
  obtain ⟨p, q, hA0, hV, rfl, hfz, hnd⟩ := hW'
  have hA : DataW.TrodAll enc Try.prog W 0 (fun _ => true) true Try.f3.params.toList args.toList ds p := hA0
  rw [Try.params3] at hA hval
  obtain ⟨v0, vs0, d0, ds0, p0, q0, hargs, rfl, rfl, h0, r0⟩ := trodAll_cons hA
  obtain ⟨v1, vs1, d1, ds1, p1, q1, rfl, rfl, rfl, h1, r1⟩ := trodAll_cons r0
  obtain ⟨v2, vs2, d2, ds2, p2, q2, rfl, rfl, rfl, h2, r2⟩ := trodAll_cons r1
  obtain ⟨rfl, rfl, rfl⟩ := trodAll_nil r2
  obtain rfl : args = #[v0, v1, v2] := by cases args; simp_all
  obtain ⟨rfl, rfl⟩ := trodVars_none hV
  have k0 := h0
  have lt0 : ∀ x ∈ p0, x.block < W.heap.size := by obtain ⟨m, hm⟩ := k0; exact DataW.trod_lt m _ _ _ hm
  obtain ⟨l0, w0⟩ := conf_arg (hval 0 25 v0 rfl rfl) h0
  have k1 := h1
  have lt1 : ∀ x ∈ p1, x.block < W.heap.size := by obtain ⟨m, hm⟩ := k1; exact DataW.trod_lt m _ _ _ hm
  obtain ⟨a1, len1, cap1, rfl⟩ := okWide_slice Try.underlying26 (hval 1 26 v1 rfl rfl)
  obtain ⟨l1, w1, f1⟩ : ∃ l, Ops14 W (.slice a1 len1 cap1) l ∧ ∀ o ∈ l, o.Wide := by
    obtain ⟨fuel, hf⟩ := h1
    obtain ⟨v, l, hcs, hb, hft⟩ := ops14_of_raw (x := (d1, p1)) hf (fun m hm => of_decide_eq_true (List.all_eq_true.1 hsz _ (DataW.weights_mem_each (j := 1) (by rw [Try.params3]; rfl) rfl m hm)))
    simp [Value.cells] at hcs
    subst hcs
    exact ⟨l, hb, hft⟩
  have k2 := h2
  have lt2 : ∀ x ∈ p2, x.block < W.heap.size := by obtain ⟨m, hm⟩ := k2; exact DataW.trod_lt m _ _ _ hm
  obtain ⟨a2, rfl, _, _, w2⟩ := open_int Try.underlying3 (hval 2 3 v2 rfl rfl) h2
  clear hA0 hval0
  refine (registerAll_walk v0 l0 a1 len1 cap1 l1 a2 W w0 w1 f1 w2).mono fun e W' ⟨he, bel⟩ => ?_
  subst he
  exact ⟨_, rfl, _, _, _, [], _, [], hW, trodAll_mk1 (shut_bool Try.underlying4 _), (trodAll_cons_mk (Below.trod laidOut (by kernel_rfl) (of_decide_eq_true (by kernel_rfl)) k0 bel lt0) (trodAll_cons_mk (Below.trod laidOut (by kernel_rfl) (of_decide_eq_true (by kernel_rfl)) k1 bel lt1) (trodAll_cons_mk (Below.trod laidOut (by kernel_rfl) (of_decide_eq_true (by kernel_rfl)) k2 bel lt2) trodAll_mk0))), rfl, bel.frame _, fun h => by cases h⟩
theorem over : Rows.registerAllRow.holds Try.pinned (OpenSpec.ofChange Rows.registerAllSpec) :=
  OpenClaim.holds_of_wide 3 Try.f3 rfl rfl rfl rfl rfl rfl rfl ⟨rfl, rfl, rfl, rfl, rfl⟩ rfl rfl rfl rfl rfl (by kernel_rfl) Try.func3 (by kernel_rfl)
    (of_decide_eq_true (by kernel_rfl)) (by unfold Func.isWrapper; first | (rw [if_pos (by decide +kernel)]; kernel_rfl) | (rw [if_neg (by decide +kernel)]; exact ⟨rfl, rfl⟩))
    (fun os started H enc _ => lifted os started H enc)
theorem proved : Rows.RegisterAllSaid := over
end registerAll
end Go.Proofs.Ytkpcmedmiiohnaa
