/-
  Merged: Layer 14, the statements' helpers: the example.
-/
import Derived.Test.YtkpcmedmiiohnaaBsLib
import Derived.Test.YtkpcmedmiiohnaaBsRgJ
import Derived.Test.YtkpcmedmiiohnaaBsRgK

namespace Go.Proofs.Ytkpcmedmiiohnaa
set_option linter.unusedSimpArgs false
set_option linter.unusedVariables false
set_option maxRecDepth 100000
open Go.RowKit
/- Layer 14, the statements' helpers: the example. -/
theorem OwnT.free {w w' : World} {B : Nat} {v : Value} {l : List Ent.E} (h : OwnT w B v l) (hb : ∀ k, B ≤ k → k < w.heap.size → w'.heap[k]? = w.heap[k]?) : OwnT w' B v l := by
  obtain ⟨ps, h1, h2, h3⟩ := h
  exact ⟨ps, h1, fun q hq => rowOwn (h2 q hq) fun g hg => hb g ((h2 q hq).lt g hg).1 ((h2 q hq).lt g hg).2, rowOwn h3 fun g hg => hb g (h3.lt g hg).1 (h3.lt g hg).2⟩
theorem OwnRR.free14 {w w' : World} {B : Nat} {v : Value} {l : List (List Int)} (h : OwnRR w B v l) (hb : ∀ k, B ≤ k → k < w.heap.size → w'.heap[k]? = w.heap[k]?) : OwnRR w' B v l := by
  obtain ⟨xs, h1, h2, h3⟩ := h
  exact ⟨xs, rowOwn h1 fun g hg => hb g (h1.lt g hg).1 (h1.lt g hg).2, h2, fun i a b => rowOwn (h3 i a b) fun g hg => hb g ((h3 i a b).lt g hg).1 ((h3 i a b).lt g hg).2⟩
/-- A register stays where nothing is written but what lay there ahead of it. -/
theorem IsReg.free {w w' : World} {B p : Nat} {R : List Reg.Row} (h : IsReg w B p R) (hb : ∀ k, B ≤ k → k < w.heap.size → w'.heap[k]? = w.heap[k]?) : IsReg w' B p R := by
  have hlt := h.lt
  obtain ⟨v, L, h1, h2, h3, h4⟩ := h.at'
  refine ⟨⟨v, L, (hb p h.ge hlt).trans h1, rowOwn h2 fun g hg => hb g (h2.lt g hg).1 (h2.lt g hg).2, fun r hr => ?_, h4⟩, h.ge, h.ok⟩
  obtain ⟨r1, r2, r3⟩ := h3 r hr
  exact ⟨rowOwn r1 fun g hg => hb g (r1.lt g hg).1 (r1.lt g hg).2, r2.free14 hb, r3.free hb⟩
/-- What a step on a register keeps. -/
def KW14 (B : Nat) (a b : World) : Prop := Below B a b ∧ Keeps14 a b
theorem KW14.trans {B : Nat} {a b c : World} (h : KW14 B a b) (k : KW14 B b c) : KW14 B a c := ⟨h.1.trans k.1, h.2.trans k.2⟩
theorem KW14.ext {B : Nat} {a b : World} (h : Ext a b) (hB : B ≤ a.heap.size) : KW14 B a b := ⟨h.mono hB, Keeps14.ext h⟩
theorem Keeps14.ents {w w' : World} {B : Nat} {v : Value} {l : List Ent.E} (h : OwnT w B v l) (hk : Keeps14 w w') : Ents w' v l := (h.keeps hk).ents
/-- The same, of any two worlds. -/
def KX14 (B : Nat) (a b : World) : Prop := Keeps14 a b ∧ (B ≤ a.heap.size → Below B a b)
theorem KX14.trans {B : Nat} {a b c : World} (h : KX14 B a b) (k : KX14 B b c) : KX14 B a c := ⟨h.1.trans k.1, fun hb => (h.2 hb).trans (k.2 (Nat.le_trans hb h.1.size))⟩
theorem KX14.ext {B : Nat} {a b : World} (h : Ext a b) : KX14 B a b := ⟨Keeps14.ext h, fun hb => h.mono hb⟩
def al14 (w : World) : World := (((w.alloc (.cells #[.int .i64 0] 3)).alloc (.cells #[.int .i64 1] 3)).alloc (.cells #[.slice (some ⟨w.heap.size + 1, 0, none⟩) 1 1] 22)).alloc (.cells #[.int .i64 1, .slice (some ⟨w.heap.size, 0, none⟩) 1 1, .slice (some ⟨w.heap.size + 1 + 1, 0, none⟩) 1 1] 33)
theorem al14_is (w : World) : (((w.alloc (.cells #[.int .i64 0] 3)).alloc (.cells #[.int .i64 1] 3)).alloc (.cells #[.slice (some ⟨w.heap.size + 1, 0, none⟩) 1 1] 22)).alloc (.cells #[.int .i64 1, .slice (some ⟨w.heap.size, 0, none⟩) 1 1, .slice (some ⟨w.heap.size + 1 + 1, 0, none⟩) 1 1] 33) = al14 w := rfl
theorem al14_ok (w : World) : Ext w (al14 w) ∧ (al14 w).heap.size = w.heap.size + 4 ∧ (∀ wy : World, (∀ k, k < w.heap.size + 3 → wy.heap[k]? = (al14 w).heap[k]?) → OwnI wy w.heap.size (.slice (some ⟨w.heap.size, 0, none⟩) 1 1) [0] ∧ OwnRR wy w.heap.size (.slice (some ⟨w.heap.size + 1 + 1, 0, none⟩) 1 1) [[1]]) ∧
    (al14 w).heap[w.heap.size + 3]? = some (.cells #[.int .i64 1, .slice (some ⟨w.heap.size, 0, none⟩) 1 1, .slice (some ⟨w.heap.size + 1 + 1, 0, none⟩) 1 1] 33 (0, 0)) := by
  obtain ⟨g, hg⟩ : ∃ z, w.heap.size = z := ⟨_, rfl⟩
  obtain ⟨w1, hw1⟩ : ∃ z, w.alloc (.cells #[.int .i64 0] 3) = z := ⟨_, rfl⟩
  obtain ⟨w2, hw2⟩ : ∃ z, w1.alloc (.cells #[.int .i64 1] 3) = z := ⟨_, rfl⟩
  obtain ⟨w3, hw3⟩ : ∃ z, w2.alloc (.cells #[.slice (some ⟨g + 1, 0, none⟩) 1 1] 22) = z := ⟨_, rfl⟩
  have z1 : w1.heap.size = g + 1 := by rw [← hw1, World.size_alloc, hg]
  have z2 : w2.heap.size = g + 1 + 1 := by rw [← hw2, World.size_alloc, z1]
  have z3 : w3.heap.size = g + 3 := by rw [← hw3, World.size_alloc, z2]
  have i1 : OwnI w1 g (.slice (some ⟨g, 0, none⟩) 1 1) [0] := by
    have := World.ownsRow_lit (e := 3) (size := 1) (base := g) w #[.int .i64 0] 1 (by omega) (by simp [maxLen]) rfl
    rw [hw1, hg] at this
    exact this
  have i2 : OwnI w2 g (.slice (some ⟨g + 1, 0, none⟩) 1 1) [1] := by
    have := World.ownsRow_lit (e := 3) (size := 1) (base := g) w1 #[.int .i64 1] 1 (by omega) (by simp [maxLen]) rfl
    rw [hw2, z1] at this
    exact this
  have i3 := World.ownsRow_lit (e := 22) (size := 1) (base := g) w2 #[.slice (some ⟨g + 1, 0, none⟩) 1 1] 1 (by omega) (by simp [maxLen]) rfl
  rw [hw3, z2] at i3
  have e1 : Ext w w1 := by rw [← hw1]; exact Ext.alloc _ _
  have e2 : Ext w1 w2 := by rw [← hw2]; exact Ext.alloc _ _
  have e3 : Ext w2 w3 := by rw [← hw3]; exact Ext.alloc _ _
  have hal : al14 w = w3.alloc (.cells #[.int .i64 1, .slice (some ⟨g, 0, none⟩) 1 1, .slice (some ⟨g + 1 + 1, 0, none⟩) 1 1] 33) := by unfold al14; rw [hg, hw1, hw2, hw3]
  have e4 := Ext.alloc w3 (.cells #[.int .i64 1, .slice (some ⟨g, 0, none⟩) 1 1, .slice (some ⟨g + 1 + 1, 0, none⟩) 1 1] 33)
  rw [hal, hg]
  refine ⟨e1.trans (e2.trans (e3.trans e4)), by rw [World.size_alloc, z3], fun wy hy => ?_, ?_⟩
  · have o2 : OwnRR w3 g (.slice (some ⟨g + 1 + 1, 0, none⟩) 1 1) [[1]] := ⟨[.slice (some ⟨g + 1, 0, none⟩) 1 1], i3, rfl, fun i hi hi' => by
      obtain rfl : i = 0 := by simpa using hi
      exact rowExt i2 e3⟩
    have key : ∀ k, g ≤ k → k < w3.heap.size → wy.heap[k]? = w3.heap[k]? := fun k _ hk => (hy k (by omega)).trans (e4.block k hk)
    have o1 : OwnI w3 g (.slice (some ⟨g, 0, none⟩) 1 1) [0] := rowExt i1 (e2.trans e3)
    exact ⟨rowOwn o1 fun k hk => key k (o1.lt k hk).1 (o1.lt k hk).2, o2.free14 key⟩
  · rw [← z3]
    exact heap_alloc_new _ _
def al14e (w : World) : World := (w.alloc (.cells #[.int .i64 3] 3)).alloc (.cells #[.int .i64 1, .int .i64 1, .slice (some ⟨w.heap.size, 0, none⟩) 1 1, .int .i64 0, .int .i64 0, .int .i64 0] 63)
theorem al14e_is (w : World) : (w.alloc (.cells #[.int .i64 3] 3)).alloc (.cells #[.int .i64 1, .int .i64 1, .slice (some ⟨w.heap.size, 0, none⟩) 1 1, .int .i64 0, .int .i64 0, .int .i64 0] 63) = al14e w := rfl
theorem al14e_ok (w : World) : Ext w (al14e w) ∧ OwnT (al14e w) w.heap.size (.slice (some ⟨w.heap.size + 1, 0, none⟩) 1 1) Reg.exL := by
  obtain ⟨g, hg⟩ : ∃ z, w.heap.size = z := ⟨_, rfl⟩
  obtain ⟨w1, hw1⟩ : ∃ z, w.alloc (.cells #[.int .i64 3] 3) = z := ⟨_, rfl⟩
  have z1 : w1.heap.size = g + 1 := by rw [← hw1, World.size_alloc, hg]
  have i1 : OwnI w1 g (.slice (some ⟨g, 0, none⟩) 1 1) [3] := by
    have := World.ownsRow_lit (e := 3) (size := 1) (base := g) w #[.int .i64 3] 1 (by omega) (by simp [maxLen]) rfl
    rw [hw1, hg] at this
    exact this
  have i3 := World.ownsRow_lit (e := 63) (size := 6) (base := g) w1 #[.int .i64 1, .int .i64 1, .slice (some ⟨g, 0, none⟩) 1 1, .int .i64 0, .int .i64 0, .int .i64 0] 1 (by omega) (by simp [maxLen]) rfl
  rw [z1] at i3
  have e1 : Ext w w1 := by rw [← hw1]; exact Ext.alloc _ _
  have hal : al14e w = w1.alloc (.cells #[.int .i64 1, .int .i64 1, .slice (some ⟨g, 0, none⟩) 1 1, .int .i64 0, .int .i64 0, .int .i64 0] 63) := by unfold al14e; rw [hg, hw1]
  have e4 := Ext.alloc w1 (.cells #[.int .i64 1, .int .i64 1, .slice (some ⟨g, 0, none⟩) 1 1, .int .i64 0, .int .i64 0, .int .i64 0] 63)
  rw [hal, hg]
  refine ⟨e1.trans e4, [(.slice (some ⟨g, 0, none⟩) 1 1, ⟨1, 1, [3], 0, 0, 0⟩)], rfl, fun q hq => ?_, i3⟩
  obtain rfl := List.mem_singleton.1 hq
  exact rowExt i1 e4
set_option maxHeartbeats 4000000 in
theorem alive14_any (w : World) : Calls Try.prog 8 #[] w fun e w' => e = .returned (.bool true) ∧ Ext w w' := by
  obtain ⟨hE0, hz0, hrw, hcf⟩ := al14_ok w
  obtain ⟨w0, hw0⟩ : ∃ z, al14 w = z := ⟨_, rfl⟩
  obtain ⟨g, hg⟩ : ∃ z, w.heap.size = z := ⟨_, rfl⟩
  rw [hw0, hg] at hrw hcf hz0
  rw [hw0] at hE0
  have HW0 := Lib.hid (And.intro hw0 (And.intro hg hz0))
  have HE0 := Lib.hid (And.intro hE0 (And.intro hrw hcf))
  have hcv : ∀ wy : World, (∀ k, k < g + 3 → wy.heap[k]? = w0.heap[k]?) → ∀ t, IsConf wy (confV t (.slice (some ⟨g, 0, none⟩) 1 1) (.slice (some ⟨g + 1 + 1, 0, none⟩) 1 1)) (Reg.exC t) := fun wy hy t => ⟨_, _, rfl, (hrw wy hy).1.ints, (hrw wy hy).2.rows⟩
  have HCV := Lib.hid hcv
  have HNEW := Lib.hid (new14_any _ _ w0 (hcv w0 (fun _ _ => rfl) 1))
  clear hE0 hz0 hrw hw0 hg hcv
  have c0 := cell_of_heap hcf 0
  have c1 := cell_of_heap hcf 1
  have c2 := cell_of_heap hcf 2
  simp only [List.getElem?_toArray, List.getElem?_cons_zero, List.getElem?_cons_succ] at c0 c1 c2
  unfold confV at HNEW
  clear hcf
  go_enter Try.func8, Try.ntmps8
  go_upto_region 2 with fail
  rw [al14_is, HW0.out.1, HW0.out.2.1]
  go_wp2_with fail
  refine HNEW.out.mono ?_
  rintro e w1 (⟨hn, _⟩ | ⟨p, _, rfl, hr, hE1⟩)
  · rw [Reg.ex_right 1 (.inl rfl)] at hn
    cases hn
  have hcf1 := heap_ext HE0.out.2.2 hE1
  have hf := frozen_of_heap hcf1 0
  obtain ⟨w2, hw2⟩ : ∃ z, w1.setCell ⟨g + 3, 0, none⟩ (.int .i64 2) = z := ⟨_, rfl⟩
  have hB2 : But (g + 3) w1 w2 := by rw [← hw2]; exact (But.refl _ _).setCell 0 none _
  have hcf2 : w2.heap[g + 3]? = some (.cells #[.int .i64 2, .slice (some ⟨g, 0, none⟩) 1 1, .slice (some ⟨g + 1 + 1, 0, none⟩) 1 1] 33 (0, 0)) := by rw [← hw2]; exact heap_setCell hcf1 0 _
  have hr2 : IsReg w2 w0.heap.size p Reg.exR0 := (show IsReg w1 w0.heap.size p Reg.exR0 from hr).free fun k hk hlt => hB2.block k hlt (by have := HW0.out.2.2; omega)
  have hE2 : Ext w w2 := Below.trans (B := w.heap.size) (HE0.out.1.trans hE1) (hB2.below (by have := HW0.out.2.1; omega) (HE0.out.1.trans hE1).size)
  have h02 : ∀ k, k < g + 3 → w2.heap[k]? = w0.heap[k]? := fun k hk => (hB2.block k (by have := HW0.out.2.2; have := hE1.size; omega) (by omega)).trans (hE1.block k (by have := HW0.out.2.2; omega))
  obtain ⟨hE3, ht3⟩ := al14e_ok w2
  obtain ⟨w3, hw3⟩ : ∃ z, al14e w2 = z := ⟨_, rfl⟩
  obtain ⟨g2, hg2⟩ : ∃ z, w2.heap.size = z := ⟨_, rfl⟩
  rw [hw3] at hE3
  rw [hw3, hg2] at ht3
  have HW2 := Lib.hid (And.intro hw2 (And.intro hw3 hg2))
  have HE3 := Lib.hid (And.intro (hE2.trans hE3) (heap_ext hcf2 hE3))
  have hr3 := hr2.ext hE3
  have hB3 : w0.heap.size ≤ w3.heap.size := Nat.le_trans hE1.size (Nat.le_trans hB2.size hE3.size)
  have HR3 := Lib.hid hr3
  have HT3 := Lib.hid ht3
  have HV3 := Lib.hid (fun (wy : World) (hy : Below w0.heap.size w3 wy) => HCV.out wy (fun k hk => (hy.block k (by have := HW0.out.2.2; omega)).trans ((hE3.block k (by have := HW0.out.2.2; have := hE1.size; have := hB2.size; omega)).trans (h02 k hk))) 2)
  have d0 := cell_of_heap hcf1 0
  simp only [List.getElem?_toArray, List.getElem?_cons_zero] at d0
  clear hr hE1 hcf1 hw2 hB2 hcf2 hr2 hE2 h02 hE3 ht3 hw3 hg2 hr3
  go_upto_region 6 with fail
  rw [HW2.out.1]
  go_upto_region 7 with fail
  rw [al14e_is, HW2.out.2.1, HW2.out.2.2]
  obtain ⟨B, hBw⟩ : ∃ z, w0.heap.size = z := ⟨_, rfl⟩
  rw [hBw] at HR3 HV3 hB3
  have HBW := Lib.hid (And.intro hBw (And.intro hB3 (show g + 3 < B by have := HW0.out.2.2; omega)))
  clear hB3 hBw
  refine wp_region_marked (by kernel_rfl) Ext (KX14 B) (fun iop v w => match iop with
      | 0 => v = .pointer (some ⟨p, 0, none⟩)
      | 1 => v = .agg #[.int .i64 2, .slice (some ⟨g, 0, none⟩) 1 1, .slice (some ⟨g + 1 + 1, 0, none⟩) 1 1]
      | 2 => v = .slice (some ⟨g2 + 1, 0, none⟩) 1 1
      | 3 => v = .int .i64 0
      | 4 => v = .pointer (some ⟨p, 0, none⟩)
      | 5 => v = .agg #[.int .i64 2, .slice (some ⟨g, 0, none⟩) 1 1, .slice (some ⟨g + 1 + 1, 0, none⟩) 1 1]
      | 6 => v = .int .i64 140
      | 7 => v = .int .i64 0
      | _ => v = .int .i64 140
      ) [3, 6] (fun n w => IsReg w B p (if n = 0 then Reg.exR0 else Reg.exR1)) (by kernel_rfl) (fun _ _ _ h k => KX14.trans h k) (fun a => Ext.refl a) (fun _ _ h => KX14.ext h) (fun _ _ _ h hs => IsReg.ext hs h) (Ext.drew _) HR3.out ?_ ?_ ?_ ?_
  · intro iop v wa wb hF hL
    iterate 8 (rcases iop with _ | iop; exact hF)
    exact hF
  · refine Obls2.cons ?_ (Obls2.cons ?_ (Obls2.cons ?_ (Obls2.cons ?_ (Obls2.cons ?_ (Obls2.cons ?_ (Obls2.cons ?_ (Obls2.cons ?_ (Obls2.cons ?_ (Obls2.nil)))))))))
    · intro ev wy ls hp hl hS hbh hk hd
      rw [if_neg (by decide)]
      have hc3 : ls 3 = false := Bool.eq_false_iff.2 fun hq => absurd (hbh.closed 3 _ rfl (hq) 0 (by decide)) (by rw [hbh.notyet]; decide)
      have hc6 : ls 6 = false := Bool.eq_false_iff.2 fun hq => absurd (hbh.closed 3 _ rfl (hbh.closed 6 _ rfl (hq) 3 (by decide)) 0 (by decide)) (by rw [hbh.notyet]; decide)
      have hst := hS
      rw [show stage [3, 6] ls = 0 from by simp [stage, List.filter, hc3, hc6]] at hst
      clear hc3 hc6 hS hbh
      have e2 : ev _ = .pointer (some ⟨p, 0, none⟩) := hk 2 (by decide)
      exact Yield.mv rfl ⟨Ext.refl _, e2⟩
    · intro ev wy ls hp hl hS hbh hk hd
      rw [if_neg (by decide)]
      have hc3 : ls 3 = false := Bool.eq_false_iff.2 fun hq => absurd (hbh.closed 3 _ rfl (hq) 1 (by decide)) (by rw [hbh.notyet]; decide)
      have hc6 : ls 6 = false := Bool.eq_false_iff.2 fun hq => absurd (hbh.closed 3 _ rfl (hbh.closed 6 _ rfl (hq) 3 (by decide)) 1 (by decide)) (by rw [hbh.notyet]; decide)
      have hst := hS
      rw [show stage [3, 6] ls = 0 from by simp [stage, List.filter, hc3, hc6]] at hst
      clear hc3 hc6 hS hbh
      have e1 : ev _ = .pointer (some ⟨g + 1 + 1 + 1, 0, none⟩) := hk 1 (by decide)
      have hcx := ((hl.2 HBW.out.2.1).block (g + 3) HBW.out.2.2).trans HE3.out.2
      exact Yield.op (v := .agg #[.int .i64 2, .slice (some ⟨g, 0, none⟩) 1 1, .slice (some ⟨g + 1 + 1, 0, none⟩) 1 1]) (w' := wy) (by simp [execOp, go_sem, e1, show ∀ j, wy.cell? ⟨g + 1 + 1 + 1, j, none⟩ = _ from fun j => cell_of_heap hcx j]) ⟨Ext.refl _, rfl⟩
    · intro ev wy ls hp hl hS hbh hk hd
      rw [if_neg (by decide)]
      have hc3 : ls 3 = false := Bool.eq_false_iff.2 fun hq => absurd (hbh.closed 3 _ rfl (hq) 2 (by decide)) (by rw [hbh.notyet]; decide)
      have hc6 : ls 6 = false := Bool.eq_false_iff.2 fun hq => absurd (hbh.closed 3 _ rfl (hbh.closed 6 _ rfl (hq) 3 (by decide)) 2 (by decide)) (by rw [hbh.notyet]; decide)
      have hst := hS
      rw [show stage [3, 6] ls = 0 from by simp [stage, List.filter, hc3, hc6]] at hst
      clear hc3 hc6 hS hbh
      have e4 : ev _ = .slice (some ⟨g2 + 1, 0, none⟩) 1 1 := hk 4 (by decide)
      exact Yield.mv rfl ⟨Ext.refl _, e4⟩
    · intro ev wy ls hp hl hS hbh hk hd
      rw [if_pos (by decide)]
      have hc3 : ls 3 = false := hbh.notyet
      have hc6 : ls 6 = false := Bool.eq_false_iff.2 fun hq => absurd (hbh.closed 6 _ rfl (hq) 3 (by decide)) (by rw [hbh.notyet]; decide)
      have hst := hS
      rw [show stage [3, 6] ls = 0 from by simp [stage, List.filter, hc3, hc6]] at hst
      have hup : stage [3, 6] (upd ls 3) = 1 := by simp [stage, List.filter, upd, hc3, hc6]
      clear hc3 hc6 hS hbh
      have e30 : ev _ = _ := hk 30 (by decide)
      have e31 : ev _ = _ := hk 31 (by decide)
      have e32 : ev _ = _ := hk 32 (by decide)
      refine Yield.call rfl hp Try.func12 rfl (by kernel_rfl) ?_
      simp only [List.map_toArray, List.map_cons, List.map_nil, e30, e31, e32]
      refine (install14_any _ _ (Reg.exC 2) Reg.exL (show IsReg wy B p Reg.exR0 by simpa using hst) (HV3.out wy (hl.2 HBW.out.2.1)) (HT3.out.keeps hl.1).ents (Nat.le_trans HBW.out.2.1 hl.1.size) (by decide) (fun w' h1 _ => HV3.out w' ((hl.2 HBW.out.2.1).trans h1)) (by decide)).mono ?_
      rintro e w' ⟨code, R', he, hin, hreg, hbl, hkp⟩
      obtain ⟨rfl, rfl⟩ := Reg.ex_one hin
      exact ⟨_, he, ⟨hkp, fun _ => hbl⟩, rfl, by rw [hup]; simpa using hreg⟩
    · intro ev wy ls hp hl hS hbh hk hd
      rw [if_neg (by decide)]
      clear hS hbh
      have e2 : ev _ = .pointer (some ⟨p, 0, none⟩) := hk 2 (by decide)
      exact Yield.mv rfl ⟨Ext.refl _, e2⟩
    · intro ev wy ls hp hl hS hbh hk hd
      rw [if_neg (by decide)]
      clear hS hbh
      have e1 : ev _ = .pointer (some ⟨g + 1 + 1 + 1, 0, none⟩) := hk 1 (by decide)
      have hcx := ((hl.2 HBW.out.2.1).block (g + 3) HBW.out.2.2).trans HE3.out.2
      exact Yield.op (v := .agg #[.int .i64 2, .slice (some ⟨g, 0, none⟩) 1 1, .slice (some ⟨g + 1 + 1, 0, none⟩) 1 1]) (w' := wy) (by simp [execOp, go_sem, e1, show ∀ j, wy.cell? ⟨g + 1 + 1 + 1, j, none⟩ = _ from fun j => cell_of_heap hcx j]) ⟨Ext.refl _, rfl⟩
    · intro ev wy ls hp hl hS hbh hk hd
      rw [if_pos (by decide)]
      have hc3 : ls 3 = true := hbh.ready 3 (by decide)
      have hc6 : ls 6 = false := hbh.notyet
      have hst := hS
      rw [show stage [3, 6] ls = 1 from by simp [stage, List.filter, hc3, hc6]] at hst
      have hup : stage [3, 6] (upd ls 6) = 2 := by simp [stage, List.filter, upd, hc3, hc6]
      clear hc3 hc6 hS hbh
      have e34 : ev _ = _ := hk 34 (by decide)
      have e35 : ev _ = _ := hk 35 (by decide)
      refine Yield.call rfl hp Try.func12 rfl (by kernel_rfl) ?_
      simp only [List.map_toArray, List.map_cons, List.map_nil, e34, e35, hp.const]
      refine (install14_any _ _ (Reg.exC 2) [] (show IsReg wy B p Reg.exR1 by simpa using hst) (HV3.out wy (hl.2 HBW.out.2.1)) (Ents.nil wy) (Nat.le_trans HBW.out.2.1 hl.1.size) (by decide) (fun w' h1 _ => HV3.out w' ((hl.2 HBW.out.2.1).trans h1)) (by decide)).mono ?_
      rintro e w' ⟨code, R', he, hin, hreg, hbl, hkp⟩
      obtain ⟨rfl, rfl⟩ := Reg.ex_two hin
      exact ⟨_, he, ⟨hkp, fun _ => hbl⟩, rfl, by rw [hup]; simpa using hreg⟩
    · intro ev wy ls hp hl hS hbh hk hd
      rw [if_neg (by decide)]
      have hc3 : ls 3 = true := hbh.ready 3 (by decide)
      have hc6 : ls 6 = true := hbh.ready 6 (by decide)
      have hst := hS
      rw [show stage [3, 6] ls = 2 from by simp [stage, List.filter, hc3, hc6]] at hst
      clear hc3 hc6 hS hbh
      have e33 : ev _ = _ := hk 33 (by decide)
      exact Yield.as rfl ⟨Ext.refl _, e33⟩
    · intro ev wy ls hp hl hS hbh hk hd
      rw [if_neg (by decide)]
      have hc3 : ls 3 = true := hbh.ready 3 (by decide)
      have hc6 : ls 6 = true := hbh.ready 6 (by decide)
      have hst := hS
      rw [show stage [3, 6] ls = 2 from by simp [stage, List.filter, hc3, hc6]] at hst
      clear hc3 hc6 hS hbh
      have e36 : ev _ = _ := hk 36 (by decide)
      exact Yield.as rfl ⟨Ext.refl _, e36⟩
  · decide
  · intro vals wz hz hS hv
    have g30 : vals 0 = _ := hv 0 (by decide)
    have g31 : vals 1 = _ := hv 1 (by decide)
    have g32 : vals 2 = _ := hv 2 (by decide)
    have g33 : vals 3 = _ := hv 3 (by decide)
    have g34 : vals 4 = _ := hv 4 (by decide)
    have g35 : vals 5 = _ := hv 5 (by decide)
    have g36 : vals 6 = _ := hv 6 (by decide)
    have g5 : vals 7 = _ := hv 7 (by decide)
    have g6 : vals 8 = _ := hv 8 (by decide)
    clear hv
    simp only [putAll, Act.put, List.setIfInBounds_toArray, List.set_cons_zero, List.set_cons_succ, g30, g31, g32, g33, g34, g35, g36, g5, g6]
    clear g30 g31 g32 g33 g34 g35 g36 g5 g6
    have hS1 : IsReg wz B p Reg.exR1 := hS
    have HS1 := Lib.hid hS1
    have HEZ := Lib.hid (show Ext w wz from Below.trans (B := w.heap.size) HE3.out.1 ((hz.2 HBW.out.2.1).mono (Nat.le_trans HE0.out.1.size (Nat.le_of_eq HBW.out.1))))
    clear hS hS1 hz
    go_wp2_with fail
    refine (start14_any 2 HS1.out).mono ?_
    rintro e w4 ⟨he, hE4⟩
    have hlk : Reg.look Reg.exR1 2 = some ⟨Reg.exC 2, [], 3⟩ := rfl
    rw [hlk] at he
    subst he
    have HS4 := Lib.hid (HS1.out.ext hE4)
    have HE4 := Lib.hid (HEZ.out.trans hE4)
    clear hE4 hlk
    go_wp2_with fail
    refine (find14_any 4 HS4.out (by decide)).mono ?_
    rintro e w5 ⟨t, x, code, rfl, hf5, hE5⟩
    obtain ⟨rfl, rfl, rfl⟩ := Reg.ex_find hf5
    obtain ⟨w6, hw6⟩ : ∃ z, w5.alloc (.cells #[.int .i64 2, .int .i64 1] 49) = z := ⟨_, rfl⟩
    have hE6 : Ext w5 w6 := by rw [← hw6]; exact Ext.alloc _ _
    obtain ⟨q, hq⟩ : ∃ z, w5.heap.size = z := ⟨_, rfl⟩
    have hB6 : w6.heap[q]? = some (.cells #[.int .i64 2, .int .i64 1] 49 (0, 0)) := by rw [← hw6, ← hq]; exact heap_alloc_new _ _
    have b0 := cell_of_heap hB6 0
    have b1 := cell_of_heap hB6 1
    simp only [List.getElem?_toArray, List.getElem?_cons_zero, List.getElem?_cons_succ] at b0 b1
    have HW6 := Lib.hid (And.intro hw6 hq)
    have HS6 := Lib.hid (HS4.out.ext (hE5.trans hE6))
    have HE6 := Lib.hid (HE4.out.trans (hE5.trans hE6))
    clear hf5 hE5 hw6 hE6 hq hB6
    go_upto_region 10 with fail
    rw [HW6.out.1, HW6.out.2]
    go_wp2_with fail
    refine (current14_any HS6.out).mono ?_
    rintro e w7 ⟨rfl, hE7⟩
    rw [show Reg.current Reg.exR1 = 2 from rfl]
    have HS7 := Lib.hid (HS6.out.ext hE7)
    have HE7 := Lib.hid (HE6.out.trans hE7)
    clear hE7 b0 b1
    go_wp2_with fail
    refine (first14_any HS7.out).mono ?_
    rintro e w8 ⟨rfl, hE8⟩
    rw [show Reg.first Reg.exR1 = 1 from rfl]
    subst hE8
    go_wp2_with fail
    go_ret
    exact ⟨rfl, HE7.out⟩
end Go.Proofs.Ytkpcmedmiiohnaa
