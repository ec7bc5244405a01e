/-
  Merged: Layer 9, the document's answers: a call of a script (Do).
-/
import Derived.Test.YtfgjhagfpafmoaaGreatBsPack
import Derived.Test.YtfgjhagfpafmoaaGreatPgY
import Derived.Test.YtfgjhagfpafmoaaGreatSgO
import Derived.Test.YtfgjhagfpafmoaaGreatSgV

namespace Go.Proofs.YtfgjhagfpafmoaaGreat
set_option linter.unusedSimpArgs false
set_option linter.unusedVariables false
set_option maxRecDepth 100000
open Go.ChangeShapes Go.WideShapes Go.ChangeAt Go.RowKit
/- Layer 9, the document's answers: a call of a script (Do). -/
def GivesDo9 (w : World) (G : Seg.Sg) (o : Seg.Op) (e : Ending) (w' : World) : Prop := ∃ u t, e = .returned (.tuple #[u, recV t (Seg.doR G o), .int .i64 (Seg.doE G o)]) ∧ IsRef9 w' u (Seg.doS G o) ∧ RowI w' t (Seg.doR G o).tags ∧ Ext w w'

set_option maxHeartbeats 16000000 in
theorem doRef9_any (v : Value) (G : Seg.Sg) (o : Seg.Op) (t : Value) (w : World) (h : IsRef9 w v G) (hok : G.Ok) (ho : o.Small) (ht : Ints w t o.r.tags) :
    Calls Tryz.prog 14 #[v, opV9 o t] w (GivesDo9 w G o) := by
  have HREF := Lib.hid h
  have HOK := Lib.hid hok
  have hfit := ho.1
  obtain ⟨kd, kn, R, ki⟩ := o
  simp only [opV9, Seg.Op.Fits] at hfit ht ⊢
  have hrec : IsRec w (recV t R) R := ⟨_, rfl, ht⟩
  unfold recV at hrec
  obtain ⟨at0, ct0, rfl, _⟩ := ht.open
  obtain ⟨nt0, hnt0⟩ : ∃ q, R.tags.length = q := ⟨_, rfl⟩
  obtain ⟨q0, hq0⟩ : ∃ q : Int, R.client = q := ⟨_, rfl⟩
  obtain ⟨q1, hq1⟩ : ∃ q : Int, R.number = q := ⟨_, rfl⟩
  obtain ⟨q3, hq3⟩ : ∃ q : ByteArray, (⟨R.data.toArray⟩ : ByteArray) = q := ⟨_, rfl⟩
  rw [hnt0, hq0, hq1, hq3] at hrec
  rw [hnt0, hq0, hq1, hq3]
  have HREC := Lib.hid hrec
  obtain ⟨a, c, rfl, hT⟩ := h
  obtain ⟨n, hn⟩ : ∃ n, G.s.l.length = n := ⟨_, rfl⟩
  obtain ⟨k0, hk0⟩ : ∃ q : Int, (G.s.k : Int) = q := ⟨_, rfl⟩
  obtain ⟨s0, hs0⟩ : ∃ q : Int, (G.safe : Int) = q := ⟨_, rfl⟩
  obtain ⟨o0, ho0⟩ : ∃ q, G.s.off = q := ⟨_, rfl⟩
  unfold segV at HREF ⊢
  rw [hn] at hT
  have HT := Lib.hid hT
  rw [hn, hk0, hs0, ho0] at HREF ⊢
  have HK := Lib.hid (And.intro hn (And.intro hk0 (And.intro ho0 hs0)))
  obtain ⟨w1, hw1⟩ : ∃ w1, (((((w.alloc (.cells #[.slice a n c, .int .i64 k0, .bool o0, .int .i64 s0] 36)).alloc (.cells #[.int .i64 kd, .int .i64 kn, .int .i64 q0, .int .i64 q1, .slice at0 nt0 ct0, .string q3, .bool ki] 46)).alloc (.cells #[.slice none 0 0, .int .i64 0, .bool false, .int .i64 0] 36)).alloc (.cells #[.int .i64 0, .int .i64 0, .slice none 0 0, .string ⟨#[]⟩] 44)).alloc (.cells #[.int .i64 0, .int .i64 0, .slice none 0 0, .string ⟨#[]⟩] 44)) = w1 := ⟨_, rfl⟩
  obtain ⟨P, hP⟩ : ∃ P, w.heap.size = P := ⟨_, rfl⟩
  have h5 := heap_five w (.cells #[.slice a n c, .int .i64 k0, .bool o0, .int .i64 s0] 36) (.cells #[.int .i64 kd, .int .i64 kn, .int .i64 q0, .int .i64 q1, .slice at0 nt0 ct0, .string q3, .bool ki] 46) (.cells #[.slice none 0 0, .int .i64 0, .bool false, .int .i64 0] 36) (.cells #[.int .i64 0, .int .i64 0, .slice none 0 0, .string ⟨#[]⟩] 44) (.cells #[.int .i64 0, .int .i64 0, .slice none 0 0, .string ⟨#[]⟩] 44)
  have hE1 : Ext w w1 := by rw [← hw1]; exact ext_five _ _ _ _ _ _
  rw [hw1, hP] at h5
  have hX : ∀ w', Ext w1 w' → w'.heap[P]? = some (.cells #[.slice a n c, .int .i64 k0, .bool o0, .int .i64 s0] 36 (0, 0)) ∧ w'.heap[P + 1 + 1]? = some (.cells #[.slice none 0 0, .int .i64 0, .bool false, .int .i64 0] 36 (0, 0)) ∧ w'.heap[P + 1 + 1 + 1]? = some (.cells #[.int .i64 0, .int .i64 0, .slice none 0 0, .string ⟨#[]⟩] 44 (0, 0)) ∧ w'.heap[P + 1 + 1 + 1 + 1]? = some (.cells #[.int .i64 0, .int .i64 0, .slice none 0 0, .string ⟨#[]⟩] 44 (0, 0)) := fun w' hE =>
    ⟨heap_ext h5.1 hE, heap_ext h5.2.2.1 hE, heap_ext h5.2.2.2.1 hE, heap_ext h5.2.2.2.2 hE⟩
  have HX := Lib.hid hX
  have HP := Lib.hid hP
  have HW := Lib.hid (And.intro hw1 hE1)
  obtain ⟨p0, p1, p2, p3⟩ := segEnd h5.1
  have b0 : w1.cell? ⟨P + 1, 0, none⟩ = some (.int .i64 kd) := cell_of_heap h5.2.1 0
  have b1 : w1.cell? ⟨P + 1, 1, none⟩ = some (.int .i64 kn) := cell_of_heap h5.2.1 1
  have b2 : w1.cell? ⟨P + 1, 2, none⟩ = some (.int .i64 q0) := cell_of_heap h5.2.1 2
  have b3 : w1.cell? ⟨P + 1, 3, none⟩ = some (.int .i64 q1) := cell_of_heap h5.2.1 3
  have b4 : w1.cell? ⟨P + 1, 4, none⟩ = some (.slice at0 nt0 ct0) := cell_of_heap h5.2.1 4
  have b5 : w1.cell? ⟨P + 1, 5, none⟩ = some (.string q3) := cell_of_heap h5.2.1 5
  have b6 : w1.cell? ⟨P + 1, 6, none⟩ = some (.bool ki) := cell_of_heap h5.2.1 6
  clear hw1 hP h5 hE1 hX hT hn hk0 hs0 ho0 hq0 hq1 hq3 hnt0 hrec ht ho hok
  go_enter Tryz.func14, Tryz.ntmps14
  go_upto_region 3 with fail
  rw [HW.out.1, HP.out]
  by_cases k0' : kd = 0
  · subst k0'
    go_wp2_with fail
    refine (appendRef9_any _ G kn R _ w1 (HREF.out.ext HW.out.2) HOK.out.ok (HREC.out.below HW.out.2)).mono ?_
    rintro e w2 ⟨u2, rfl, ⟨a', c', rfl, ht'⟩, hE2⟩
    obtain ⟨n', hn'⟩ : ∃ n, (G.app kn R).s.l.length = n := ⟨_, rfl⟩
    obtain ⟨k', hk'⟩ : ∃ q : Int, ((G.app kn R).s.k : Int) = q := ⟨_, rfl⟩
    obtain ⟨o', ho'⟩ : ∃ q, (G.app kn R).s.off = q := ⟨_, rfl⟩
    obtain ⟨s', hs'⟩ : ∃ q : Int, ((G.app kn R).safe : Int) = q := ⟨_, rfl⟩
    simp only [segV, hn', hk', ho', hs']
    simp only [hn'] at ht'
    have hE12 : Ext w1 w2 := hE2
    have hx := HX.out w2 hE12
    obtain ⟨x0, x1, x2, x3⟩ := segEnd hx.1
    have f0 := frozen_of_heap hx.1 0
    have f1 := frozen_of_heap hx.1 1
    have f2 := frozen_of_heap hx.1 2
    have f3 := frozen_of_heap hx.1 3
    have hf := set_four hx.1 (.slice a' n' c') (.int .i64 k') (.bool o') (.int .i64 s')
    obtain ⟨w3, hw3⟩ : ∃ w3, ((((w2.setCell ⟨P, 0, none⟩ ((.slice a' n' c'))).setCell ⟨P, 1, none⟩ ((.int .i64 k'))).setCell ⟨P, 2, none⟩ ((.bool o'))).setCell ⟨P, 3, none⟩ ((.int .i64 s'))) = w3 := ⟨_, rfl⟩
    rw [hw3] at hf
    have HH := Lib.hid (And.intro hf.1 (And.intro ((hf.2.block _ (Array.getElem?_eq_some_iff.1 hx.2.1).1 (by omega)).trans hx.2.1) (And.intro ((hf.2.block _ (Array.getElem?_eq_some_iff.1 hx.2.2.1).1 (by omega)).trans hx.2.2.1) ((hf.2.block _ (Array.getElem?_eq_some_iff.1 hx.2.2.2).1 (by omega)).trans hx.2.2.2))))
    have EX := Lib.hid (ext_new (HW.out.2.trans hE12) (by have := HP.out; omega) hf.2)
    have HTT := Lib.hid (ht'.butT hx.1 (by decide) hf.2)
    have HN := Lib.hid (And.intro hn' (And.intro hk' (And.intro ho' hs')))
    have HW3 := Lib.hid hw3
    clear hf hx hw3 hn' hk' ho' hs' ht' hE12 p0 p1 p2 p3 b0 b1 b2 b3 b4 b5 b6
    have HHX := HH.out
    go_upto_region 18 with fail
    rw [HW3.out]
    have c0 := cell_of_heap HHX.1 0
    have d0 := cell_of_heap HHX.2.2.2 0
    have f0 := frozen_of_heap HHX.2.1 0
    have g0 := frozen_of_heap HHX.2.2.1 0
    have z0 := cell_of_heap HHX.2.1 0
    have y0 := cell_of_heap HHX.2.2.1 0
    have c1 := cell_of_heap HHX.1 1
    have d1 := cell_of_heap HHX.2.2.2 1
    have f1 := frozen_of_heap HHX.2.1 1
    have g1 := frozen_of_heap HHX.2.2.1 1
    have z1 := cell_of_heap HHX.2.1 1
    have y1 := cell_of_heap HHX.2.2.1 1
    have c2 := cell_of_heap HHX.1 2
    have d2 := cell_of_heap HHX.2.2.2 2
    have f2 := frozen_of_heap HHX.2.1 2
    have g2 := frozen_of_heap HHX.2.2.1 2
    have z2 := cell_of_heap HHX.2.1 2
    have y2 := cell_of_heap HHX.2.2.1 2
    have c3 := cell_of_heap HHX.1 3
    have d3 := cell_of_heap HHX.2.2.2 3
    have f3 := frozen_of_heap HHX.2.1 3
    have g3 := frozen_of_heap HHX.2.2.1 3
    have z3 := cell_of_heap HHX.2.1 3
    have y3 := cell_of_heap HHX.2.2.1 3
    have hf := set_four HHX.2.1 (.slice a' n' c') (.int .i64 k') (.bool o') (.int .i64 s')
    obtain ⟨wa, hwa⟩ : ∃ wa, ((((w3.setCell ⟨P + 1 + 1, 0, none⟩ (.slice a' n' c')).setCell ⟨P + 1 + 1, 1, none⟩ (.int .i64 k')).setCell ⟨P + 1 + 1, 2, none⟩ (.bool o')).setCell ⟨P + 1 + 1, 3, none⟩ (.int .i64 s')) = wa := ⟨_, rfl⟩
    rw [hwa] at hf
    have hx3a := (hf.2.block _ (Array.getElem?_eq_some_iff.1 HHX.2.2.1).1 (by omega)).trans HHX.2.2.1
    have hg := set_four hx3a (.int .i64 0) (.int .i64 0) (.slice none 0 0) (.string ⟨#[]⟩)
    obtain ⟨wb, hwb⟩ : ∃ wb, ((((wa.setCell ⟨P + 1 + 1 + 1, 0, none⟩ (.int .i64 0)).setCell ⟨P + 1 + 1 + 1, 1, none⟩ (.int .i64 0)).setCell ⟨P + 1 + 1 + 1, 2, none⟩ (.slice none 0 0)).setCell ⟨P + 1 + 1 + 1, 3, none⟩ (.string ⟨#[]⟩)) = wb := ⟨_, rfl⟩
    rw [hwb] at hg
    have r0 := cell_of_heap (w := wb.drew) ((hg.2.block _ (Array.getElem?_eq_some_iff.1 hf.1).1 (by omega)).trans hf.1) 0
    have t0 := cell_of_heap (w := wb.drew) hg.1 0
    have r1 := cell_of_heap (w := wb.drew) ((hg.2.block _ (Array.getElem?_eq_some_iff.1 hf.1).1 (by omega)).trans hf.1) 1
    have t1 := cell_of_heap (w := wb.drew) hg.1 1
    have r2 := cell_of_heap (w := wb.drew) ((hg.2.block _ (Array.getElem?_eq_some_iff.1 hf.1).1 (by omega)).trans hf.1) 2
    have t2 := cell_of_heap (w := wb.drew) hg.1 2
    have r3 := cell_of_heap (w := wb.drew) ((hg.2.block _ (Array.getElem?_eq_some_iff.1 hf.1).1 (by omega)).trans hf.1) 3
    have t3 := cell_of_heap (w := wb.drew) hg.1 3
    have HE := Lib.hid (And.intro hwa (And.intro hwb (And.intro ((ext_new (ext_new EX.out (by have := HP.out; omega) hf.2) (by have := HP.out; omega) hg.2).trans (Ext.drew wb)) (And.intro (show Txts wb.drew _ _ from (((HTT.out).butT HHX.2.1 (by decide) hf.2).butT hx3a (by decide) hg.2).ext (Ext.drew wb)) (show RowI wb.drew _ _ from (((RowI.nil w3).but HHX.2.1 (by decide) hf.2).but hx3a (by decide) hg.2).ext (Ext.drew wb))))))
    clear hf hwa hx3a hg hwb HHX
    go_wp2_with fail
    go_region
    all_goals
      go_wp2_with fail
      rw [HE.out.1, HE.out.2.1]
      refine bodyPost_ret (v := .tuple #[.agg #[.slice a' n' c', .int .i64 k', .bool o', .int .i64 s'], .agg #[.int .i64 0, .int .i64 0, .slice none 0 0, .string ⟨#[]⟩], .int .i64 (G.appErr kn R)]) ?_ rfl ⟨.agg #[.slice a' n' c', .int .i64 k', .bool o', .int .i64 s'], .slice none 0 0, ?_, ?_, ?_, HE.out.2.2.1⟩
      · simp [results, Tryz.results14, go_sem, r0, r1, r2, r3, t0, t1, t2, t3]
      · simp [Seg.doR, Seg.doE, Seg.zeroR, recV]
      · have hn : Seg.doS G ⟨0, kn, R, ki⟩ = G.app kn R := by simp [Seg.doS]
        rw [hn]
        refine ⟨a', c', ?_, ?_⟩
        · simp only [segV, HN.out.1, HN.out.2.1, HN.out.2.2.1, HN.out.2.2.2]
        · simp only [HN.out.1]
          exact HE.out.2.2.2.1
      · have hn : (Seg.doR G ⟨0, kn, R, ki⟩).tags = [] := by simp [Seg.doR, Seg.zeroR]
        rw [hn]
        exact HE.out.2.2.2.2
  by_cases k2 : kd = 2
  · subst k2
    go_wp2_with fail
    refine (trimRef9_any _ G kn w1 (HREF.out.ext HW.out.2) HOK.out.ok).mono ?_
    rintro e w2 ⟨u2, rfl, ⟨a', c', rfl, ht'⟩, hE2⟩
    obtain ⟨n', hn'⟩ : ∃ n, (G.trim kn).s.l.length = n := ⟨_, rfl⟩
    obtain ⟨k', hk'⟩ : ∃ q : Int, ((G.trim kn).s.k : Int) = q := ⟨_, rfl⟩
    obtain ⟨o', ho'⟩ : ∃ q, (G.trim kn).s.off = q := ⟨_, rfl⟩
    obtain ⟨s', hs'⟩ : ∃ q : Int, ((G.trim kn).safe : Int) = q := ⟨_, rfl⟩
    simp only [segV, hn', hk', ho', hs']
    simp only [hn'] at ht'
    have hE12 : Ext w1 w2 := hE2
    have hx := HX.out w2 hE12
    obtain ⟨x0, x1, x2, x3⟩ := segEnd hx.1
    have f0 := frozen_of_heap hx.1 0
    have f1 := frozen_of_heap hx.1 1
    have f2 := frozen_of_heap hx.1 2
    have f3 := frozen_of_heap hx.1 3
    have hf := set_four hx.1 (.slice a' n' c') (.int .i64 k') (.bool o') (.int .i64 s')
    obtain ⟨w3, hw3⟩ : ∃ w3, ((((w2.setCell ⟨P, 0, none⟩ ((.slice a' n' c'))).setCell ⟨P, 1, none⟩ ((.int .i64 k'))).setCell ⟨P, 2, none⟩ ((.bool o'))).setCell ⟨P, 3, none⟩ ((.int .i64 s'))) = w3 := ⟨_, rfl⟩
    rw [hw3] at hf
    have HH := Lib.hid (And.intro hf.1 (And.intro ((hf.2.block _ (Array.getElem?_eq_some_iff.1 hx.2.1).1 (by omega)).trans hx.2.1) (And.intro ((hf.2.block _ (Array.getElem?_eq_some_iff.1 hx.2.2.1).1 (by omega)).trans hx.2.2.1) ((hf.2.block _ (Array.getElem?_eq_some_iff.1 hx.2.2.2).1 (by omega)).trans hx.2.2.2))))
    have EX := Lib.hid (ext_new (HW.out.2.trans hE12) (by have := HP.out; omega) hf.2)
    have HTT := Lib.hid (ht'.butT hx.1 (by decide) hf.2)
    have HN := Lib.hid (And.intro hn' (And.intro hk' (And.intro ho' hs')))
    have HW3 := Lib.hid hw3
    clear hf hx hw3 hn' hk' ho' hs' ht' hE12 p0 p1 p2 p3 b0 b1 b2 b3 b4 b5 b6
    have HHX := HH.out
    go_upto_region 18 with fail
    rw [HW3.out]
    have c0 := cell_of_heap HHX.1 0
    have d0 := cell_of_heap HHX.2.2.2 0
    have f0 := frozen_of_heap HHX.2.1 0
    have g0 := frozen_of_heap HHX.2.2.1 0
    have z0 := cell_of_heap HHX.2.1 0
    have y0 := cell_of_heap HHX.2.2.1 0
    have c1 := cell_of_heap HHX.1 1
    have d1 := cell_of_heap HHX.2.2.2 1
    have f1 := frozen_of_heap HHX.2.1 1
    have g1 := frozen_of_heap HHX.2.2.1 1
    have z1 := cell_of_heap HHX.2.1 1
    have y1 := cell_of_heap HHX.2.2.1 1
    have c2 := cell_of_heap HHX.1 2
    have d2 := cell_of_heap HHX.2.2.2 2
    have f2 := frozen_of_heap HHX.2.1 2
    have g2 := frozen_of_heap HHX.2.2.1 2
    have z2 := cell_of_heap HHX.2.1 2
    have y2 := cell_of_heap HHX.2.2.1 2
    have c3 := cell_of_heap HHX.1 3
    have d3 := cell_of_heap HHX.2.2.2 3
    have f3 := frozen_of_heap HHX.2.1 3
    have g3 := frozen_of_heap HHX.2.2.1 3
    have z3 := cell_of_heap HHX.2.1 3
    have y3 := cell_of_heap HHX.2.2.1 3
    have hf := set_four HHX.2.1 (.slice a' n' c') (.int .i64 k') (.bool o') (.int .i64 s')
    obtain ⟨wa, hwa⟩ : ∃ wa, ((((w3.setCell ⟨P + 1 + 1, 0, none⟩ (.slice a' n' c')).setCell ⟨P + 1 + 1, 1, none⟩ (.int .i64 k')).setCell ⟨P + 1 + 1, 2, none⟩ (.bool o')).setCell ⟨P + 1 + 1, 3, none⟩ (.int .i64 s')) = wa := ⟨_, rfl⟩
    rw [hwa] at hf
    have hx3a := (hf.2.block _ (Array.getElem?_eq_some_iff.1 HHX.2.2.1).1 (by omega)).trans HHX.2.2.1
    have hg := set_four hx3a (.int .i64 0) (.int .i64 0) (.slice none 0 0) (.string ⟨#[]⟩)
    obtain ⟨wb, hwb⟩ : ∃ wb, ((((wa.setCell ⟨P + 1 + 1 + 1, 0, none⟩ (.int .i64 0)).setCell ⟨P + 1 + 1 + 1, 1, none⟩ (.int .i64 0)).setCell ⟨P + 1 + 1 + 1, 2, none⟩ (.slice none 0 0)).setCell ⟨P + 1 + 1 + 1, 3, none⟩ (.string ⟨#[]⟩)) = wb := ⟨_, rfl⟩
    rw [hwb] at hg
    have r0 := cell_of_heap (w := wb.drew) ((hg.2.block _ (Array.getElem?_eq_some_iff.1 hf.1).1 (by omega)).trans hf.1) 0
    have t0 := cell_of_heap (w := wb.drew) hg.1 0
    have r1 := cell_of_heap (w := wb.drew) ((hg.2.block _ (Array.getElem?_eq_some_iff.1 hf.1).1 (by omega)).trans hf.1) 1
    have t1 := cell_of_heap (w := wb.drew) hg.1 1
    have r2 := cell_of_heap (w := wb.drew) ((hg.2.block _ (Array.getElem?_eq_some_iff.1 hf.1).1 (by omega)).trans hf.1) 2
    have t2 := cell_of_heap (w := wb.drew) hg.1 2
    have r3 := cell_of_heap (w := wb.drew) ((hg.2.block _ (Array.getElem?_eq_some_iff.1 hf.1).1 (by omega)).trans hf.1) 3
    have t3 := cell_of_heap (w := wb.drew) hg.1 3
    have HE := Lib.hid (And.intro hwa (And.intro hwb (And.intro ((ext_new (ext_new EX.out (by have := HP.out; omega) hf.2) (by have := HP.out; omega) hg.2).trans (Ext.drew wb)) (And.intro (show Txts wb.drew _ _ from (((HTT.out).butT HHX.2.1 (by decide) hf.2).butT hx3a (by decide) hg.2).ext (Ext.drew wb)) (show RowI wb.drew _ _ from (((RowI.nil w3).but HHX.2.1 (by decide) hf.2).but hx3a (by decide) hg.2).ext (Ext.drew wb))))))
    clear hf hwa hx3a hg hwb HHX
    go_wp2_with fail
    go_region
    all_goals
      go_wp2_with fail
      rw [HE.out.1, HE.out.2.1]
      refine bodyPost_ret (v := .tuple #[.agg #[.slice a' n' c', .int .i64 k', .bool o', .int .i64 s'], .agg #[.int .i64 0, .int .i64 0, .slice none 0 0, .string ⟨#[]⟩], .int .i64 (G.trimErr kn)]) ?_ rfl ⟨.agg #[.slice a' n' c', .int .i64 k', .bool o', .int .i64 s'], .slice none 0 0, ?_, ?_, ?_, HE.out.2.2.1⟩
      · simp [results, Tryz.results14, go_sem, r0, r1, r2, r3, t0, t1, t2, t3]
      · simp [Seg.doR, Seg.doE, Seg.zeroR, recV]
      · have hn : Seg.doS G ⟨2, kn, R, ki⟩ = G.trim kn := by simp [Seg.doS]
        rw [hn]
        refine ⟨a', c', ?_, ?_⟩
        · simp only [segV, HN.out.1, HN.out.2.1, HN.out.2.2.1, HN.out.2.2.2]
        · simp only [HN.out.1]
          exact HE.out.2.2.2.1
      · have hn : (Seg.doR G ⟨2, kn, R, ki⟩).tags = [] := by simp [Seg.doR, Seg.zeroR]
        rw [hn]
        exact HE.out.2.2.2.2
  by_cases k4 : kd = 4
  · subst k4
    go_wp2_with fail
    have href : IsRef w1 (refStoV a n c k0 o0) G.s := ⟨a, c, by rw [HK.out.1, HK.out.2.1, HK.out.2.2.1], by rw [HK.out.1]; exact HT.out.ext HW.out.2⟩
    have hcr := crashRef8_any (refStoV a n c k0 o0) kn w1 href HOK.out.ok hfit
    unfold refStoV at hcr
    refine hcr.mono ?_
    clear hcr href
    rintro e wc ⟨uc, rfl, huc, hEc⟩
    have hop := openRef9_any uc (G.s.crash kn) wc huc (Page.St.Ok.crash HOK.out.ok kn)
    rw [show Seg.ofStore (G.s.crash kn) = G.crash kn from rfl] at hop
    obtain ⟨a2, c2, rfl, _⟩ := huc
    obtain ⟨n2, hn2⟩ : ∃ q, (G.s.crash kn).l.length = q := ⟨_, rfl⟩
    obtain ⟨k2', hk2⟩ : ∃ q : Int, ((G.s.crash kn).k : Int) = q := ⟨_, rfl⟩
    obtain ⟨o2, ho2⟩ : ∃ q, (G.s.crash kn).off = q := ⟨_, rfl⟩
    unfold refStoV at hop ⊢
    rw [hn2, hk2, ho2] at hop ⊢
    have HOP := Lib.hid hop
    have HEC := Lib.hid hEc
    obtain ⟨p0, p1, p2, p3⟩ := segEnd (HX.out wc hEc).1
    clear hn2 hk2 ho2 hop hEc
    go_wp2_with fail
    refine HOP.out.mono ?_
    rintro e w2 ⟨u2, rfl, ⟨a', c', rfl, ht'⟩, hE2⟩
    obtain ⟨n', hn'⟩ : ∃ n, (G.crash kn).s.l.length = n := ⟨_, rfl⟩
    obtain ⟨k', hk'⟩ : ∃ q : Int, ((G.crash kn).s.k : Int) = q := ⟨_, rfl⟩
    obtain ⟨o', ho'⟩ : ∃ q, (G.crash kn).s.off = q := ⟨_, rfl⟩
    obtain ⟨s', hs'⟩ : ∃ q : Int, ((G.crash kn).safe : Int) = q := ⟨_, rfl⟩
    simp only [segV, hn', hk', ho', hs']
    simp only [hn'] at ht'
    have hE12 : Ext w1 w2 := HEC.out.trans hE2
    have hx := HX.out w2 hE12
    obtain ⟨x0, x1, x2, x3⟩ := segEnd hx.1
    have f0 := frozen_of_heap hx.1 0
    have f1 := frozen_of_heap hx.1 1
    have f2 := frozen_of_heap hx.1 2
    have f3 := frozen_of_heap hx.1 3
    have hf := set_four hx.1 (.slice a' n' c') (.int .i64 k') (.bool o') (.int .i64 s')
    obtain ⟨w3, hw3⟩ : ∃ w3, ((((w2.setCell ⟨P, 0, none⟩ ((.slice a' n' c'))).setCell ⟨P, 1, none⟩ ((.int .i64 k'))).setCell ⟨P, 2, none⟩ ((.bool o'))).setCell ⟨P, 3, none⟩ ((.int .i64 s'))) = w3 := ⟨_, rfl⟩
    rw [hw3] at hf
    have HH := Lib.hid (And.intro hf.1 (And.intro ((hf.2.block _ (Array.getElem?_eq_some_iff.1 hx.2.1).1 (by omega)).trans hx.2.1) (And.intro ((hf.2.block _ (Array.getElem?_eq_some_iff.1 hx.2.2.1).1 (by omega)).trans hx.2.2.1) ((hf.2.block _ (Array.getElem?_eq_some_iff.1 hx.2.2.2).1 (by omega)).trans hx.2.2.2))))
    have EX := Lib.hid (ext_new (HW.out.2.trans hE12) (by have := HP.out; omega) hf.2)
    have HTT := Lib.hid (ht'.butT hx.1 (by decide) hf.2)
    have HN := Lib.hid (And.intro hn' (And.intro hk' (And.intro ho' hs')))
    have HW3 := Lib.hid hw3
    clear hf hx hw3 hn' hk' ho' hs' ht' hE12 p0 p1 p2 p3 b0 b1 b2 b3 b4 b5 b6
    have HHX := HH.out
    go_upto_region 18 with fail
    rw [HW3.out]
    have c0 := cell_of_heap HHX.1 0
    have d0 := cell_of_heap HHX.2.2.2 0
    have f0 := frozen_of_heap HHX.2.1 0
    have g0 := frozen_of_heap HHX.2.2.1 0
    have z0 := cell_of_heap HHX.2.1 0
    have y0 := cell_of_heap HHX.2.2.1 0
    have c1 := cell_of_heap HHX.1 1
    have d1 := cell_of_heap HHX.2.2.2 1
    have f1 := frozen_of_heap HHX.2.1 1
    have g1 := frozen_of_heap HHX.2.2.1 1
    have z1 := cell_of_heap HHX.2.1 1
    have y1 := cell_of_heap HHX.2.2.1 1
    have c2 := cell_of_heap HHX.1 2
    have d2 := cell_of_heap HHX.2.2.2 2
    have f2 := frozen_of_heap HHX.2.1 2
    have g2 := frozen_of_heap HHX.2.2.1 2
    have z2 := cell_of_heap HHX.2.1 2
    have y2 := cell_of_heap HHX.2.2.1 2
    have c3 := cell_of_heap HHX.1 3
    have d3 := cell_of_heap HHX.2.2.2 3
    have f3 := frozen_of_heap HHX.2.1 3
    have g3 := frozen_of_heap HHX.2.2.1 3
    have z3 := cell_of_heap HHX.2.1 3
    have y3 := cell_of_heap HHX.2.2.1 3
    have hf := set_four HHX.2.1 (.slice a' n' c') (.int .i64 k') (.bool o') (.int .i64 s')
    obtain ⟨wa, hwa⟩ : ∃ wa, ((((w3.setCell ⟨P + 1 + 1, 0, none⟩ (.slice a' n' c')).setCell ⟨P + 1 + 1, 1, none⟩ (.int .i64 k')).setCell ⟨P + 1 + 1, 2, none⟩ (.bool o')).setCell ⟨P + 1 + 1, 3, none⟩ (.int .i64 s')) = wa := ⟨_, rfl⟩
    rw [hwa] at hf
    have hx3a := (hf.2.block _ (Array.getElem?_eq_some_iff.1 HHX.2.2.1).1 (by omega)).trans HHX.2.2.1
    have hg := set_four hx3a (.int .i64 0) (.int .i64 0) (.slice none 0 0) (.string ⟨#[]⟩)
    obtain ⟨wb, hwb⟩ : ∃ wb, ((((wa.setCell ⟨P + 1 + 1 + 1, 0, none⟩ (.int .i64 0)).setCell ⟨P + 1 + 1 + 1, 1, none⟩ (.int .i64 0)).setCell ⟨P + 1 + 1 + 1, 2, none⟩ (.slice none 0 0)).setCell ⟨P + 1 + 1 + 1, 3, none⟩ (.string ⟨#[]⟩)) = wb := ⟨_, rfl⟩
    rw [hwb] at hg
    have r0 := cell_of_heap (w := wb.drew) ((hg.2.block _ (Array.getElem?_eq_some_iff.1 hf.1).1 (by omega)).trans hf.1) 0
    have t0 := cell_of_heap (w := wb.drew) hg.1 0
    have r1 := cell_of_heap (w := wb.drew) ((hg.2.block _ (Array.getElem?_eq_some_iff.1 hf.1).1 (by omega)).trans hf.1) 1
    have t1 := cell_of_heap (w := wb.drew) hg.1 1
    have r2 := cell_of_heap (w := wb.drew) ((hg.2.block _ (Array.getElem?_eq_some_iff.1 hf.1).1 (by omega)).trans hf.1) 2
    have t2 := cell_of_heap (w := wb.drew) hg.1 2
    have r3 := cell_of_heap (w := wb.drew) ((hg.2.block _ (Array.getElem?_eq_some_iff.1 hf.1).1 (by omega)).trans hf.1) 3
    have t3 := cell_of_heap (w := wb.drew) hg.1 3
    have HE := Lib.hid (And.intro hwa (And.intro hwb (And.intro ((ext_new (ext_new EX.out (by have := HP.out; omega) hf.2) (by have := HP.out; omega) hg.2).trans (Ext.drew wb)) (And.intro (show Txts wb.drew _ _ from (((HTT.out).butT HHX.2.1 (by decide) hf.2).butT hx3a (by decide) hg.2).ext (Ext.drew wb)) (show RowI wb.drew _ _ from (((RowI.nil w3).but HHX.2.1 (by decide) hf.2).but hx3a (by decide) hg.2).ext (Ext.drew wb))))))
    clear hf hwa hx3a hg hwb HHX
    go_wp2_with fail
    go_region
    all_goals
      go_wp2_with fail
      rw [HE.out.1, HE.out.2.1]
      refine bodyPost_ret (v := .tuple #[.agg #[.slice a' n' c', .int .i64 k', .bool o', .int .i64 s'], .agg #[.int .i64 0, .int .i64 0, .slice none 0 0, .string ⟨#[]⟩], .int .i64 0]) ?_ rfl ⟨.agg #[.slice a' n' c', .int .i64 k', .bool o', .int .i64 s'], .slice none 0 0, ?_, ?_, ?_, HE.out.2.2.1⟩
      · simp [results, Tryz.results14, go_sem, r0, r1, r2, r3, t0, t1, t2, t3]
      · simp [Seg.doR, Seg.doE, Seg.zeroR, recV]
      · have hn : Seg.doS G ⟨4, kn, R, ki⟩ = G.crash kn := by simp [Seg.doS]
        rw [hn]
        refine ⟨a', c', ?_, ?_⟩
        · simp only [segV, HN.out.1, HN.out.2.1, HN.out.2.2.1, HN.out.2.2.2]
        · simp only [HN.out.1]
          exact HE.out.2.2.2.1
      · have hn : (Seg.doR G ⟨4, kn, R, ki⟩).tags = [] := by simp [Seg.doR, Seg.zeroR]
        rw [hn]
        exact HE.out.2.2.2.2
  by_cases k5 : kd = 5
  · subst k5
    have hx := HX.out w1 (Ext.refl _)
    have hb := butSet w1 P 2 (.bool ki)
    have hs := heap_setCell hx.1 2 (.bool ki)
    obtain ⟨w3, hw3⟩ : ∃ w3, w1.setCell ⟨P, 2, none⟩ (.bool ki) = w3 := ⟨_, rfl⟩
    rw [hw3] at hb hs
    have HH := Lib.hid (And.intro (show w3.heap[P]? = some (.cells #[.slice a n c, .int .i64 k0, .bool ki, .int .i64 s0] 36 (0, 0)) from hs) (And.intro ((hb.block _ (Array.getElem?_eq_some_iff.1 hx.2.1).1 (by omega)).trans hx.2.1) (And.intro ((hb.block _ (Array.getElem?_eq_some_iff.1 hx.2.2.1).1 (by omega)).trans hx.2.2.1) ((hb.block _ (Array.getElem?_eq_some_iff.1 hx.2.2.2).1 (by omega)).trans hx.2.2.2))))
    have EX := Lib.hid (ext_new HW.out.2 (by have := HP.out; omega) hb)
    have HTT := Lib.hid ((HT.out.ext HW.out.2).butT hx.1 (by decide) hb)
    have HW3 := Lib.hid hw3
    have f0 := frozen_of_heap hx.1 2
    clear hb hs hx hw3
    have HHX := HH.out
    go_upto_region 18 with fail
    clear p0 p1 p2 p3 b0 b1 b2 b3 b4 b5 b6
    rw [HW3.out]
    have c0 := cell_of_heap HHX.1 0
    have d0 := cell_of_heap HHX.2.2.2 0
    have f0 := frozen_of_heap HHX.2.1 0
    have g0 := frozen_of_heap HHX.2.2.1 0
    have z0 := cell_of_heap HHX.2.1 0
    have y0 := cell_of_heap HHX.2.2.1 0
    have c1 := cell_of_heap HHX.1 1
    have d1 := cell_of_heap HHX.2.2.2 1
    have f1 := frozen_of_heap HHX.2.1 1
    have g1 := frozen_of_heap HHX.2.2.1 1
    have z1 := cell_of_heap HHX.2.1 1
    have y1 := cell_of_heap HHX.2.2.1 1
    have c2 := cell_of_heap HHX.1 2
    have d2 := cell_of_heap HHX.2.2.2 2
    have f2 := frozen_of_heap HHX.2.1 2
    have g2 := frozen_of_heap HHX.2.2.1 2
    have z2 := cell_of_heap HHX.2.1 2
    have y2 := cell_of_heap HHX.2.2.1 2
    have c3 := cell_of_heap HHX.1 3
    have d3 := cell_of_heap HHX.2.2.2 3
    have f3 := frozen_of_heap HHX.2.1 3
    have g3 := frozen_of_heap HHX.2.2.1 3
    have z3 := cell_of_heap HHX.2.1 3
    have y3 := cell_of_heap HHX.2.2.1 3
    have hf := set_four HHX.2.1 (.slice a n c) (.int .i64 k0) (.bool ki) (.int .i64 s0)
    obtain ⟨wa, hwa⟩ : ∃ wa, ((((w3.setCell ⟨P + 1 + 1, 0, none⟩ (.slice a n c)).setCell ⟨P + 1 + 1, 1, none⟩ (.int .i64 k0)).setCell ⟨P + 1 + 1, 2, none⟩ (.bool ki)).setCell ⟨P + 1 + 1, 3, none⟩ (.int .i64 s0)) = wa := ⟨_, rfl⟩
    rw [hwa] at hf
    have hx3a := (hf.2.block _ (Array.getElem?_eq_some_iff.1 HHX.2.2.1).1 (by omega)).trans HHX.2.2.1
    have hg := set_four hx3a (.int .i64 0) (.int .i64 0) (.slice none 0 0) (.string ⟨#[]⟩)
    obtain ⟨wb, hwb⟩ : ∃ wb, ((((wa.setCell ⟨P + 1 + 1 + 1, 0, none⟩ (.int .i64 0)).setCell ⟨P + 1 + 1 + 1, 1, none⟩ (.int .i64 0)).setCell ⟨P + 1 + 1 + 1, 2, none⟩ (.slice none 0 0)).setCell ⟨P + 1 + 1 + 1, 3, none⟩ (.string ⟨#[]⟩)) = wb := ⟨_, rfl⟩
    rw [hwb] at hg
    have r0 := cell_of_heap (w := wb.drew) ((hg.2.block _ (Array.getElem?_eq_some_iff.1 hf.1).1 (by omega)).trans hf.1) 0
    have t0 := cell_of_heap (w := wb.drew) hg.1 0
    have r1 := cell_of_heap (w := wb.drew) ((hg.2.block _ (Array.getElem?_eq_some_iff.1 hf.1).1 (by omega)).trans hf.1) 1
    have t1 := cell_of_heap (w := wb.drew) hg.1 1
    have r2 := cell_of_heap (w := wb.drew) ((hg.2.block _ (Array.getElem?_eq_some_iff.1 hf.1).1 (by omega)).trans hf.1) 2
    have t2 := cell_of_heap (w := wb.drew) hg.1 2
    have r3 := cell_of_heap (w := wb.drew) ((hg.2.block _ (Array.getElem?_eq_some_iff.1 hf.1).1 (by omega)).trans hf.1) 3
    have t3 := cell_of_heap (w := wb.drew) hg.1 3
    have HE := Lib.hid (And.intro hwa (And.intro hwb (And.intro ((ext_new (ext_new EX.out (by have := HP.out; omega) hf.2) (by have := HP.out; omega) hg.2).trans (Ext.drew wb)) (And.intro (show Txts wb.drew _ _ from (((HTT.out).butT HHX.2.1 (by decide) hf.2).butT hx3a (by decide) hg.2).ext (Ext.drew wb)) (show RowI wb.drew _ _ from (((RowI.nil w3).but HHX.2.1 (by decide) hf.2).but hx3a (by decide) hg.2).ext (Ext.drew wb))))))
    clear hf hwa hx3a hg hwb HHX
    go_wp2_with fail
    go_region
    all_goals
      go_wp2_with fail
      rw [HE.out.1, HE.out.2.1]
      refine bodyPost_ret (v := .tuple #[.agg #[.slice a n c, .int .i64 k0, .bool ki, .int .i64 s0], .agg #[.int .i64 0, .int .i64 0, .slice none 0 0, .string ⟨#[]⟩], .int .i64 0]) ?_ rfl ⟨.agg #[.slice a n c, .int .i64 k0, .bool ki, .int .i64 s0], .slice none 0 0, ?_, ?_, ?_, HE.out.2.2.1⟩
      · simp [results, Tryz.results14, go_sem, r0, r1, r2, r3, t0, t1, t2, t3]
      · simp [Seg.doR, Seg.doE, Seg.zeroR, recV]
      · have hn : Seg.doS G ⟨5, kn, R, ki⟩ = G.setOff ki := by simp [Seg.doS]
        rw [hn]
        refine ⟨a, c, ?_, ?_⟩
        · show _ = segV a G.s.l.length c G.s.k ki G.safe
          simp only [segV, HK.out.1, HK.out.2.1, HK.out.2.2.2]
        · show Txts _ (.slice a G.s.l.length c) G.s.l
          rw [HK.out.1]
          exact HE.out.2.2.2.1
      · have hn : (Seg.doR G ⟨5, kn, R, ki⟩).tags = [] := by simp [Seg.doR, Seg.zeroR]
        rw [hn]
        exact HE.out.2.2.2.2
  by_cases k1 : kd = 1
  · subst k1
    go_wp2_with fail
    refine (getRefS9_any _ G kn w1 (HREF.out.ext HW.out.2) HOK.out.ok).mono ?_
    rintro e w2 ⟨tr, rfl, hrow, hE2⟩
    obtain ⟨RG, hRG⟩ : ∃ R, G.getRec kn = R := ⟨_, rfl⟩
    obtain ⟨er, her⟩ : ∃ R, G.getErr kn = R := ⟨_, rfl⟩
    rw [hRG] at hrow ⊢
    rw [her]
    obtain ⟨a1, nt, a3, rfl⟩ : ∃ x y z, tr = .slice x y z := by
      obtain ⟨b', n', ho⟩ := hrow
      exact ownSlice ho
    obtain ⟨u0, hu0⟩ : ∃ q : Int, RG.client = q := ⟨_, rfl⟩
    obtain ⟨u1, hu1⟩ : ∃ q : Int, RG.number = q := ⟨_, rfl⟩
    obtain ⟨u3, hu3⟩ : ∃ q : ByteArray, (⟨RG.data.toArray⟩ : ByteArray) = q := ⟨_, rfl⟩
    unfold recV
    rw [hu0, hu1, hu3]
    have hx := HX.out w2 hE2
    have hf := set_four hx.2.2.2 (.int .i64 u0) (.int .i64 u1) (.slice a1 nt a3) (.string u3)
    obtain ⟨w3, hw3⟩ : ∃ w3, ((((w2.setCell ⟨P + 1 + 1 + 1 + 1, 0, none⟩ (.int .i64 u0)).setCell ⟨P + 1 + 1 + 1 + 1, 1, none⟩ (.int .i64 u1)).setCell ⟨P + 1 + 1 + 1 + 1, 2, none⟩ (.slice a1 nt a3)).setCell ⟨P + 1 + 1 + 1 + 1, 3, none⟩ (.string u3)) = w3 := ⟨_, rfl⟩
    rw [hw3] at hf
    have HH := Lib.hid (And.intro ((hf.2.block _ (Array.getElem?_eq_some_iff.1 hx.1).1 (by omega)).trans hx.1) (And.intro ((hf.2.block _ (Array.getElem?_eq_some_iff.1 hx.2.1).1 (by omega)).trans hx.2.1) (And.intro ((hf.2.block _ (Array.getElem?_eq_some_iff.1 hx.2.2.1).1 (by omega)).trans hx.2.2.1) hf.1)))
    have EX := Lib.hid (ext_new (HW.out.2.trans hE2) (by have := HP.out; omega) hf.2)
    have HTT := Lib.hid ((HT.out.ext (HW.out.2.trans hE2)).butT hx.2.2.2 (by decide) hf.2)
    have HRR := Lib.hid (hrow.but hx.2.2.2 (by decide) hf.2)
    have HU := Lib.hid (And.intro hRG (And.intro her (And.intro hu0 (And.intro hu1 hu3))))
    have HW3 := Lib.hid hw3
    have m0 := cell_of_heap hx.2.2.2 0
    have m1 := cell_of_heap hx.2.2.2 1
    have m2 := cell_of_heap hx.2.2.2 2
    have m3 := cell_of_heap hx.2.2.2 3
    have j0 := frozen_of_heap hx.2.2.2 0
    have j1 := frozen_of_heap hx.2.2.2 1
    have j2 := frozen_of_heap hx.2.2.2 2
    have j3 := frozen_of_heap hx.2.2.2 3
    clear hf hx hw3 hrow hRG her hu0 hu1 hu3 hE2 p0 p1 p2 p3 b0 b1 b2 b3 b4 b5 b6
    have HHX := HH.out
    go_upto_region 18 with fail
    rw [HW3.out]
    have c0 := cell_of_heap HHX.1 0
    have d0 := cell_of_heap HHX.2.2.2 0
    have f0 := frozen_of_heap HHX.2.1 0
    have g0 := frozen_of_heap HHX.2.2.1 0
    have z0 := cell_of_heap HHX.2.1 0
    have y0 := cell_of_heap HHX.2.2.1 0
    have c1 := cell_of_heap HHX.1 1
    have d1 := cell_of_heap HHX.2.2.2 1
    have f1 := frozen_of_heap HHX.2.1 1
    have g1 := frozen_of_heap HHX.2.2.1 1
    have z1 := cell_of_heap HHX.2.1 1
    have y1 := cell_of_heap HHX.2.2.1 1
    have c2 := cell_of_heap HHX.1 2
    have d2 := cell_of_heap HHX.2.2.2 2
    have f2 := frozen_of_heap HHX.2.1 2
    have g2 := frozen_of_heap HHX.2.2.1 2
    have z2 := cell_of_heap HHX.2.1 2
    have y2 := cell_of_heap HHX.2.2.1 2
    have c3 := cell_of_heap HHX.1 3
    have d3 := cell_of_heap HHX.2.2.2 3
    have f3 := frozen_of_heap HHX.2.1 3
    have g3 := frozen_of_heap HHX.2.2.1 3
    have z3 := cell_of_heap HHX.2.1 3
    have y3 := cell_of_heap HHX.2.2.1 3
    have hf := set_four HHX.2.1 (.slice a n c) (.int .i64 k0) (.bool o0) (.int .i64 s0)
    obtain ⟨wa, hwa⟩ : ∃ wa, ((((w3.setCell ⟨P + 1 + 1, 0, none⟩ (.slice a n c)).setCell ⟨P + 1 + 1, 1, none⟩ (.int .i64 k0)).setCell ⟨P + 1 + 1, 2, none⟩ (.bool o0)).setCell ⟨P + 1 + 1, 3, none⟩ (.int .i64 s0)) = wa := ⟨_, rfl⟩
    rw [hwa] at hf
    have hx3a := (hf.2.block _ (Array.getElem?_eq_some_iff.1 HHX.2.2.1).1 (by omega)).trans HHX.2.2.1
    have hg := set_four hx3a (.int .i64 u0) (.int .i64 u1) (.slice a1 nt a3) (.string u3)
    obtain ⟨wb, hwb⟩ : ∃ wb, ((((wa.setCell ⟨P + 1 + 1 + 1, 0, none⟩ (.int .i64 u0)).setCell ⟨P + 1 + 1 + 1, 1, none⟩ (.int .i64 u1)).setCell ⟨P + 1 + 1 + 1, 2, none⟩ (.slice a1 nt a3)).setCell ⟨P + 1 + 1 + 1, 3, none⟩ (.string u3)) = wb := ⟨_, rfl⟩
    rw [hwb] at hg
    have r0 := cell_of_heap (w := wb.drew) ((hg.2.block _ (Array.getElem?_eq_some_iff.1 hf.1).1 (by omega)).trans hf.1) 0
    have t0 := cell_of_heap (w := wb.drew) hg.1 0
    have r1 := cell_of_heap (w := wb.drew) ((hg.2.block _ (Array.getElem?_eq_some_iff.1 hf.1).1 (by omega)).trans hf.1) 1
    have t1 := cell_of_heap (w := wb.drew) hg.1 1
    have r2 := cell_of_heap (w := wb.drew) ((hg.2.block _ (Array.getElem?_eq_some_iff.1 hf.1).1 (by omega)).trans hf.1) 2
    have t2 := cell_of_heap (w := wb.drew) hg.1 2
    have r3 := cell_of_heap (w := wb.drew) ((hg.2.block _ (Array.getElem?_eq_some_iff.1 hf.1).1 (by omega)).trans hf.1) 3
    have t3 := cell_of_heap (w := wb.drew) hg.1 3
    have HE := Lib.hid (And.intro hwa (And.intro hwb (And.intro ((ext_new (ext_new EX.out (by have := HP.out; omega) hf.2) (by have := HP.out; omega) hg.2).trans (Ext.drew wb)) (And.intro (show Txts wb.drew _ _ from (((HTT.out).butT HHX.2.1 (by decide) hf.2).butT hx3a (by decide) hg.2).ext (Ext.drew wb)) (show RowI wb.drew _ _ from (((HRR.out).but HHX.2.1 (by decide) hf.2).but hx3a (by decide) hg.2).ext (Ext.drew wb))))))
    clear hf hwa hx3a hg hwb HHX
    go_wp2_with fail
    go_region
    all_goals
      go_wp2_with fail
      rw [HE.out.1, HE.out.2.1]
      refine bodyPost_ret (v := .tuple #[.agg #[.slice a n c, .int .i64 k0, .bool o0, .int .i64 s0], .agg #[.int .i64 u0, .int .i64 u1, .slice a1 nt a3, .string u3], .int .i64 er]) ?_ rfl ⟨.agg #[.slice a n c, .int .i64 k0, .bool o0, .int .i64 s0], .slice a1 nt a3, ?_, ?_, ?_, HE.out.2.2.1⟩
      · simp [results, Tryz.results14, go_sem, r0, r1, r2, r3, t0, t1, t2, t3]
      · have hn : Seg.doR G ⟨1, kn, R, ki⟩ = RG := by simp only [Seg.doR, if_true, HU.out.1]
        have hn2 : Seg.doE G ⟨1, kn, R, ki⟩ = er := by simp only [Seg.doE, if_neg (show ¬ (1 : Int) = 0 by decide), if_true, HU.out.2.1]
        rw [hn, hn2]
        simp only [recV, HU.out.2.2.1, HU.out.2.2.2.1, HU.out.2.2.2.2]
      · have hn : Seg.doS G ⟨1, kn, R, ki⟩ = G := by simp [Seg.doS]
        rw [hn]
        refine ⟨a, c, ?_, ?_⟩
        · simp only [segV, HK.out.1, HK.out.2.1, HK.out.2.2.1, HK.out.2.2.2]
        · rw [HK.out.1]
          exact HE.out.2.2.2.1
      · have hn : Seg.doR G ⟨1, kn, R, ki⟩ = RG := by simp only [Seg.doR, if_true, HU.out.1]
        rw [hn]
        exact HE.out.2.2.2.2
  by_cases k3 : kd = 3
  · subst k3
    cases o0 with
    | true =>
      have HH := Lib.hid (HX.out w1 (Ext.refl _))
      have EX := Lib.hid HW.out.2
      have HTT := Lib.hid (HT.out.ext HW.out.2)
      have HHX := HH.out
      go_upto_region 18 with fail
      clear p0 p1 p2 p3 b0 b1 b2 b3 b4 b5 b6
      have c0 := cell_of_heap HHX.1 0
      have d0 := cell_of_heap HHX.2.2.2 0
      have f0 := frozen_of_heap HHX.2.1 0
      have g0 := frozen_of_heap HHX.2.2.1 0
      have z0 := cell_of_heap HHX.2.1 0
      have y0 := cell_of_heap HHX.2.2.1 0
      have c1 := cell_of_heap HHX.1 1
      have d1 := cell_of_heap HHX.2.2.2 1
      have f1 := frozen_of_heap HHX.2.1 1
      have g1 := frozen_of_heap HHX.2.2.1 1
      have z1 := cell_of_heap HHX.2.1 1
      have y1 := cell_of_heap HHX.2.2.1 1
      have c2 := cell_of_heap HHX.1 2
      have d2 := cell_of_heap HHX.2.2.2 2
      have f2 := frozen_of_heap HHX.2.1 2
      have g2 := frozen_of_heap HHX.2.2.1 2
      have z2 := cell_of_heap HHX.2.1 2
      have y2 := cell_of_heap HHX.2.2.1 2
      have c3 := cell_of_heap HHX.1 3
      have d3 := cell_of_heap HHX.2.2.2 3
      have f3 := frozen_of_heap HHX.2.1 3
      have g3 := frozen_of_heap HHX.2.2.1 3
      have z3 := cell_of_heap HHX.2.1 3
      have y3 := cell_of_heap HHX.2.2.1 3
      have hf := set_four HHX.2.1 (.slice a n c) (.int .i64 k0) (.bool true) (.int .i64 s0)
      obtain ⟨wa, hwa⟩ : ∃ wa, ((((w1.setCell ⟨P + 1 + 1, 0, none⟩ (.slice a n c)).setCell ⟨P + 1 + 1, 1, none⟩ (.int .i64 k0)).setCell ⟨P + 1 + 1, 2, none⟩ (.bool true)).setCell ⟨P + 1 + 1, 3, none⟩ (.int .i64 s0)) = wa := ⟨_, rfl⟩
      rw [hwa] at hf
      have hx3a := (hf.2.block _ (Array.getElem?_eq_some_iff.1 HHX.2.2.1).1 (by omega)).trans HHX.2.2.1
      have hg := set_four hx3a (.int .i64 0) (.int .i64 0) (.slice none 0 0) (.string ⟨#[]⟩)
      obtain ⟨wb, hwb⟩ : ∃ wb, ((((wa.setCell ⟨P + 1 + 1 + 1, 0, none⟩ (.int .i64 0)).setCell ⟨P + 1 + 1 + 1, 1, none⟩ (.int .i64 0)).setCell ⟨P + 1 + 1 + 1, 2, none⟩ (.slice none 0 0)).setCell ⟨P + 1 + 1 + 1, 3, none⟩ (.string ⟨#[]⟩)) = wb := ⟨_, rfl⟩
      rw [hwb] at hg
      have r0 := cell_of_heap (w := wb.drew) ((hg.2.block _ (Array.getElem?_eq_some_iff.1 hf.1).1 (by omega)).trans hf.1) 0
      have t0 := cell_of_heap (w := wb.drew) hg.1 0
      have r1 := cell_of_heap (w := wb.drew) ((hg.2.block _ (Array.getElem?_eq_some_iff.1 hf.1).1 (by omega)).trans hf.1) 1
      have t1 := cell_of_heap (w := wb.drew) hg.1 1
      have r2 := cell_of_heap (w := wb.drew) ((hg.2.block _ (Array.getElem?_eq_some_iff.1 hf.1).1 (by omega)).trans hf.1) 2
      have t2 := cell_of_heap (w := wb.drew) hg.1 2
      have r3 := cell_of_heap (w := wb.drew) ((hg.2.block _ (Array.getElem?_eq_some_iff.1 hf.1).1 (by omega)).trans hf.1) 3
      have t3 := cell_of_heap (w := wb.drew) hg.1 3
      have HE := Lib.hid (And.intro hwa (And.intro hwb (And.intro ((ext_new (ext_new EX.out (by have := HP.out; omega) hf.2) (by have := HP.out; omega) hg.2).trans (Ext.drew wb)) (And.intro (show Txts wb.drew _ _ from (((HTT.out).butT HHX.2.1 (by decide) hf.2).butT hx3a (by decide) hg.2).ext (Ext.drew wb)) (show RowI wb.drew _ _ from (((RowI.nil w1).but HHX.2.1 (by decide) hf.2).but hx3a (by decide) hg.2).ext (Ext.drew wb))))))
      clear hf hwa hx3a hg hwb HHX
      go_wp2_with fail
      go_region
      all_goals
        go_wp2_with fail
        rw [HE.out.1, HE.out.2.1]
        refine bodyPost_ret (v := .tuple #[.agg #[.slice a n c, .int .i64 k0, .bool true, .int .i64 s0], .agg #[.int .i64 0, .int .i64 0, .slice none 0 0, .string ⟨#[]⟩], .int .i64 0]) ?_ rfl ⟨.agg #[.slice a n c, .int .i64 k0, .bool true, .int .i64 s0], .slice none 0 0, ?_, ?_, ?_, HE.out.2.2.1⟩
        · simp [results, Tryz.results14, go_sem, r0, r1, r2, r3, t0, t1, t2, t3]
        · simp [Seg.doR, Seg.doE, Seg.zeroR, recV]
        · have hn : Seg.doS G ⟨3, kn, R, ki⟩ = G := by simp [Seg.doS, Seg.Sg.sync, HK.out.2.2.1]
          rw [hn]
          refine ⟨a, c, ?_, ?_⟩
          · simp only [segV, HK.out.1, HK.out.2.1, HK.out.2.2.1, HK.out.2.2.2]
          · rw [HK.out.1]
            exact HE.out.2.2.2.1
        · have hn : (Seg.doR G ⟨3, kn, R, ki⟩).tags = [] := by simp [Seg.doR, Seg.zeroR]
          rw [hn]
          exact HE.out.2.2.2.2
    | false =>
      have hx := HX.out w1 (Ext.refl _)
      have hb := butSet w1 P 1 (.int .i64 (n : Int))
      have hs := heap_setCell hx.1 1 (.int .i64 (n : Int))
      obtain ⟨w2, hw2⟩ : ∃ w2, w1.setCell ⟨P, 1, none⟩ (.int .i64 (n : Int)) = w2 := ⟨_, rfl⟩
      rw [hw2] at hb hs
      have hs : w2.heap[P]? = some (.cells #[.slice a n c, .int .i64 (n : Int), .bool false, .int .i64 s0] 36 (0, 0)) := hs
      have hE2 : Ext w w2 := ext_new HW.out.2 (by have := HP.out; omega) hb
      have ht2 := (HT.out.ext HW.out.2).butT hx.1 (by decide) hb
      have hh2 : w2.heap[P + 1 + 1]? = _ ∧ w2.heap[P + 1 + 1 + 1]? = _ ∧ w2.heap[P + 1 + 1 + 1 + 1]? = _ := And.intro ((hb.block _ (Array.getElem?_eq_some_iff.1 hx.2.1).1 (by omega)).trans hx.2.1) (And.intro ((hb.block _ (Array.getElem?_eq_some_iff.1 hx.2.2.1).1 (by omega)).trans hx.2.2.1) ((hb.block _ (Array.getElem?_eq_some_iff.1 hx.2.2.2).1 (by omega)).trans hx.2.2.2))
      have hsy : G.sync = ⟨⟨G.s.l, G.s.l.length, false⟩, G.len⟩ := by
        unfold Seg.Sg.sync
        rw [if_neg (by rw [HK.out.2.2.1]; simp)]
        unfold Page.St.sync
        rw [if_neg (by rw [HK.out.2.2.1]; simp), HK.out.2.2.1]
      have hof := ofRef9_any (.agg #[.slice a n c, .int .i64 (n : Int), .bool false, .int .i64 s0]) ⟨⟨G.s.l, G.s.l.length, false⟩, G.safe⟩ w2 ⟨a, c, by rw [← HK.out.1, ← HK.out.2.2.2]; rfl, by show Txts w2 (.slice a G.s.l.length c) G.s.l; rw [HK.out.1]; exact ht2⟩ ⟨HOK.out.ok.small, Nat.le_refl _, HOK.out.ok.max⟩
      have HOF := Lib.hid hof
      have HSY := Lib.hid hsy
      have H2 := Lib.hid (And.intro hw2 (And.intro hs (And.intro hh2 (And.intro hE2 ht2))))
      have f0 := frozen_of_heap hx.1 1
      clear hx hb hs hw2 hE2 ht2 hh2 hsy hof
      go_upto_region 13 with fail
      rw [H2.out.1]
      obtain ⟨x0, x1, x2, x3⟩ := segEnd H2.out.2.1
      clear p0 p1 p2 p3 b0 b1 b2 b3 b4 b5 b6 f0
      go_wp2_with fail
      refine HOF.out.mono ?_
      rintro e w4 ⟨u4, qs, rfl, hu4, hqs, hE4⟩
      obtain ⟨ua, un, uc, rfl⟩ := ownSlice hu4.row
      have hun : un = G.len := by
        obtain ⟨_, _, e, _⟩ := hu4.recs
        injection e with _ e _
        rw [e, hqs]
        rfl
      obtain ⟨T, hT'⟩ : ∃ q, (⟨⟨G.s.l, G.s.l.length, false⟩, G.safe⟩ : Seg.Sg).w.trimmed = q := ⟨_, rfl⟩
      obtain ⟨Bk, hBk⟩ : ∃ q, (⟨⟨G.s.l, G.s.l.length, false⟩, G.safe⟩ : Seg.Sg).w.broken = q := ⟨_, rfl⟩
      unfold whatV
      rw [hT', hBk]
      have hfw := field_what w4 ua un uc (T : Int) Bk
      obtain ⟨ln, hln⟩ : ∃ q : Int, (un : Int) = q := ⟨_, rfl⟩
      have hx1 := heap_ext H2.out.2.1 hE4
      have hb := butSet w4 P 3 (.int .i64 ln)
      have hs := heap_setCell hx1 3 (.int .i64 ln)
      obtain ⟨w3, hw3⟩ : ∃ w3, w4.setCell ⟨P, 3, none⟩ (.int .i64 ln) = w3 := ⟨_, rfl⟩
      rw [hw3] at hb hs
      have hs : w3.heap[P]? = some (.cells #[.slice a n c, .int .i64 (n : Int), .bool false, .int .i64 ln] 36 (0, 0)) := hs
      have hy2 := heap_ext H2.out.2.2.1.1 hE4
      have hy3 := heap_ext H2.out.2.2.1.2.1 hE4
      have hy4 := heap_ext H2.out.2.2.1.2.2 hE4
      have HH := Lib.hid (And.intro hs (And.intro ((hb.block _ (Array.getElem?_eq_some_iff.1 hy2).1 (by omega)).trans hy2) (And.intro ((hb.block _ (Array.getElem?_eq_some_iff.1 hy3).1 (by omega)).trans hy3) ((hb.block _ (Array.getElem?_eq_some_iff.1 hy4).1 (by omega)).trans hy4))))
      have EX := Lib.hid (ext_new (H2.out.2.2.2.1.trans hE4) (by have := HP.out; omega) hb)
      have HTT := Lib.hid ((H2.out.2.2.2.2.ext hE4).butT hx1 (by decide) hb)
      have HLN := Lib.hid (And.intro hun hln)
      have HW3 := Lib.hid hw3
      obtain ⟨x0, x1, x2, x3⟩ := segEnd hx1
      have f0 := frozen_of_heap hx1 3
      clear hb hs hx1 hw3 hy2 hy3 hy4 hE4 hT' hBk hun hu4 hqs
      have HHX := HH.out
      go_upto_region 18 with fail
      rw [HW3.out]
      clear hln hfw x0 x1 x2 x3 f0
      have c0 := cell_of_heap HHX.1 0
      have d0 := cell_of_heap HHX.2.2.2 0
      have f0 := frozen_of_heap HHX.2.1 0
      have g0 := frozen_of_heap HHX.2.2.1 0
      have z0 := cell_of_heap HHX.2.1 0
      have y0 := cell_of_heap HHX.2.2.1 0
      have c1 := cell_of_heap HHX.1 1
      have d1 := cell_of_heap HHX.2.2.2 1
      have f1 := frozen_of_heap HHX.2.1 1
      have g1 := frozen_of_heap HHX.2.2.1 1
      have z1 := cell_of_heap HHX.2.1 1
      have y1 := cell_of_heap HHX.2.2.1 1
      have c2 := cell_of_heap HHX.1 2
      have d2 := cell_of_heap HHX.2.2.2 2
      have f2 := frozen_of_heap HHX.2.1 2
      have g2 := frozen_of_heap HHX.2.2.1 2
      have z2 := cell_of_heap HHX.2.1 2
      have y2 := cell_of_heap HHX.2.2.1 2
      have c3 := cell_of_heap HHX.1 3
      have d3 := cell_of_heap HHX.2.2.2 3
      have f3 := frozen_of_heap HHX.2.1 3
      have g3 := frozen_of_heap HHX.2.2.1 3
      have z3 := cell_of_heap HHX.2.1 3
      have y3 := cell_of_heap HHX.2.2.1 3
      have hf := set_four HHX.2.1 (.slice a n c) (.int .i64 (n : Int)) (.bool false) (.int .i64 ln)
      obtain ⟨wa, hwa⟩ : ∃ wa, ((((w3.setCell ⟨P + 1 + 1, 0, none⟩ (.slice a n c)).setCell ⟨P + 1 + 1, 1, none⟩ (.int .i64 (n : Int))).setCell ⟨P + 1 + 1, 2, none⟩ (.bool false)).setCell ⟨P + 1 + 1, 3, none⟩ (.int .i64 ln)) = wa := ⟨_, rfl⟩
      rw [hwa] at hf
      have hx3a := (hf.2.block _ (Array.getElem?_eq_some_iff.1 HHX.2.2.1).1 (by omega)).trans HHX.2.2.1
      have hg := set_four hx3a (.int .i64 0) (.int .i64 0) (.slice none 0 0) (.string ⟨#[]⟩)
      obtain ⟨wb, hwb⟩ : ∃ wb, ((((wa.setCell ⟨P + 1 + 1 + 1, 0, none⟩ (.int .i64 0)).setCell ⟨P + 1 + 1 + 1, 1, none⟩ (.int .i64 0)).setCell ⟨P + 1 + 1 + 1, 2, none⟩ (.slice none 0 0)).setCell ⟨P + 1 + 1 + 1, 3, none⟩ (.string ⟨#[]⟩)) = wb := ⟨_, rfl⟩
      rw [hwb] at hg
      have r0 := cell_of_heap (w := wb.drew) ((hg.2.block _ (Array.getElem?_eq_some_iff.1 hf.1).1 (by omega)).trans hf.1) 0
      have t0 := cell_of_heap (w := wb.drew) hg.1 0
      have r1 := cell_of_heap (w := wb.drew) ((hg.2.block _ (Array.getElem?_eq_some_iff.1 hf.1).1 (by omega)).trans hf.1) 1
      have t1 := cell_of_heap (w := wb.drew) hg.1 1
      have r2 := cell_of_heap (w := wb.drew) ((hg.2.block _ (Array.getElem?_eq_some_iff.1 hf.1).1 (by omega)).trans hf.1) 2
      have t2 := cell_of_heap (w := wb.drew) hg.1 2
      have r3 := cell_of_heap (w := wb.drew) ((hg.2.block _ (Array.getElem?_eq_some_iff.1 hf.1).1 (by omega)).trans hf.1) 3
      have t3 := cell_of_heap (w := wb.drew) hg.1 3
      have HE := Lib.hid (And.intro hwa (And.intro hwb (And.intro ((ext_new (ext_new EX.out (by have := HP.out; omega) hf.2) (by have := HP.out; omega) hg.2).trans (Ext.drew wb)) (And.intro (show Txts wb.drew _ _ from (((HTT.out).butT HHX.2.1 (by decide) hf.2).butT hx3a (by decide) hg.2).ext (Ext.drew wb)) (show RowI wb.drew _ _ from (((RowI.nil w3).but HHX.2.1 (by decide) hf.2).but hx3a (by decide) hg.2).ext (Ext.drew wb))))))
      clear hf hwa hx3a hg hwb HHX
      go_wp2_with fail
      go_region
      all_goals
        go_wp2_with fail
        rw [HE.out.1, HE.out.2.1]
        refine bodyPost_ret (v := .tuple #[.agg #[.slice a n c, .int .i64 (n : Int), .bool false, .int .i64 ln], .agg #[.int .i64 0, .int .i64 0, .slice none 0 0, .string ⟨#[]⟩], .int .i64 0]) ?_ rfl ⟨.agg #[.slice a n c, .int .i64 (n : Int), .bool false, .int .i64 ln], .slice none 0 0, ?_, ?_, ?_, HE.out.2.2.1⟩
        · simp [results, Tryz.results14, go_sem, r0, r1, r2, r3, t0, t1, t2, t3]
        · simp [Seg.doR, Seg.doE, Seg.zeroR, recV]
        · have hn : Seg.doS G ⟨3, kn, R, ki⟩ = G.sync := by simp [Seg.doS]
          rw [hn, HSY.out]
          refine ⟨a, c, ?_, ?_⟩
          · show _ = segV a G.s.l.length c (G.s.l.length : Nat) false (G.len : Nat)
            simp only [segV, HK.out.1, ← HLN.out.1, HLN.out.2]
          · show Txts _ (.slice a G.s.l.length c) G.s.l
            rw [HK.out.1]
            exact HE.out.2.2.2.1
        · have hn : (Seg.doR G ⟨3, kn, R, ki⟩).tags = [] := by simp [Seg.doR, Seg.zeroR]
          rw [hn]
          exact HE.out.2.2.2.2
  have HH := Lib.hid (HX.out w1 (Ext.refl _))
  have EX := Lib.hid HW.out.2
  have HTT := Lib.hid (HT.out.ext HW.out.2)
  have HHX := HH.out
  go_upto_region 18 with fail
  clear p0 p1 p2 p3 b0 b1 b2 b3 b4 b5 b6
  have c0 := cell_of_heap HHX.1 0
  have d0 := cell_of_heap HHX.2.2.2 0
  have f0 := frozen_of_heap HHX.2.1 0
  have g0 := frozen_of_heap HHX.2.2.1 0
  have z0 := cell_of_heap HHX.2.1 0
  have y0 := cell_of_heap HHX.2.2.1 0
  have c1 := cell_of_heap HHX.1 1
  have d1 := cell_of_heap HHX.2.2.2 1
  have f1 := frozen_of_heap HHX.2.1 1
  have g1 := frozen_of_heap HHX.2.2.1 1
  have z1 := cell_of_heap HHX.2.1 1
  have y1 := cell_of_heap HHX.2.2.1 1
  have c2 := cell_of_heap HHX.1 2
  have d2 := cell_of_heap HHX.2.2.2 2
  have f2 := frozen_of_heap HHX.2.1 2
  have g2 := frozen_of_heap HHX.2.2.1 2
  have z2 := cell_of_heap HHX.2.1 2
  have y2 := cell_of_heap HHX.2.2.1 2
  have c3 := cell_of_heap HHX.1 3
  have d3 := cell_of_heap HHX.2.2.2 3
  have f3 := frozen_of_heap HHX.2.1 3
  have g3 := frozen_of_heap HHX.2.2.1 3
  have z3 := cell_of_heap HHX.2.1 3
  have y3 := cell_of_heap HHX.2.2.1 3
  have hf := set_four HHX.2.1 (.slice a n c) (.int .i64 k0) (.bool o0) (.int .i64 s0)
  obtain ⟨wa, hwa⟩ : ∃ wa, ((((w1.setCell ⟨P + 1 + 1, 0, none⟩ (.slice a n c)).setCell ⟨P + 1 + 1, 1, none⟩ (.int .i64 k0)).setCell ⟨P + 1 + 1, 2, none⟩ (.bool o0)).setCell ⟨P + 1 + 1, 3, none⟩ (.int .i64 s0)) = wa := ⟨_, rfl⟩
  rw [hwa] at hf
  have hx3a := (hf.2.block _ (Array.getElem?_eq_some_iff.1 HHX.2.2.1).1 (by omega)).trans HHX.2.2.1
  have hg := set_four hx3a (.int .i64 0) (.int .i64 0) (.slice none 0 0) (.string ⟨#[]⟩)
  obtain ⟨wb, hwb⟩ : ∃ wb, ((((wa.setCell ⟨P + 1 + 1 + 1, 0, none⟩ (.int .i64 0)).setCell ⟨P + 1 + 1 + 1, 1, none⟩ (.int .i64 0)).setCell ⟨P + 1 + 1 + 1, 2, none⟩ (.slice none 0 0)).setCell ⟨P + 1 + 1 + 1, 3, none⟩ (.string ⟨#[]⟩)) = wb := ⟨_, rfl⟩
  rw [hwb] at hg
  have r0 := cell_of_heap (w := wb.drew) ((hg.2.block _ (Array.getElem?_eq_some_iff.1 hf.1).1 (by omega)).trans hf.1) 0
  have t0 := cell_of_heap (w := wb.drew) hg.1 0
  have r1 := cell_of_heap (w := wb.drew) ((hg.2.block _ (Array.getElem?_eq_some_iff.1 hf.1).1 (by omega)).trans hf.1) 1
  have t1 := cell_of_heap (w := wb.drew) hg.1 1
  have r2 := cell_of_heap (w := wb.drew) ((hg.2.block _ (Array.getElem?_eq_some_iff.1 hf.1).1 (by omega)).trans hf.1) 2
  have t2 := cell_of_heap (w := wb.drew) hg.1 2
  have r3 := cell_of_heap (w := wb.drew) ((hg.2.block _ (Array.getElem?_eq_some_iff.1 hf.1).1 (by omega)).trans hf.1) 3
  have t3 := cell_of_heap (w := wb.drew) hg.1 3
  have HE := Lib.hid (And.intro hwa (And.intro hwb (And.intro ((ext_new (ext_new EX.out (by have := HP.out; omega) hf.2) (by have := HP.out; omega) hg.2).trans (Ext.drew wb)) (And.intro (show Txts wb.drew _ _ from (((HTT.out).butT HHX.2.1 (by decide) hf.2).butT hx3a (by decide) hg.2).ext (Ext.drew wb)) (show RowI wb.drew _ _ from (((RowI.nil w1).but HHX.2.1 (by decide) hf.2).but hx3a (by decide) hg.2).ext (Ext.drew wb))))))
  clear hf hwa hx3a hg hwb HHX
  go_wp2_with fail
  go_region
  all_goals
    go_wp2_with fail
    rw [HE.out.1, HE.out.2.1]
    refine bodyPost_ret (v := .tuple #[.agg #[.slice a n c, .int .i64 k0, .bool o0, .int .i64 s0], .agg #[.int .i64 0, .int .i64 0, .slice none 0 0, .string ⟨#[]⟩], .int .i64 0]) ?_ rfl ⟨.agg #[.slice a n c, .int .i64 k0, .bool o0, .int .i64 s0], .slice none 0 0, ?_, ?_, ?_, HE.out.2.2.1⟩
    · simp [results, Tryz.results14, go_sem, r0, r1, r2, r3, t0, t1, t2, t3]
    · simp [Seg.doR, Seg.doE, Seg.zeroR, recV, k0', k1, k2, k3, k4, k5]
    · have hn : Seg.doS G ⟨kd, kn, R, ki⟩ = G := by simp [Seg.doS, k0', k1, k2, k3, k4, k5]
      rw [hn]
      refine ⟨a, c, ?_, ?_⟩
      · simp only [segV, HK.out.1, HK.out.2.1, HK.out.2.2.1, HK.out.2.2.2]
      · rw [HK.out.1]
        exact HE.out.2.2.2.1
    · have hn : (Seg.doR G ⟨kd, kn, R, ki⟩).tags = [] := by simp [Seg.doR, Seg.zeroR, k0', k1, k2, k3, k4, k5]
      rw [hn]
      exact HE.out.2.2.2.2
end Go.Proofs.YtfgjhagfpafmoaaGreat
