/-
  Merged: Layer 9: a call of a script on a segment and its store ('does' of the statements).
-/
import Derived.Test.YtfgjhagfpafmoaaGreatSgG
import Derived.Test.YtfgjhagfpafmoaaGreatSgK
import Derived.Test.YtfgjhagfpafmoaaGreatSgO

namespace Go.Proofs.YtfgjhagfpafmoaaGreat
set_option linter.unusedSimpArgs false
set_option linter.unusedVariables false
set_option maxRecDepth 100000
open Go.ChangeShapes Go.WideShapes Go.ChangeAt Go.RowKit
/- Layer 9: a call of a script on a segment and its store ('does' of the statements). -/
/-- A block that lies behind all that a segment has may be written. -/
theorem IsSegB.far {w w' : World} {B U g p q : Nat} {va vp lv : Value} {ps : List (Value × Rec.R)} {G : Seg.Sg} {cs : Array Value} {t : TypeId} {fr : Nat × Nat} (h : IsSegB w B U g p va vp lv ps G) (hq : w.heap[q]? = some (.cells cs t fr)) (ht : t ≠ 3) (hU : U ≤ q) (hb : But q w w') : IsSegB w' B U g p va vp lv ps G := by
  have same : ∀ k, k < U → k < w.heap.size → w'.heap[k]? = w.heap[k]? := fun k hk hs => hb.block k hs (by omega)
  have row : ∀ {n size : Nat} {e : TypeId} {v : Value} {xs : List Value}, (∀ k, v.ownBlock = some k → k < U) → w.ownsRow B e size v n xs → w'.ownsRow B e size v n xs := fun hu hr => rowOwn hr fun k hk => same k (hu k hk) (hr.lt k hk).2
  exact ⟨h.g1, h.g2, h.p1, h.p2, h.ua, h.up, h.ul, ⟨(same p h.p2 h.sto.lt).trans h.sto.heap, row h.ua h.sto.all, row h.up h.sto.places, h.sto.ok⟩, ⟨(same g h.g2 h.seg.lt).trans h.seg.heap, row h.ul h.seg.row, h.seg.recs, fun x hx => (h.seg.tags x hx).butT hq ht hb⟩⟩
theorem Twixt.new {B U q : Nat} {w a b : World} (h : Twixt B U w a) (hq : w.heap.size ≤ q) (hb : But q a b) : Twixt B U w b :=
  ⟨hb.os.trans h.os, hb.tape.trans h.tape, hb.output.trans h.output, Nat.le_trans h.size hb.size, fun k hk hu => (hb.block k (Nat.lt_of_lt_of_le hk h.size) (by omega)).trans (h.block k hk hu)⟩
theorem K9.new {q : Nat} {w a b : World} (h : K9 w a) (hq : w.heap.size ≤ q) (hb : But q a b) : K9 w b :=
  ⟨Nat.le_trans h.1 hb.size, fun k cs t fr hk h1 h2 h3 h4 h5 => (hb.block k (Nat.lt_of_lt_of_le (Array.getElem?_eq_some_iff.1 hk).1 h.1) (by have := (Array.getElem?_eq_some_iff.1 hk).1; omega)).trans (h.2 k cs t fr hk h1 h2 h3 h4 h5)⟩
theorem setCell_id {w : World} {q i : Nat} {cs : Array Value} {T : TypeId} {fr : Nat × Nat} {v : Value} (h : w.heap[q]? = some (.cells cs T fr)) (hi : cs[i]? = some v) : w.setCell ⟨q, i, none⟩ v = w := by
  have hc : cs.setIfInBounds i v = cs := by
    apply Array.ext_getElem?
    intro j
    rw [Array.getElem?_setIfInBounds]
    split
    · next e =>
      subst e
      have hlt := (Array.getElem?_eq_some_iff.1 hi).1
      rw [if_pos hlt, hi]
    · rfl
  have h1 := heap_setCell h i v
  rw [hc] at h1
  have hh : (w.setCell ⟨q, i, none⟩ v).heap = w.heap := by
    apply Array.ext_getElem?
    intro k
    by_cases hk : k = q
    · subst hk
      rw [h1, h]
    · exact heap_setCell_other w ⟨q, i, none⟩ k v hk
  cases w
  simp only [World.setCell] at hh ⊢
  congr
theorem fill_rec {w : World} {q : Nat} {x0 x1 x2 x3 : Value} (h : w.heap[q]? = some (.cells #[x0, x1, x2, x3] 44 (0, 0))) (y0 y1 y2 y3 : Value) :
    ((((w.setCell ⟨q, 0, none⟩ y0).setCell ⟨q, 1, none⟩ y1).setCell ⟨q, 2, none⟩ y2).setCell ⟨q, 3, none⟩ y3).heap[q]? = some (.cells #[y0, y1, y2, y3] 44 (0, 0)) ∧ But q w ((((w.setCell ⟨q, 0, none⟩ y0).setCell ⟨q, 1, none⟩ y1).setCell ⟨q, 2, none⟩ y2).setCell ⟨q, 3, none⟩ y3) :=
  ⟨heap_setCell (heap_setCell (heap_setCell (heap_setCell h 0 y0) 1 y1) 2 y2) 3 y3, ((((But.refl q w).setCell 0 none y0).setCell 1 none y1).setCell 2 none y2).setCell 3 none y3⟩
theorem fill_id {w : World} {q : Nat} {x0 x1 x2 x3 : Value} (h : w.heap[q]? = some (.cells #[x0, x1, x2, x3] 44 (0, 0))) : (((w.setCell ⟨q, 0, none⟩ x0).setCell ⟨q, 1, none⟩ x1).setCell ⟨q, 2, none⟩ x2).setCell ⟨q, 3, none⟩ x3 = w := by
  rw [setCell_id (v := x0) (i := 0) h rfl, setCell_id (v := x1) (i := 1) h rfl, setCell_id (v := x2) (i := 2) h rfl, setCell_id (v := x3) (i := 3) h rfl]
theorem doChain9 (w : World) (x0 x1 y0 y1 y2 y3 y4 y5 y6 : Value) : ∃ w1, ((((w.alloc (.cells #[x0, x1] 29)).alloc (.cells #[y0, y1, y2, y3, y4, y5, y6] 46)).alloc (.cells #[.int .i64 0, .int .i64 0, .slice none 0 0, .string ⟨#[]⟩] 44)).alloc (.cells #[.int .i64 0, .int .i64 0, .slice none 0 0, .string ⟨#[]⟩] 44)) = w1 ∧ Ext w w1 ∧
    w1.heap[w.heap.size]? = some (.cells #[x0, x1] 29 (0, 0)) ∧ w1.heap[w.heap.size + 1]? = some (.cells #[y0, y1, y2, y3, y4, y5, y6] 46 (0, 0)) ∧ w1.heap[w.heap.size + 2]? = some (.cells #[.int .i64 0, .int .i64 0, .slice none 0 0, .string ⟨#[]⟩] 44 (0, 0)) ∧ w1.heap[w.heap.size + 3]? = some (.cells #[.int .i64 0, .int .i64 0, .slice none 0 0, .string ⟨#[]⟩] 44 (0, 0)) := by
  refine ⟨_, rfl, (((Ext.alloc _ _).trans (Ext.alloc _ _)).trans (Ext.alloc _ _)).trans (Ext.alloc _ _), ?_, ?_, ?_, ?_⟩
  · exact (Below.heap_alloc _ _ _ (by simp only [World.size_alloc]; omega)).trans ((Below.heap_alloc _ _ _ (by simp only [World.size_alloc]; omega)).trans ((Below.heap_alloc _ _ _ (by simp)).trans (heap_alloc_new _ _)))
  · refine (Below.heap_alloc _ _ _ (by simp only [World.size_alloc]; omega)).trans ((Below.heap_alloc _ _ _ (by simp)).trans ?_)
    have := heap_alloc_new (w.alloc (.cells #[x0, x1] 29)) (.cells #[y0, y1, y2, y3, y4, y5, y6] 46)
    simpa using this
  · refine (Below.heap_alloc _ _ _ (by simp)).trans ?_
    have := heap_alloc_new ((w.alloc (.cells #[x0, x1] 29)).alloc (.cells #[y0, y1, y2, y3, y4, y5, y6] 46)) (.cells #[.int .i64 0, .int .i64 0, .slice none 0 0, .string ⟨#[]⟩] 44)
    simpa using this
  · have := heap_alloc_new (((w.alloc (.cells #[x0, x1] 29)).alloc (.cells #[y0, y1, y2, y3, y4, y5, y6] 46)).alloc (.cells #[.int .i64 0, .int .i64 0, .slice none 0 0, .string ⟨#[]⟩] 44)) (.cells #[.int .i64 0, .int .i64 0, .slice none 0 0, .string ⟨#[]⟩] 44)
    simpa using this

theorem Ext.newP {q : Nat} {w a b : World} (h : Ext w a) (hq : w.heap.size ≤ q) (hb : But q a b) : Ext w b :=
  ⟨hb.os.trans h.os, hb.tape.trans h.tape, hb.output.trans h.output, Nat.le_trans h.size hb.size, fun k hk => (hb.block k (Nat.lt_of_lt_of_le hk h.size) (by omega)).trans (h.block k hk)⟩
def GivesDoesM (B U g p : Nat) (w : World) (G : Seg.Sg) (o : Seg.Op) (e : Ending) (w' : World) : Prop :=
  ∃ t, e = .returned (.tuple #[recV t (Seg.doR G o), .int .i64 (Seg.doE G o)]) ∧ RowI w' t (Seg.doR G o).tags ∧ IsSeg w' B w'.heap.size g p (Seg.doS G o) ∧ Twixt B U w w' ∧ K9 w w' ∧ (o.kind = 1 → Ext w w')
set_option maxHeartbeats 8000000 in
theorem does9_more {w : World} {B U g p : Nat} {va vp lv : Value} {ps : List (Value × Rec.R)} {G : Seg.Sg} (h : IsSegB w B U g p va vp lv ps G) (hU : U ≤ w.heap.size) (hok : G.Ok) (o : Seg.Op) (t : Value) (ht1 : t.oneCell' = true) (ho : o.Small) (ht : ∀ w', Twixt B U w w' → Ints w' t o.r.tags) :
    Calls Tryz.prog 15 #[.agg #[.pointer (some ⟨p, 0, none⟩), .pointer (some ⟨g, 0, none⟩)], opV9 o t] w (GivesDoesM B U g p w G o) := by
  have H := Lib.hid h
  have HT := Lib.hid ht
  have HU := Lib.hid hU
  have HOK := Lib.hid hok
  have hfit := ho.1
  obtain ⟨kd, kn, R, ki⟩ := o
  obtain ⟨q0, hq0⟩ : ∃ q : Int, R.client = q := ⟨_, rfl⟩
  obtain ⟨q1, hq1⟩ : ∃ q : Int, R.number = q := ⟨_, rfl⟩
  obtain ⟨q3, hq3⟩ : ∃ q : ByteArray, (⟨R.data.toArray⟩ : ByteArray) = q := ⟨_, rfl⟩
  have hrec : ∀ w', Twixt B U w w' → IsRec w' (.agg #[.int .i64 q0, .int .i64 q1, t, .string q3]) R := fun w' hw' => by
    rw [← hq0, ← hq1, ← hq3]
    exact ⟨_, rfl, HT.out w' hw'⟩
  have HREC := Lib.hid hrec
  simp only [opV9, Seg.Op.Fits] at hfit ⊢
  rw [hq0, hq1, hq3]
  obtain ⟨at', ct, rfl, _⟩ := (ht w (Twixt.ext (Ext.refl w))).open
  obtain ⟨w1, hw1, hE1, s0, s1, s2, s3⟩ := doChain9 w (.pointer (some ⟨p, 0, none⟩)) (.pointer (some ⟨g, 0, none⟩)) (.int .i64 kd) (.int .i64 kn) (.int .i64 q0) (.int .i64 q1) (.slice at' R.tags.length ct) (.string q3) (.bool ki)
  obtain ⟨nt, hnt⟩ : ∃ nt, R.tags.length = nt := ⟨_, rfl⟩
  rw [hnt] at hw1 HREC s1 ⊢
  obtain ⟨S, hS⟩ : ∃ S, w.heap.size = S := ⟨_, rfl⟩
  obtain ⟨Z2, hZ2⟩ : ∃ z, S + 1 + 1 = z := ⟨_, rfl⟩
  obtain ⟨Z3, hZ3⟩ : ∃ z, S + 1 + 1 + 1 = z := ⟨_, rfl⟩
  rw [hS] at s0 s1 s2 s3
  replace s2 : w1.heap[Z2]? = some (.cells #[.int .i64 0, .int .i64 0, .slice none 0 0, .string ⟨#[]⟩] 44 (0, 0)) := by rw [← hZ2]; exact s2
  replace s3 : w1.heap[Z3]? = some (.cells #[.int .i64 0, .int .i64 0, .slice none 0 0, .string ⟨#[]⟩] 44 (0, 0)) := by rw [← hZ3]; exact s3
  have hU2 : U ≤ Z2 := by omega
  have hU3 : U ≤ Z3 := by omega
  have hne : Z2 ≠ Z3 := by omega
  have HW := Lib.hid (And.intro hw1 (And.intro hS (And.intro hZ3 hZ2)))
  have HZ := Lib.hid (And.intro s2 (And.intro s3 (And.intro hU2 (And.intro hU3 hne))))
  have a0 : w1.cell? ⟨S, 0, none⟩ = some (.pointer (some ⟨p, 0, none⟩)) := cell_of_heap s0 0
  have a1 : w1.cell? ⟨S, 1, none⟩ = some (.pointer (some ⟨g, 0, none⟩)) := cell_of_heap s0 1
  have b0 : w1.cell? ⟨S + 1, 0, none⟩ = some (.int .i64 kd) := cell_of_heap s1 0
  have b1 : w1.cell? ⟨S + 1, 1, none⟩ = some (.int .i64 kn) := cell_of_heap s1 1
  have b2 : w1.cell? ⟨S + 1, 2, none⟩ = some (.int .i64 q0) := cell_of_heap s1 2
  have b3 : w1.cell? ⟨S + 1, 3, none⟩ = some (.int .i64 q1) := cell_of_heap s1 3
  have b4 : w1.cell? ⟨S + 1, 4, none⟩ = some (.slice at' nt ct) := cell_of_heap s1 4
  have b5 : w1.cell? ⟨S + 1, 5, none⟩ = some (.string q3) := cell_of_heap s1 5
  have b6 : w1.cell? ⟨S + 1, 6, none⟩ = some (.bool ki) := cell_of_heap s1 6
  have c0 : w1.cell? ⟨Z3, 0, none⟩ = some (.int .i64 0) := cell_of_heap s3 0
  have c1 : w1.cell? ⟨Z3, 1, none⟩ = some (.int .i64 0) := cell_of_heap s3 1
  have c2 : w1.cell? ⟨Z3, 2, none⟩ = some (.slice none 0 0) := cell_of_heap s3 2
  have c3 : w1.cell? ⟨Z3, 3, none⟩ = some (.string ⟨#[]⟩) := cell_of_heap s3 3
  have HS1 := Lib.hid (And.intro (h.ext hE1) (And.intro (Nat.le_trans hU hE1.size) (Twixt.ext (B := B) (U := U) hE1)))
  have HK1 := Lib.hid (K9.ext hE1)
  have HK1E := Lib.hid hE1
  clear h ht hok hU hrec hq0 hq1 hq3 ho hnt hw1 hS hE1 s0 s1 s2 s3 ht1 hZ2 hZ3 hU2 hU3 hne
  go_enter Tryz.func15, Tryz.ntmps15
  go_upto_region 3 with fail
  rw [HW.out.2.1, HW.out.1, HW.out.2.2.1, HW.out.2.2.2]
  by_cases k0 : kd = 0
  · subst k0
    go_wp2_with fail
    refine (append9_any HS1.out.1 HS1.out.2.1 kn hfit _ R (fun w' ht => HREC.out w' (HS1.out.2.2.trans ht))).mono ?_
    rintro e w2 ⟨rfl, hs2, ht2, hk2⟩
    have z2 := (ht2.block Z2 (Array.getElem?_eq_some_iff.1 HZ.out.1).1 (.inr HZ.out.2.2.1)).trans HZ.out.1
    have z3 := (ht2.block Z3 (Array.getElem?_eq_some_iff.1 HZ.out.2.1).1 (.inr HZ.out.2.2.2.1)).trans HZ.out.2.1
    have c0 : w2.cell? ⟨Z3, 0, none⟩ = some (.int .i64 0) := cell_of_heap z3 0
    have c1 : w2.cell? ⟨Z3, 1, none⟩ = some (.int .i64 0) := cell_of_heap z3 1
    have c2 : w2.cell? ⟨Z3, 2, none⟩ = some (.slice none 0 0) := cell_of_heap z3 2
    have c3 : w2.cell? ⟨Z3, 3, none⟩ = some (.string ⟨#[]⟩) := cell_of_heap z3 3
    have d0 : w2.cell? ⟨Z2, 0, none⟩ = some (.int .i64 0) := cell_of_heap z2 0
    have d1 : w2.cell? ⟨Z2, 1, none⟩ = some (.int .i64 0) := cell_of_heap z2 1
    have d2 : w2.cell? ⟨Z2, 2, none⟩ = some (.slice none 0 0) := cell_of_heap z2 2
    have d3 : w2.cell? ⟨Z2, 3, none⟩ = some (.string ⟨#[]⟩) := cell_of_heap z2 3
    have fr20 : w2.frozen? ⟨Z2, 0, none⟩ = false := frozen_of_row w2 Z2 0 _ _ z2
    have fr21 : w2.frozen? ⟨Z2, 1, none⟩ = false := frozen_of_row w2 Z2 1 _ _ z2
    have fr22 : w2.frozen? ⟨Z2, 2, none⟩ = false := frozen_of_row w2 Z2 2 _ _ z2
    have fr23 : w2.frozen? ⟨Z2, 3, none⟩ = false := frozen_of_row w2 Z2 3 _ _ z2
    have Z := Lib.hid z2
    have T := Lib.hid (And.intro hs2 (And.intro (HS1.out.2.2.trans ht2) (HK1.out.trans hk2)))
    clear z2 z3 hs2 ht2 hk2
    go_wp2_with fail
    rw [fill_id Z.out]
    refine bodyPost_ret (v := .tuple #[.agg #[.int .i64 0, .int .i64 0, .slice none 0 0, .string ⟨#[]⟩], .int .i64 (G.appErr kn R)]) ?_ rfl ?_
    · simp [results, Tryz.results15, go_sem, d0, d1, d2, d3]
    refine ⟨.slice none 0 0, ?_, ?_, ?_⟩
    · simp [Seg.doR, Seg.doE, Seg.zeroR, recV]
    · have hn : (Seg.doR G ⟨0, kn, R, ki⟩).tags = [] := by simp [Seg.doR, Seg.zeroR]
      rw [hn]
      exact RowI.nil _
    · have hn : Seg.doS G ⟨0, kn, R, ki⟩ = G.app kn R := by simp [Seg.doS]
      rw [hn]
      exact ⟨T.out.1, T.out.2.1, T.out.2.2, fun h => absurd h (show ¬ (0 : Int) = 1 by decide)⟩
  by_cases k1 : kd = 1
  · subst k1
    go_wp2_with fail
    refine (get9_any HS1.out.1.full (Nat.le_refl _) kn hfit).mono ?_
    rintro e w2 ⟨t, rfl, hrow, hE2⟩
    obtain ⟨RG, hRG⟩ : ∃ R, G.getRec kn = R := ⟨_, rfl⟩
    rw [hRG] at hrow ⊢
    obtain ⟨x1, c1', rfl, _⟩ := hrow.ints.open
    obtain ⟨u0, hu0⟩ : ∃ q : Int, RG.client = q := ⟨_, rfl⟩
    obtain ⟨u1, hu1⟩ : ∃ q : Int, RG.number = q := ⟨_, rfl⟩
    obtain ⟨u3, hu3⟩ : ∃ q : ByteArray, (⟨RG.data.toArray⟩ : ByteArray) = q := ⟨_, rfl⟩
    obtain ⟨nu, hnu⟩ : ∃ q, RG.tags.length = q := ⟨_, rfl⟩
    unfold recV
    rw [hu0, hu1, hu3, hnu]
    rw [hnu] at hrow
    have z2 := heap_ext HZ.out.1 hE2
    have z3 := heap_ext HZ.out.2.1 hE2
    obtain ⟨w3, hw3⟩ : ∃ w3, (((w2.setCell ⟨Z3, 0, none⟩ (.int .i64 u0)).setCell ⟨Z3, 1, none⟩ (.int .i64 u1)).setCell ⟨Z3, 2, none⟩ (.slice x1 nu c1')).setCell ⟨Z3, 3, none⟩ (.string u3) = w3 := ⟨_, rfl⟩
    have f3 := fill_rec z3 (.int .i64 u0) (.int .i64 u1) (.slice x1 nu c1') (.string u3)
    rw [hw3] at f3
    have z23 : w3.heap[Z2]? = _ := (f3.2.block Z2 (Array.getElem?_eq_some_iff.1 z2).1 HZ.out.2.2.2.2).trans z2
    obtain ⟨w4, hw4⟩ : ∃ w4, (((w3.setCell ⟨Z2, 0, none⟩ (.int .i64 u0)).setCell ⟨Z2, 1, none⟩ (.int .i64 u1)).setCell ⟨Z2, 2, none⟩ (.slice x1 nu c1')).setCell ⟨Z2, 3, none⟩ (.string u3) = w4 := ⟨_, rfl⟩
    have f4 := fill_rec z23 (.int .i64 u0) (.int .i64 u1) (.slice x1 nu c1') (.string u3)
    rw [hw4] at f4
    have hsB : IsSegB w4 B U g p va vp lv ps G := ((HS1.out.1.ext hE2).far z3 (by decide) HZ.out.2.2.2.1 f3.2).far z23 (by decide) HZ.out.2.2.1 f4.2
    have hrow4 : RowI w4 (.slice x1 nu c1') RG.tags := (hrow.but z3 (by decide) f3.2).but z23 (by decide) f4.2
    have hS2 : w.heap.size ≤ Z2 := by have := HW.out.2; omega
    have hS3 : w.heap.size ≤ Z3 := by have := HW.out.2; omega
    have ht4 : Twixt B U w w4 := ((HS1.out.2.2.trans (Twixt.ext hE2)).new hS3 f3.2).new hS2 f4.2
    have hk4 : K9 w w4 := ((HK1.out.trans (K9.ext hE2)).new hS3 f3.2).new hS2 f4.2
    have T := Lib.hid (And.intro (⟨_, _, _, _, hsB.full⟩ : IsSeg w4 B w4.heap.size g p G) (And.intro ht4 (And.intro hk4 (((HK1E.out.trans hE2).newP hS3 f3.2).newP hS2 f4.2))))
    have e0 : w4.cell? ⟨Z2, 0, none⟩ = some (.int .i64 u0) := cell_of_heap f4.1 0
    have e1 : w4.cell? ⟨Z2, 1, none⟩ = some (.int .i64 u1) := cell_of_heap f4.1 1
    have e2 : w4.cell? ⟨Z2, 2, none⟩ = some (.slice x1 nu c1') := cell_of_heap f4.1 2
    have e3 : w4.cell? ⟨Z2, 3, none⟩ = some (.string u3) := cell_of_heap f4.1 3
    have HH := Lib.hid (And.intro hw3 (And.intro hw4 (And.intro hrow4 (And.intro hu0 (And.intro hu1 (And.intro hu3 (And.intro hnu hRG)))))))
    have c0 : w2.cell? ⟨Z3, 0, none⟩ = some (.int .i64 0) := cell_of_heap z3 0
    have c1 : w2.cell? ⟨Z3, 1, none⟩ = some (.int .i64 0) := cell_of_heap z3 1
    have c2 : w2.cell? ⟨Z3, 2, none⟩ = some (.slice none 0 0) := cell_of_heap z3 2
    have c3 : w2.cell? ⟨Z3, 3, none⟩ = some (.string ⟨#[]⟩) := cell_of_heap z3 3
    have fr30 : w2.frozen? ⟨Z3, 0, none⟩ = false := frozen_of_row w2 Z3 0 _ _ z3
    have fr31 : w2.frozen? ⟨Z3, 1, none⟩ = false := frozen_of_row w2 Z3 1 _ _ z3
    have fr32 : w2.frozen? ⟨Z3, 2, none⟩ = false := frozen_of_row w2 Z3 2 _ _ z3
    have fr33 : w2.frozen? ⟨Z3, 3, none⟩ = false := frozen_of_row w2 Z3 3 _ _ z3
    have F3 := Lib.hid (And.intro f3.1 z23)
    clear hS2 hS3 ht4 hk4 hsB hrow4 f3 f4 z2 z3 z23 hw3 hw4 hrow hu0 hu1 hu3 hnu hRG hE2
    go_upto_region 16 with fail
    rw [HH.out.1]
    have r0 : w3.cell? ⟨Z3, 0, none⟩ = some (.int .i64 u0) := cell_of_heap F3.out.1 0
    have r1 : w3.cell? ⟨Z3, 1, none⟩ = some (.int .i64 u1) := cell_of_heap F3.out.1 1
    have r2 : w3.cell? ⟨Z3, 2, none⟩ = some (.slice x1 nu c1') := cell_of_heap F3.out.1 2
    have r3 : w3.cell? ⟨Z3, 3, none⟩ = some (.string u3) := cell_of_heap F3.out.1 3
    have d0 : w3.cell? ⟨Z2, 0, none⟩ = some (.int .i64 0) := cell_of_heap F3.out.2 0
    have d1 : w3.cell? ⟨Z2, 1, none⟩ = some (.int .i64 0) := cell_of_heap F3.out.2 1
    have d2 : w3.cell? ⟨Z2, 2, none⟩ = some (.slice none 0 0) := cell_of_heap F3.out.2 2
    have d3 : w3.cell? ⟨Z2, 3, none⟩ = some (.string ⟨#[]⟩) := cell_of_heap F3.out.2 3
    have fr20 : w3.frozen? ⟨Z2, 0, none⟩ = false := frozen_of_row w3 Z2 0 _ _ F3.out.2
    have fr21 : w3.frozen? ⟨Z2, 1, none⟩ = false := frozen_of_row w3 Z2 1 _ _ F3.out.2
    have fr22 : w3.frozen? ⟨Z2, 2, none⟩ = false := frozen_of_row w3 Z2 2 _ _ F3.out.2
    have fr23 : w3.frozen? ⟨Z2, 3, none⟩ = false := frozen_of_row w3 Z2 3 _ _ F3.out.2
    clear c0 c1 c2 c3 fr30 fr31 fr32 fr33
    go_wp2_with fail
    rw [HH.out.2.1]
    refine bodyPost_ret (v := .tuple #[.agg #[.int .i64 u0, .int .i64 u1, .slice x1 nu c1', .string u3], .int .i64 (G.getErr kn)]) ?_ rfl ?_
    · simp [results, Tryz.results15, go_sem, e0, e1, e2, e3]
    refine ⟨.slice x1 nu c1', ?_, ?_, ?_⟩
    · simp only [Seg.doR, Seg.doE, if_true, recV, HH.out.2.2.2.1, HH.out.2.2.2.2.1, HH.out.2.2.2.2.2.1, HH.out.2.2.2.2.2.2.2, if_neg (show ¬ (1 : Int) = 0 by decide)]
    · simp only [Seg.doR, if_true, HH.out.2.2.2.2.2.2.2]
      exact HH.out.2.2.1
    · simp only [Seg.doS, if_true, if_neg (show ¬ (1 : Int) = 0 by decide)]
      exact ⟨T.out.1, T.out.2.1, T.out.2.2.1, fun _ => T.out.2.2.2⟩
  by_cases k2 : kd = 2
  · subst k2
    go_wp2_with fail
    refine (trim9_any HS1.out.1 HS1.out.2.1 kn).mono ?_
    rintro e w2 ⟨rfl, hs2, ht2, hk2⟩
    have z2 := (ht2.block Z2 (Array.getElem?_eq_some_iff.1 HZ.out.1).1 (.inr HZ.out.2.2.1)).trans HZ.out.1
    have z3 := (ht2.block Z3 (Array.getElem?_eq_some_iff.1 HZ.out.2.1).1 (.inr HZ.out.2.2.2.1)).trans HZ.out.2.1
    have c0 : w2.cell? ⟨Z3, 0, none⟩ = some (.int .i64 0) := cell_of_heap z3 0
    have c1 : w2.cell? ⟨Z3, 1, none⟩ = some (.int .i64 0) := cell_of_heap z3 1
    have c2 : w2.cell? ⟨Z3, 2, none⟩ = some (.slice none 0 0) := cell_of_heap z3 2
    have c3 : w2.cell? ⟨Z3, 3, none⟩ = some (.string ⟨#[]⟩) := cell_of_heap z3 3
    have d0 : w2.cell? ⟨Z2, 0, none⟩ = some (.int .i64 0) := cell_of_heap z2 0
    have d1 : w2.cell? ⟨Z2, 1, none⟩ = some (.int .i64 0) := cell_of_heap z2 1
    have d2 : w2.cell? ⟨Z2, 2, none⟩ = some (.slice none 0 0) := cell_of_heap z2 2
    have d3 : w2.cell? ⟨Z2, 3, none⟩ = some (.string ⟨#[]⟩) := cell_of_heap z2 3
    have fr20 : w2.frozen? ⟨Z2, 0, none⟩ = false := frozen_of_row w2 Z2 0 _ _ z2
    have fr21 : w2.frozen? ⟨Z2, 1, none⟩ = false := frozen_of_row w2 Z2 1 _ _ z2
    have fr22 : w2.frozen? ⟨Z2, 2, none⟩ = false := frozen_of_row w2 Z2 2 _ _ z2
    have fr23 : w2.frozen? ⟨Z2, 3, none⟩ = false := frozen_of_row w2 Z2 3 _ _ z2
    have Z := Lib.hid z2
    have T := Lib.hid (And.intro hs2 (And.intro (HS1.out.2.2.trans ht2) (HK1.out.trans hk2)))
    clear z2 z3 hs2 ht2 hk2
    go_wp2_with fail
    rw [fill_id Z.out]
    refine bodyPost_ret (v := .tuple #[.agg #[.int .i64 0, .int .i64 0, .slice none 0 0, .string ⟨#[]⟩], .int .i64 (G.trimErr kn)]) ?_ rfl ?_
    · simp [results, Tryz.results15, go_sem, d0, d1, d2, d3]
    refine ⟨.slice none 0 0, ?_, ?_, ?_⟩
    · simp [Seg.doR, Seg.doE, Seg.zeroR, recV]
    · have hn : (Seg.doR G ⟨2, kn, R, ki⟩).tags = [] := by simp [Seg.doR, Seg.zeroR]
      rw [hn]
      exact RowI.nil _
    · have hn : Seg.doS G ⟨2, kn, R, ki⟩ = G.trim kn := by simp [Seg.doS]
      rw [hn]
      exact ⟨T.out.1, T.out.2.1, T.out.2.2, fun h => absurd h (show ¬ (2 : Int) = 1 by decide)⟩
  by_cases k3 : kd = 3
  · subst k3
    go_wp2_with fail
    refine (sync9_any HS1.out.1 HS1.out.2.1 HOK.out).mono ?_
    rintro e w2 ⟨rfl, hs2, ht2, hk2⟩
    have z2 := (ht2.block Z2 (Array.getElem?_eq_some_iff.1 HZ.out.1).1 (.inr HZ.out.2.2.1)).trans HZ.out.1
    have z3 := (ht2.block Z3 (Array.getElem?_eq_some_iff.1 HZ.out.2.1).1 (.inr HZ.out.2.2.2.1)).trans HZ.out.2.1
    have c0 : w2.cell? ⟨Z3, 0, none⟩ = some (.int .i64 0) := cell_of_heap z3 0
    have c1 : w2.cell? ⟨Z3, 1, none⟩ = some (.int .i64 0) := cell_of_heap z3 1
    have c2 : w2.cell? ⟨Z3, 2, none⟩ = some (.slice none 0 0) := cell_of_heap z3 2
    have c3 : w2.cell? ⟨Z3, 3, none⟩ = some (.string ⟨#[]⟩) := cell_of_heap z3 3
    have d0 : w2.cell? ⟨Z2, 0, none⟩ = some (.int .i64 0) := cell_of_heap z2 0
    have d1 : w2.cell? ⟨Z2, 1, none⟩ = some (.int .i64 0) := cell_of_heap z2 1
    have d2 : w2.cell? ⟨Z2, 2, none⟩ = some (.slice none 0 0) := cell_of_heap z2 2
    have d3 : w2.cell? ⟨Z2, 3, none⟩ = some (.string ⟨#[]⟩) := cell_of_heap z2 3
    have fr20 : w2.frozen? ⟨Z2, 0, none⟩ = false := frozen_of_row w2 Z2 0 _ _ z2
    have fr21 : w2.frozen? ⟨Z2, 1, none⟩ = false := frozen_of_row w2 Z2 1 _ _ z2
    have fr22 : w2.frozen? ⟨Z2, 2, none⟩ = false := frozen_of_row w2 Z2 2 _ _ z2
    have fr23 : w2.frozen? ⟨Z2, 3, none⟩ = false := frozen_of_row w2 Z2 3 _ _ z2
    have Z := Lib.hid z2
    have T := Lib.hid (And.intro hs2 (And.intro (HS1.out.2.2.trans ht2) (HK1.out.trans hk2)))
    clear z2 z3 hs2 ht2 hk2
    go_wp2_with fail
    rw [fill_id Z.out]
    refine bodyPost_ret (v := .tuple #[.agg #[.int .i64 0, .int .i64 0, .slice none 0 0, .string ⟨#[]⟩], .int .i64 0]) ?_ rfl ?_
    · simp [results, Tryz.results15, go_sem, d0, d1, d2, d3]
    refine ⟨.slice none 0 0, ?_, ?_, ?_⟩
    · simp [Seg.doR, Seg.doE, Seg.zeroR, recV]
    · have hn : (Seg.doR G ⟨3, kn, R, ki⟩).tags = [] := by simp [Seg.doR, Seg.zeroR]
      rw [hn]
      exact RowI.nil _
    · have hn : Seg.doS G ⟨3, kn, R, ki⟩ = G.sync := by simp [Seg.doS]
      rw [hn]
      exact ⟨T.out.1, T.out.2.1, T.out.2.2, fun h => absurd h (show ¬ (3 : Int) = 1 by decide)⟩
  by_cases k4 : kd = 4
  · subst k4
    go_wp2_with fail
    refine (crash9_any HS1.out.1 HS1.out.2.1 kn hfit).mono ?_
    rintro e w2 ⟨rfl, hs2, ht2, hk2⟩
    have z2 := (ht2.block Z2 (Array.getElem?_eq_some_iff.1 HZ.out.1).1 (.inr HZ.out.2.2.1)).trans HZ.out.1
    have z3 := (ht2.block Z3 (Array.getElem?_eq_some_iff.1 HZ.out.2.1).1 (.inr HZ.out.2.2.2.1)).trans HZ.out.2.1
    have c0 : w2.cell? ⟨Z3, 0, none⟩ = some (.int .i64 0) := cell_of_heap z3 0
    have c1 : w2.cell? ⟨Z3, 1, none⟩ = some (.int .i64 0) := cell_of_heap z3 1
    have c2 : w2.cell? ⟨Z3, 2, none⟩ = some (.slice none 0 0) := cell_of_heap z3 2
    have c3 : w2.cell? ⟨Z3, 3, none⟩ = some (.string ⟨#[]⟩) := cell_of_heap z3 3
    have d0 : w2.cell? ⟨Z2, 0, none⟩ = some (.int .i64 0) := cell_of_heap z2 0
    have d1 : w2.cell? ⟨Z2, 1, none⟩ = some (.int .i64 0) := cell_of_heap z2 1
    have d2 : w2.cell? ⟨Z2, 2, none⟩ = some (.slice none 0 0) := cell_of_heap z2 2
    have d3 : w2.cell? ⟨Z2, 3, none⟩ = some (.string ⟨#[]⟩) := cell_of_heap z2 3
    have fr20 : w2.frozen? ⟨Z2, 0, none⟩ = false := frozen_of_row w2 Z2 0 _ _ z2
    have fr21 : w2.frozen? ⟨Z2, 1, none⟩ = false := frozen_of_row w2 Z2 1 _ _ z2
    have fr22 : w2.frozen? ⟨Z2, 2, none⟩ = false := frozen_of_row w2 Z2 2 _ _ z2
    have fr23 : w2.frozen? ⟨Z2, 3, none⟩ = false := frozen_of_row w2 Z2 3 _ _ z2
    have Z := Lib.hid z2
    have T := Lib.hid (And.intro hs2 (And.intro (HS1.out.2.2.trans ht2) (HK1.out.trans hk2)))
    clear z2 z3 hs2 ht2 hk2
    go_wp2_with fail
    rw [fill_id Z.out]
    refine bodyPost_ret (v := .tuple #[.agg #[.int .i64 0, .int .i64 0, .slice none 0 0, .string ⟨#[]⟩], .int .i64 0]) ?_ rfl ?_
    · simp [results, Tryz.results15, go_sem, d0, d1, d2, d3]
    refine ⟨.slice none 0 0, ?_, ?_, ?_⟩
    · simp [Seg.doR, Seg.doE, Seg.zeroR, recV]
    · have hn : (Seg.doR G ⟨4, kn, R, ki⟩).tags = [] := by simp [Seg.doR, Seg.zeroR]
      rw [hn]
      exact RowI.nil _
    · have hn : Seg.doS G ⟨4, kn, R, ki⟩ = G.crash kn := by simp [Seg.doS]
      rw [hn]
      exact ⟨T.out.1, T.out.2.1, T.out.2.2, fun h => absurd h (show ¬ (4 : Int) = 1 by decide)⟩
  by_cases k5 : kd = 5
  · subst k5
    go_wp2_with fail
    refine (off8_any HS1.out.1.sto ki).mono ?_
    rintro e w2 ⟨rfl, hb2, ho2⟩
    have hs2 : IsSeg w2 B w2.heap.size g p (G.setOff ki) := IsSeg.of HS1.out.1.g1 HS1.out.1.p1 ho2 (HS1.out.1.seg.butT HS1.out.1.sto.heap (by decide) (by decide) (by decide) hb2)
    have ht2 : Twixt B U w1 w2 := Twixt.but hb2 HS1.out.1.p1 HS1.out.1.p2
    have hk2 : K9 w1 w2 := K9.sto hb2 HS1.out.1.sto
    clear hb2 ho2
    have z2 := (ht2.block Z2 (Array.getElem?_eq_some_iff.1 HZ.out.1).1 (.inr HZ.out.2.2.1)).trans HZ.out.1
    have z3 := (ht2.block Z3 (Array.getElem?_eq_some_iff.1 HZ.out.2.1).1 (.inr HZ.out.2.2.2.1)).trans HZ.out.2.1
    have c0 : w2.cell? ⟨Z3, 0, none⟩ = some (.int .i64 0) := cell_of_heap z3 0
    have c1 : w2.cell? ⟨Z3, 1, none⟩ = some (.int .i64 0) := cell_of_heap z3 1
    have c2 : w2.cell? ⟨Z3, 2, none⟩ = some (.slice none 0 0) := cell_of_heap z3 2
    have c3 : w2.cell? ⟨Z3, 3, none⟩ = some (.string ⟨#[]⟩) := cell_of_heap z3 3
    have d0 : w2.cell? ⟨Z2, 0, none⟩ = some (.int .i64 0) := cell_of_heap z2 0
    have d1 : w2.cell? ⟨Z2, 1, none⟩ = some (.int .i64 0) := cell_of_heap z2 1
    have d2 : w2.cell? ⟨Z2, 2, none⟩ = some (.slice none 0 0) := cell_of_heap z2 2
    have d3 : w2.cell? ⟨Z2, 3, none⟩ = some (.string ⟨#[]⟩) := cell_of_heap z2 3
    have fr20 : w2.frozen? ⟨Z2, 0, none⟩ = false := frozen_of_row w2 Z2 0 _ _ z2
    have fr21 : w2.frozen? ⟨Z2, 1, none⟩ = false := frozen_of_row w2 Z2 1 _ _ z2
    have fr22 : w2.frozen? ⟨Z2, 2, none⟩ = false := frozen_of_row w2 Z2 2 _ _ z2
    have fr23 : w2.frozen? ⟨Z2, 3, none⟩ = false := frozen_of_row w2 Z2 3 _ _ z2
    have Z := Lib.hid z2
    have T := Lib.hid (And.intro hs2 (And.intro (HS1.out.2.2.trans ht2) (HK1.out.trans hk2)))
    clear z2 z3 hs2 ht2 hk2
    go_wp2_with fail
    rw [fill_id Z.out]
    refine bodyPost_ret (v := .tuple #[.agg #[.int .i64 0, .int .i64 0, .slice none 0 0, .string ⟨#[]⟩], .int .i64 0]) ?_ rfl ?_
    · simp [results, Tryz.results15, go_sem, d0, d1, d2, d3]
    refine ⟨.slice none 0 0, ?_, ?_, ?_⟩
    · simp [Seg.doR, Seg.doE, Seg.zeroR, recV]
    · have hn : (Seg.doR G ⟨5, kn, R, ki⟩).tags = [] := by simp [Seg.doR, Seg.zeroR]
      rw [hn]
      exact RowI.nil _
    · have hn : Seg.doS G ⟨5, kn, R, ki⟩ = G.setOff ki := by simp [Seg.doS]
      rw [hn]
      exact ⟨T.out.1, T.out.2.1, T.out.2.2, fun h => absurd h (show ¬ (5 : Int) = 1 by decide)⟩
  have c0 : w1.cell? ⟨Z3, 0, none⟩ = some (.int .i64 0) := cell_of_heap HZ.out.2.1 0
  have c1 : w1.cell? ⟨Z3, 1, none⟩ = some (.int .i64 0) := cell_of_heap HZ.out.2.1 1
  have c2 : w1.cell? ⟨Z3, 2, none⟩ = some (.slice none 0 0) := cell_of_heap HZ.out.2.1 2
  have c3 : w1.cell? ⟨Z3, 3, none⟩ = some (.string ⟨#[]⟩) := cell_of_heap HZ.out.2.1 3
  have d0 : w1.cell? ⟨Z2, 0, none⟩ = some (.int .i64 0) := cell_of_heap HZ.out.1 0
  have d1 : w1.cell? ⟨Z2, 1, none⟩ = some (.int .i64 0) := cell_of_heap HZ.out.1 1
  have d2 : w1.cell? ⟨Z2, 2, none⟩ = some (.slice none 0 0) := cell_of_heap HZ.out.1 2
  have d3 : w1.cell? ⟨Z2, 3, none⟩ = some (.string ⟨#[]⟩) := cell_of_heap HZ.out.1 3
  have fr20 : w1.frozen? ⟨Z2, 0, none⟩ = false := frozen_of_row w1 Z2 0 _ _ HZ.out.1
  have fr21 : w1.frozen? ⟨Z2, 1, none⟩ = false := frozen_of_row w1 Z2 1 _ _ HZ.out.1
  have fr22 : w1.frozen? ⟨Z2, 2, none⟩ = false := frozen_of_row w1 Z2 2 _ _ HZ.out.1
  have fr23 : w1.frozen? ⟨Z2, 3, none⟩ = false := frozen_of_row w1 Z2 3 _ _ HZ.out.1
  have Z := Lib.hid HZ.out.1
  have T := Lib.hid (And.intro (⟨_, _, _, _, HS1.out.1.full⟩ : IsSeg w1 B w1.heap.size g p G) (And.intro HS1.out.2.2 HK1.out))
  go_wp2_with fail
  rw [fill_id Z.out]
  refine bodyPost_ret (v := .tuple #[.agg #[.int .i64 0, .int .i64 0, .slice none 0 0, .string ⟨#[]⟩], .int .i64 0]) ?_ rfl ?_
  · simp [results, Tryz.results15, go_sem, d0, d1, d2, d3]
  refine ⟨.slice none 0 0, ?_, ?_, ?_⟩
  · simp [Seg.doR, Seg.doE, Seg.zeroR, recV, k0, k1, k2, k3, k4, k5]
  · have hn : (Seg.doR G ⟨kd, kn, R, ki⟩).tags = [] := by simp [Seg.doR, Seg.zeroR, k0, k1, k2, k3, k4, k5]
    rw [hn]
    exact RowI.nil _
  · have hn : Seg.doS G ⟨kd, kn, R, ki⟩ = G := by simp [Seg.doS, k0, k1, k2, k3, k4, k5]
    rw [hn]
    exact ⟨T.out.1, T.out.2.1, T.out.2.2, fun h => absurd h k1⟩
end Go.Proofs.YtfgjhagfpafmoaaGreat
