/-
  Merged: Layer 9, the document's answers: a segment as a value.
-/
import Derived.Test.YtfgjhagfpafmoaaGreatBsLib
import Derived.Test.YtfgjhagfpafmoaaGreatSgR

namespace Go.Proofs.YtfgjhagfpafmoaaGreat
set_option linter.unusedSimpArgs false
set_option linter.unusedVariables false
set_option maxRecDepth 100000
open Go.ChangeShapes Go.WideShapes Go.ChangeAt Go.RowKit
/- Layer 9, the document's answers: a segment as a value; Of, Open. -/
def segV (a : Option Addr) (n c : Nat) (k : Int) (o : Bool) (s : Int) : Value := .agg #[.slice a n c, .int .i64 k, .bool o, .int .i64 s]
def IsRef9 (w : World) (v : Value) (G : Seg.Sg) : Prop := ∃ a c, v = segV a G.s.l.length c G.s.k G.s.off G.safe ∧ Txts w (.slice a G.s.l.length c) G.s.l
theorem IsRef9.ext {w w' : World} {v : Value} {G : Seg.Sg} (h : IsRef9 w v G) (hE : Ext w w') : IsRef9 w' v G := by
  obtain ⟨a, c, e, ht⟩ := h
  exact ⟨a, c, e, ht.ext hE⟩
theorem small_len {S : Page.St} (h : S.Ok) : S.l.length ≤ 20000 ∧ ∀ x ∈ S.l, x.length ≤ 70000 := by
  refine ⟨?_, fun x hx => ?_⟩
  · have := Page.count_le S.l
    have := h.max
    omega
  · have h1 := h.small x hx
    unfold Page.small at h1
    omega
theorem field_what (w : World) (a : Option Addr) (n c : Nat) (x : Int) (b : Bool) : (Instr.field 102 (.agg #[.slice a n c, .int .i64 x, .bool b]) 0).run Tryz.prog w = .ok (.slice a n c) w := by kernel_rfl
theorem whatEnd {w : World} {p : Nat} {x0 x1 x2 : Value} (h : w.heap[p]? = some (.cells #[x0, x1, x2] 102 (0, 0))) : w.cell? ⟨p, 0, none⟩ = some x0 ∧ w.cell? ⟨p, 1, none⟩ = some x1 ∧ w.cell? ⟨p, 2, none⟩ = some x2 := ⟨cell_of_heap h 0, cell_of_heap h 1, cell_of_heap h 2⟩

set_option maxHeartbeats 4000000 in
theorem ofRef9_any (v : Value) (G : Seg.Sg) (w : World) (h : IsRef9 w v G) (hS : G.s.Ok) :
    Calls Tryz.prog 42 #[v] w (GivesWhat w G.w) := by
  obtain ⟨a, c, rfl, hT⟩ := h
  have HT := Lib.hid hT
  obtain ⟨hs1, hs2⟩ := small_len hS
  obtain ⟨n, hn⟩ : ∃ n, G.s.l.length = n := ⟨_, rfl⟩
  obtain ⟨k0, hk0⟩ : ∃ q : Int, (G.s.k : Int) = q := ⟨_, rfl⟩
  obtain ⟨s0, hs0⟩ : ∃ q : Int, (G.safe : Int) = q := ⟨_, rfl⟩
  unfold segV
  rw [hn] at HT ⊢
  rw [hk0, hs0]
  obtain ⟨w2, hw2⟩ : ∃ w2, (w.alloc (.cells #[.slice a n c, .int .i64 k0, .bool G.s.off, .int .i64 s0] 36)).alloc (.cells #[.slice none 0 0, .int .i64 0, .bool false] 102) = w2 := ⟨_, rfl⟩
  obtain ⟨P, hP⟩ : ∃ P, w.heap.size = P := ⟨_, rfl⟩
  have h2 := heap_two w (.cells #[.slice a n c, .int .i64 k0, .bool G.s.off, .int .i64 s0] 36) (.cells #[.slice none 0 0, .int .i64 0, .bool false] 102)
  have hE2 : Ext w w2 := by rw [← hw2]; exact ext_two _ _ _
  rw [hw2, hP] at h2
  have hrd := readRef9_any (.slice a n c) G.s.l w2 (HT.out.ext hE2) hs1 hs2
  have HRD := Lib.hid hrd
  have HW := Lib.hid (And.intro hw2 (And.intro hP (And.intro hE2 h2.2)))
  have c0 : w2.cell? ⟨P, 0, none⟩ = some (.slice a n c) := cell_of_heap h2.1 0
  clear hT hn hk0 hs0 hw2 hP h2 hE2 hrd hs1 hs2 hS
  go_enter Tryz.func42, Tryz.ntmps42
  go_upto_region 1 with fail
  rw [HW.out.1, HW.out.2.1]
  go_wp2_with fail
  refine HRD.out.mono ?_
  rintro e w3 ⟨u, qs, rfl, hu, hqs, hE3⟩
  obtain ⟨ua, un, uc, rfl⟩ := ownSlice hu.row
  obtain ⟨T, hT⟩ : ∃ q : Int, ((Seg.readF G.s.l).trimmed : Int) = q := ⟨_, rfl⟩
  obtain ⟨Bk, hBk⟩ : ∃ q, (Seg.readF G.s.l).broken = q := ⟨_, rfl⟩
  unfold whatV
  rw [hT, hBk]
  have hx3 : w3.heap[P + 1]? = _ := heap_ext HW.out.2.2.2 hE3
  have hf := fill_what hx3 (.slice ua un uc) (.int .i64 T) (.bool Bk)
  obtain ⟨w4, hw4⟩ : ∃ w4, (((w3.setCell ⟨P + 1, 0, none⟩ (.slice ua un uc)).setCell ⟨P + 1, 1, none⟩ (.int .i64 T)).setCell ⟨P + 1, 2, none⟩ (.bool Bk)) = w4 := ⟨_, rfl⟩
  rw [hw4] at hf
  have f0 : w3.frozen? ⟨P + 1, 0, none⟩ = false := frozen_of_row w3 (P + 1) 0 _ _ hx3
  have f1 : w3.frozen? ⟨P + 1, 1, none⟩ = false := frozen_of_row w3 (P + 1) 1 _ _ hx3
  have f2 : w3.frozen? ⟨P + 1, 2, none⟩ = false := frozen_of_row w3 (P + 1) 2 _ _ hx3
  have d0 : w3.cell? ⟨P + 1, 0, none⟩ = some (.slice none 0 0) := cell_of_heap hx3 0
  have d1 : w3.cell? ⟨P + 1, 1, none⟩ = some (.int .i64 0) := cell_of_heap hx3 1
  have d2 : w3.cell? ⟨P + 1, 2, none⟩ = some (.bool false) := cell_of_heap hx3 2
  obtain ⟨r0, r1, r2⟩ := whatEnd hf.1
  have HE := Lib.hid (And.intro hw4 (And.intro (ext_new (HW.out.2.2.1.trans hE3) (by have := HW.out.2.1; omega) hf.2) (And.intro hT (And.intro hBk (And.intro ((hu.but hx3 (by decide) (by decide) hf.2).lower (by have := HW.out.2.2.1.size; exact this)) hqs)))))
  clear hw4 hT hBk hu hf hx3 hE3 hqs
  go_wp2_with fail
  rw [HE.out.1]
  refine bodyPost_ret (v := whatV (.slice ua un uc) (Seg.readF G.s.l).trimmed (Seg.readF G.s.l).broken) ?_ rfl ⟨.slice ua un uc, qs, rfl, HE.out.2.2.2.2.1, HE.out.2.2.2.2.2, HE.out.2.1⟩
  simp [results, Tryz.results42, go_sem, r0, r1, r2, whatV, HE.out.2.2.1, HE.out.2.2.2.1]

def GivesRef9 (w : World) (G : Seg.Sg) (e : Ending) (w' : World) : Prop := ∃ u, e = .returned u ∧ IsRef9 w' u G ∧ Ext w w'
theorem fill_seg {w : World} {q : Nat} {x0 x1 x2 x3 : Value} (h : w.heap[q]? = some (.cells #[x0, x1, x2, x3] 36 (0, 0))) (y0 y1 y2 y3 : Value) :
    ((((w.setCell ⟨q, 0, none⟩ y0).setCell ⟨q, 1, none⟩ y1).setCell ⟨q, 2, none⟩ y2).setCell ⟨q, 3, none⟩ y3).heap[q]? = some (.cells #[y0, y1, y2, y3] 36 (0, 0)) ∧ But q w ((((w.setCell ⟨q, 0, none⟩ y0).setCell ⟨q, 1, none⟩ y1).setCell ⟨q, 2, none⟩ y2).setCell ⟨q, 3, none⟩ y3) :=
  ⟨heap_setCell (heap_setCell (heap_setCell (heap_setCell h 0 y0) 1 y1) 2 y2) 3 y3, ((((But.refl q w).setCell 0 none y0).setCell 1 none y1).setCell 2 none y2).setCell 3 none y3⟩
theorem segEnd {w : World} {p : Nat} {x0 x1 x2 x3 : Value} (h : w.heap[p]? = some (.cells #[x0, x1, x2, x3] 36 (0, 0))) : w.cell? ⟨p, 0, none⟩ = some x0 ∧ w.cell? ⟨p, 1, none⟩ = some x1 ∧ w.cell? ⟨p, 2, none⟩ = some x2 ∧ w.cell? ⟨p, 3, none⟩ = some x3 := ⟨cell_of_heap h 0, cell_of_heap h 1, cell_of_heap h 2, cell_of_heap h 3⟩
theorem Txts.butT {w w' : World} {v : Value} {l : List (List UInt8)} {q : Nat} {cs : Array Value} {t : TypeId} {fr : Nat × Nat} (h : Txts w v l) (hq : w.heap[q]? = some (.cells cs t fr)) (ht : t ≠ 9) (hb : But q w w') : Txts w' v l := h.keep (KeepS.but hb hq ht)

set_option maxHeartbeats 4000000 in
theorem openRef9_any (v : Value) (S : Page.St) (w : World) (h : IsRef w v S) (hS : S.Ok) :
    Calls Tryz.prog 11 #[v] w (GivesRef9 w (Seg.ofStore S)) := by
  obtain ⟨a, c, rfl, hT⟩ := h
  have HT := Lib.hid hT
  obtain ⟨hs1, hs2⟩ := small_len hS
  obtain ⟨n, hn⟩ : ∃ n, S.l.length = n := ⟨_, rfl⟩
  obtain ⟨k0, hk0⟩ : ∃ q : Int, (S.k : Int) = q := ⟨_, rfl⟩
  unfold refStoV
  rw [hn] at HT ⊢
  rw [hk0]
  obtain ⟨w2, hw2⟩ : ∃ w2, (w.alloc (.cells #[.slice a n c, .int .i64 k0, .bool S.off] 34)).alloc (.cells #[.slice none 0 0, .int .i64 0, .bool false, .int .i64 0] 36) = w2 := ⟨_, rfl⟩
  obtain ⟨P, hP⟩ : ∃ P, w.heap.size = P := ⟨_, rfl⟩
  have h2 := heap_two w (.cells #[.slice a n c, .int .i64 k0, .bool S.off] 34) (.cells #[.slice none 0 0, .int .i64 0, .bool false, .int .i64 0] 36)
  have hE2 : Ext w w2 := by rw [← hw2]; exact ext_two _ _ _
  rw [hw2, hP] at h2
  have hrd : ∀ w', Ext w2 w' → Calls Tryz.prog 40 #[.slice a n c] w' fun e w'' => ∃ x, e = .returned x ∧ Ext w' w'' ∧ ∃ u, x = whatV u (Seg.readF S.l).trimmed (Seg.readF S.l).broken ∧ Recs w'' u (Seg.readF S.l).l := fun w' hE =>
    (readRef9_any (.slice a n c) S.l w' (HT.out.ext (hE2.trans hE)) hs1 hs2).mono fun e w'' ⟨u, qs, he, hu, hq, hE3⟩ => ⟨_, he, hE3, u, rfl, by rw [← hq]; exact hu.recs⟩
  have HRD := Lib.hid hrd
  have HW := Lib.hid (And.intro hw2 (And.intro hP (And.intro hE2 (And.intro h2.1 h2.2))))
  have HK := Lib.hid (And.intro hn hk0)
  clear hT hn hk0 hw2 hP h2 hE2 hrd hs1 hs2 hS
  go_enter Tryz.func11, Tryz.ntmps11
  go_upto_region 1 with fail
  rw [HW.out.1, HW.out.2.1]
  refine wp_region_tail (by kernel_rfl) 7 Ext (fun iop v w => match iop with
      | 0 => v = .agg #[.slice a n c, .int .i64 k0, .bool S.off]
      | 1 => v = .pointer (some ⟨P, 0, none⟩)
      | 2 => v = .slice a n c
      | 3 => ∃ u, v = whatV u (Seg.readF S.l).trimmed (Seg.readF S.l).broken ∧ Recs w u (Seg.readF S.l).l
      | 4 => Recs w v (Seg.readF S.l).l
      | 5 => v = .int .i64 ((Seg.readF S.l).l.length : Nat)
      | _ => v = segV a n c k0 S.off ((Seg.readF S.l).l.length : Nat)
      ) (by kernel_rfl) (by kernel_rfl) (by decide) (fun _ _ _ h k => Ext.trans h k) (fun a => Ext.refl a) (Ext.drew _) ?_ ?_ ?_
  · intro iop v wa wb hF hL
    iterate 3 (rcases iop with _ | iop; exact hF)
    iterate 2 (rcases iop with _ | iop; (first | exact hF | exact Recs.below hF hL | (obtain ⟨u, hu, hr⟩ := hF; exact ⟨u, hu, hr.below hL⟩)))
    rcases iop with _ | iop; exact hF
    exact hF
  · refine Obls.cons ?_ (Obls.cons ?_ (Obls.cons ?_ (Obls.cons ?_ (Obls.cons ?_ (Obls.cons ?_ (Obls.cons ?_ (Obls.nil)))))))
    · intro ev wy hp hl hk hd
      have e1 : ev (.tmp 1) = .pointer (some ⟨P, 0, none⟩) := hk 1 (by decide)
      clear hk hd
      have hx := heap_ext HW.out.2.2.2.1 hl
      exact Yield.load rfl e1 (by simp [go_sem, cell_of_heap hx 0, cell_of_heap hx 1, cell_of_heap hx 2]) ⟨Ext.refl _, rfl⟩
    · intro ev wy hp hl hk hd
      have e1 : ev (.tmp 1) = .pointer (some ⟨P, 0, none⟩) := hk 1 (by decide)
      clear hk hd
      exact Yield.op (v := .pointer (some ⟨P, 0, none⟩)) (w' := wy) (by simp [execOp, go_sem, e1]) ⟨Ext.refl _, rfl⟩
    · intro ev wy hp hl hk hd
      have e4 : ev (.tmp 4) = .pointer (some ⟨P, 0, none⟩) := hk 4 (by decide)
      clear hk hd
      have hx := heap_ext HW.out.2.2.2.1 hl
      exact Yield.load rfl e4 (by simp [go_sem, cell_of_heap hx 0]) ⟨Ext.refl _, rfl⟩
    · intro ev wy hp hl hk hd
      have e5 : ev (.tmp 5) = .slice a n c := hk 5 (by decide)
      clear hk hd
      refine Yield.call rfl hp Tryz.func40 rfl (by kernel_rfl) ?_
      simp only [List.map_toArray, List.map_cons, List.map_nil, e5]
      exact (HRD.out wy hl).mono fun _ _ ⟨u, he, hb, hu⟩ => ⟨u, he, hb, hu⟩
    · intro ev wy hp hl hk hd
      have f6 : (fun (v : Value) (w : World) => ∃ u, v = whatV u (Seg.readF S.l).trimmed (Seg.readF S.l).broken ∧ Recs w u (Seg.readF S.l).l) (ev (.tmp 6)) wy := hk 6 (by decide)
      generalize hx6 : ev (.tmp 6) = x6 at *
      clear hk hd
      obtain ⟨u, hu, hr⟩ := f6
      rw [hu] at hx6
      obtain ⟨ra, rn, rc, rfl⟩ : ∃ x y z, u = .slice x y z := (by obtain ⟨x, y, e, _⟩ := hr; exact ⟨x, _, y, e⟩)
      exact Yield.op (v := .slice ra rn rc) (w' := wy) (by simp [execOp, go_sem, hx6, whatV, field_what]) ⟨Ext.refl _, hr⟩
    · intro ev wy hp hl hk hd
      have f7 : (fun (v : Value) (w : World) => Recs w v (Seg.readF S.l).l) (ev (.tmp 7)) wy := hk 7 (by decide)
      generalize hx7 : ev (.tmp 7) = x7 at *
      clear hk hd
      obtain ⟨ra, rc, hr, _⟩ := f7
      rw [hr] at hx7
      exact Yield.op (v := .int .i64 ((Seg.readF S.l).l.length : Nat)) (w' := wy) (by simp [execOp, go_sem, hx7]) ⟨Ext.refl _, rfl⟩
    · intro ev wy hp hl hk hd
      have e3 : ev (.tmp 3) = .agg #[.slice a n c, .int .i64 k0, .bool S.off] := hk 3 (by decide)
      have e8 : ev (.tmp 8) = .int .i64 ((Seg.readF S.l).l.length : Nat) := hk 8 (by decide)
      clear hk hd
      exact Yield.op (v := segV a n c k0 S.off ((Seg.readF S.l).l.length : Nat)) (w' := wy) (by simp [execOp, go_sem, e3, e8, segV]) ⟨Ext.refl _, rfl⟩
  · intro vals wz hz hv
    have g3 : vals 0 = .agg #[.slice a n c, .int .i64 k0, .bool S.off] := hv 0 (by decide)
    have g4 : vals 1 = .pointer (some ⟨P, 0, none⟩) := hv 1 (by decide)
    have g5 : vals 2 = .slice a n c := hv 2 (by decide)
    have g6 : (fun (v : Value) (w : World) => ∃ u, v = whatV u (Seg.readF S.l).trimmed (Seg.readF S.l).broken ∧ Recs w u (Seg.readF S.l).l) (vals 3) wz := hv 3 (by decide)
    have g7 : (fun (v : Value) (w : World) => Recs w v (Seg.readF S.l).l) (vals 4) wz := hv 4 (by decide)
    have g8 : vals 5 = .int .i64 ((Seg.readF S.l).l.length : Nat) := hv 5 (by decide)
    have g9 : vals 6 = segV a n c k0 S.off ((Seg.readF S.l).l.length : Nat) := hv 6 (by decide)
    clear hv
    simp only [List.take_succ_cons, List.take_zero, List.drop_succ_cons, List.drop_zero]
    simp only [putAll, Act.put, List.setIfInBounds_toArray, List.set_cons_zero, List.set_cons_succ, g3, g4, g5, g8, g9]
    clear g3
    clear g4
    clear g5
    generalize vals 3 = v6 at *
    generalize vals 4 = v7 at *
    clear g8
    clear g9
    obtain ⟨ln, hln⟩ : ∃ q : Int, ((Seg.readF S.l).l.length : Int) = q := ⟨_, rfl⟩
    rw [hln]
    unfold segV
    have hx3 : wz.heap[P + 1]? = _ := heap_ext HW.out.2.2.2.2 hz
    have hf := fill_seg hx3 (.slice a n c) (.int .i64 k0) (.bool S.off) (.int .i64 ln)
    obtain ⟨w4, hw4⟩ : ∃ w4, ((((wz.setCell ⟨P + 1, 0, none⟩ (.slice a n c)).setCell ⟨P + 1, 1, none⟩ (.int .i64 k0)).setCell ⟨P + 1, 2, none⟩ (.bool S.off)).setCell ⟨P + 1, 3, none⟩ (.int .i64 ln)) = w4 := ⟨_, rfl⟩
    rw [hw4] at hf
    have f0 : wz.frozen? ⟨P + 1, 0, none⟩ = false := frozen_of_row wz (P + 1) 0 _ _ hx3
    have f1 : wz.frozen? ⟨P + 1, 1, none⟩ = false := frozen_of_row wz (P + 1) 1 _ _ hx3
    have f2 : wz.frozen? ⟨P + 1, 2, none⟩ = false := frozen_of_row wz (P + 1) 2 _ _ hx3
    have f3 : wz.frozen? ⟨P + 1, 3, none⟩ = false := frozen_of_row wz (P + 1) 3 _ _ hx3
    obtain ⟨d0, d1, d2, d3⟩ := segEnd hx3
    obtain ⟨r0, r1, r2, r3⟩ := segEnd hf.1
    have ht4 := (HT.out.ext (HW.out.2.2.1.trans hz)).butT hx3 (by decide) hf.2
    have HE := Lib.hid (And.intro hw4 (And.intro (ext_new (HW.out.2.2.1.trans hz) (by have := HW.out.2.1; omega) hf.2) (And.intro hln ht4)))
    clear hw4 hf hx3 hz hln ht4
    go_wp2_with fail
    rw [HE.out.1]
    refine bodyPost_ret (v := segV a n c k0 S.off ln) ?_ rfl ⟨_, rfl, ⟨a, c, ?_, ?_⟩, HE.out.2.1⟩
    · simp [results, Tryz.results11, go_sem, r0, r1, r2, r3, segV]
    · show _ = segV a S.l.length c S.k S.off ((Seg.readF S.l).l.length : Nat)
      rw [HK.out.1, HK.out.2, HE.out.2.2.1]
    · show Txts w4 (.slice a S.l.length c) S.l
      rw [HK.out.1]
      exact HE.out.2.2.2
end Go.Proofs.YtfgjhagfpafmoaaGreat
