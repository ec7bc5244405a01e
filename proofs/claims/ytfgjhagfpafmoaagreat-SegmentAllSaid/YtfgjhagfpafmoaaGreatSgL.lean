/-
  Merged: Layer 9, the statements' alive.
-/
import Derived.Test.YtfgjhagfpafmoaaGreatBsLib
import Derived.Test.YtfgjhagfpafmoaaGreatSgG
import Derived.Test.YtfgjhagfpafmoaaGreatSgK

namespace Go.Proofs.YtfgjhagfpafmoaaGreat
set_option linter.unusedSimpArgs false
set_option linter.unusedVariables false
set_option maxRecDepth 100000
open Go.RowKit
/- Layer 9, the statements' alive. -/
theorem build_rec2 (w : World) (s : ByteArray) : (Instr.build 44 #[(2, .string s)]).run Tryz.prog w = .ok (.agg #[.int .i64 0, .int .i64 0, .slice none 0 0, .string s]) w := by kernel_rfl
def raA : Rec.R := ⟨0, 0, [], [97]⟩
def raB : Rec.R := ⟨0, 0, [], [98]⟩
theorem right_A : Rec.right raA = true := by decide
theorem right_B : Rec.right raB = true := by decide
/-- Where alive's three Appends stand. -/
def AlS (B g p q : Nat) (w0 : World) (k : Nat) (w : World) : Prop :=
  (∃ U, B ≤ w.heap.size ∧ U ≤ w.heap.size ∧ (k = 0 → U = q) ∧ IsSeg w B U g p (if k = 0 then Seg.row [] else Seg.row [raA])) ∧ Ext w0 w ∧ (k ≤ 1 → q < w.heap.size ∧ w.heap[q]? = some (.cells #[.int .i64 0, .int .i64 0, .slice none 0 0, .string ⟨#[97]⟩] 44 (0, 0)))
theorem AlS.ext {B g p q k : Nat} {w0 a b : World} (hE : Ext a b) (h : AlS B g p q w0 k a) : AlS B g p q w0 k b := by
  obtain ⟨⟨U, h1, h2, h3, h4⟩, h5, h6⟩ := h
  exact ⟨⟨U, Nat.le_trans h1 hE.size, Nat.le_trans h2 hE.size, h3, h4.ext hE⟩, h5.trans hE, fun hk => ⟨Nat.lt_of_lt_of_le (h6 hk).1 hE.size, heap_ext (h6 hk).2 hE⟩⟩
theorem AlS.app {B g p q k : Nat} {w0 w : World} (hB : w0.heap.size = B) (h : AlS B g p q w0 k w) (n : Int) (hn : -9223372036854775808 ≤ n ∧ n ≤ 9223372036854775807) (r : Rec.R) (ht : r.tags = []) (er : Int) (G : Seg.Sg) (hG : (if k = 0 then Seg.row [] else Seg.row [raA]) = G) (he : G.appErr n r = er) (hG' : G.app n r = Seg.row [raA]) :
    Calls Tryz.prog 35 #[.pointer (some ⟨g, 0, none⟩), .int .i64 n, recV (.slice none 0 0) r] w fun e w' => e = .returned (.int .i64 er) ∧ AlS B g p q w0 (k + 1) w' := by
  obtain ⟨⟨U, h1, h2, h3, va, vp, lv, ps, h4⟩, h5, h6⟩ := h
  rw [hG] at h4
  refine (append9_any h4 h2 n hn (recV (.slice none 0 0) r) r (fun w' _ => ⟨.slice none 0 0, rfl, by rw [ht]; exact ints0 w'⟩)).mono ?_
  rintro e w' ⟨rfl, hs, ht, hk⟩
  rw [he, hG'] at *
  refine ⟨rfl, ⟨w'.heap.size, Nat.le_trans h1 ht.size, Nat.le_refl _, fun e => by omega, by rw [if_neg (by omega)]; exact hs⟩, ?_, fun hk1 => ?_⟩
  · exact Below.trans (B := w0.heap.size) h5 (by rw [hB]; exact ht.below h1)
  · have hk0 : k = 0 := by omega
    have hq := h6 (by omega)
    exact ⟨Nat.lt_of_lt_of_le hq.1 ht.size, (ht.block q hq.1 (.inr (by rw [h3 hk0]; exact Nat.le_refl _))).trans hq.2⟩

set_option maxHeartbeats 8000000 in
theorem alive9_any (w : World) : Calls Tryz.prog 9 #[] w fun e w' => e = .returned (.bool true) ∧ Ext w w' := by
  have hb2 := build_rec2
  go_enter Tryz.func9, Tryz.ntmps9
  go_wp2_with fail
  refine (new8_any (.slice none 0 0) [] w (bytes_none w)).mono ?_
  rintro e w1 ⟨va, vp, rfl, hs1, hE1⟩
  have HS1 := Lib.hid (And.intro hs1 hE1)
  clear hs1 hE1
  obtain ⟨p, hp⟩ : ∃ p, w.heap.size = p := ⟨_, rfl⟩
  have HP := Lib.hid hp
  rw [hp] at HS1 ⊢
  clear hp
  go_wp2_with fail
  refine (open9_any HS1.out.1).mono ?_
  rintro e w2 ⟨rfl, ⟨lv, ps, hs2⟩, hE2⟩
  obtain ⟨g, hg⟩ : ∃ g, w1.heap.size = g := ⟨_, rfl⟩
  have hpg : p ≤ g := by have := HS1.out.2.size; have := HP.out; omega
  rw [hg] at hs2 ⊢
  have hseg : IsSeg w2 p w2.heap.size g p (Seg.row []) := by
    rw [← Seg.row_nil]
    exact IsSeg.of hpg (Nat.le_refl _) (HS1.out.1.ext hE2) (lv := lv) (ps := ps) (hs2.lower hpg)
  obtain ⟨w3, hw3⟩ : ∃ w3, w2.alloc (.cells #[.int .i64 0, .int .i64 0, .slice none 0 0, .string ⟨#[97]⟩] 44) = w3 := ⟨_, rfl⟩
  obtain ⟨q, hq⟩ : ∃ q, w2.heap.size = q := ⟨_, rfl⟩
  have hx3 : w3.heap[q]? = some (.cells #[.int .i64 0, .int .i64 0, .slice none 0 0, .string ⟨#[97]⟩] 44 (0, 0)) := by rw [← hw3, ← hq]; exact heap_alloc_new _ _
  have hE3 : Ext w2 w3 := by rw [← hw3]; exact Ext.alloc _ _
  have hs0 : AlS p g p q w 0 w3 := ⟨⟨q, by have := hE3.size; have := hE2.size; omega, by have := hE3.size; omega, fun _ => rfl, by rw [if_pos rfl, ← hq]; exact hseg.ext hE3⟩, (HS1.out.2.trans hE2).trans hE3, fun _ => ⟨(Array.getElem?_eq_some_iff.1 hx3).1, hx3⟩⟩
  have HS0 := Lib.hid hs0
  have HW3 := Lib.hid (And.intro hw3 hq)
  clear hs2 hg hseg hw3 hq hx3 hE3 hs0 hE2
  have ha0 := fun (wy : World) (h : AlS p g p q w 0 wy) => AlS.app HP.out h 0 (by omega) raA rfl 0 (Seg.row []) (if_pos rfl) (Seg.row_app (l := []) (fun x hx => by cases hx) right_A (by simp)).1 (Seg.row_app (l := []) (fun x hx => by cases hx) right_A (by simp)).2
  have hall : ∀ x ∈ [raA], Rec.right x = true := fun x hx => by rw [List.mem_singleton.1 hx]; exact right_A
  have ha1 := fun (wy : World) (h : AlS p g p q w 1 wy) => AlS.app HP.out h 2 (by omega) raA rfl 91 (Seg.row [raA]) (if_neg (by omega)) (Seg.row_above hall right_A 2 (by decide)).1 (Seg.row_above hall right_A 2 (by decide)).2
  have ha2 := fun (wy : World) (h : AlS p g p q w 2 wy) => AlS.app HP.out h 0 (by omega) raB rfl 1 (Seg.row [raA]) (if_neg (by omega)) ((Seg.row_again hall right_B 0 (by decide)).1.trans (by decide)) (Seg.row_again hall right_B 0 (by decide)).2
  have HA0 := Lib.hid ha0
  have HA1 := Lib.hid ha1
  have HA2 := Lib.hid ha2
  clear ha0 ha1 ha2
  go_upto_region 8 with fail
  rw [HW3.out.1, HW3.out.2]
  refine wp_region_marked (by kernel_rfl) Ext (fun _ _ => True) (fun iop v w => match iop with
      | 0 => v = .pointer (some ⟨g, 0, none⟩)
      | 1 => v = recV (.slice none 0 0) raA
      | 2 => v = .int .i64 0
      | 3 => v = .pointer (some ⟨g, 0, none⟩)
      | 4 => v = recV (.slice none 0 0) raA
      | 5 => v = .int .i64 91
      | 6 => v = .pointer (some ⟨g, 0, none⟩)
      | 7 => v = recV (.slice none 0 0) raB
      | 8 => v = .int .i64 1
      | 9 => v = .int .i64 0
      | 10 => v = .int .i64 91
      | _ => v = .int .i64 1
      ) [2, 5, 8] (AlS p g p q w) (by kernel_rfl) (fun _ _ _ _ _ => trivial) (fun a => Ext.refl a) (fun _ _ _ => trivial) (fun _ _ _ hE hs => hs.ext hE) (Ext.drew _) HS0.out ?_ ?_ ?_ ?_
  · intro iop v wa wb hF hL
    iterate 11 (rcases iop with _ | iop; exact hF)
    exact hF
  · refine Obls2.cons ?_ (Obls2.cons ?_ (Obls2.cons ?_ (Obls2.cons ?_ (Obls2.cons ?_ (Obls2.cons ?_ (Obls2.cons ?_ (Obls2.cons ?_ (Obls2.cons ?_ (Obls2.cons ?_ (Obls2.cons ?_ (Obls2.cons ?_ (Obls2.nil))))))))))))
    · intro ev wy ls hp hl hS hbh hk hd
      rw [if_neg (by decide)]
      have hc2 : ls 2 = false := Bool.eq_false_iff.2 fun hq => absurd (hbh.closed 2 _ rfl (hq) 0 (by decide)) (by rw [hbh.notyet]; decide)
      have hc5 : ls 5 = false := Bool.eq_false_iff.2 fun hq => absurd (hbh.closed 2 _ rfl (hbh.closed 5 _ rfl (hq) 2 (by decide)) 0 (by decide)) (by rw [hbh.notyet]; decide)
      have hc8 : ls 8 = false := Bool.eq_false_iff.2 fun hq => absurd (hbh.closed 2 _ rfl (hbh.closed 5 _ rfl (hbh.closed 8 _ rfl (hq) 5 (by decide)) 2 (by decide)) 0 (by decide)) (by rw [hbh.notyet]; decide)
      have hst := hS
      rw [show stage [2, 5, 8] ls = 0 from by simp [stage, List.filter, hc2, hc5, hc8]] at hst
      clear hc2 hc5 hc8 hS hbh
      have e2 : ev (.tmp 2) = .pointer (some ⟨g, 0, none⟩) := hk 2 (by decide)
      clear hk hd
      exact Yield.mv rfl ⟨Ext.refl _, e2⟩
    · intro ev wy ls hp hl hS hbh hk hd
      rw [if_neg (by decide)]
      have hc2 : ls 2 = false := Bool.eq_false_iff.2 fun hq => absurd (hbh.closed 2 _ rfl (hq) 1 (by decide)) (by rw [hbh.notyet]; decide)
      have hc5 : ls 5 = false := Bool.eq_false_iff.2 fun hq => absurd (hbh.closed 2 _ rfl (hbh.closed 5 _ rfl (hq) 2 (by decide)) 1 (by decide)) (by rw [hbh.notyet]; decide)
      have hc8 : ls 8 = false := Bool.eq_false_iff.2 fun hq => absurd (hbh.closed 2 _ rfl (hbh.closed 5 _ rfl (hbh.closed 8 _ rfl (hq) 5 (by decide)) 2 (by decide)) 1 (by decide)) (by rw [hbh.notyet]; decide)
      have hst := hS
      rw [show stage [2, 5, 8] ls = 0 from by simp [stage, List.filter, hc2, hc5, hc8]] at hst
      clear hc2 hc5 hc8 hS hbh
      have e3 : ev (.tmp 3) = .pointer (some ⟨q, 0, none⟩) := hk 3 (by decide)
      clear hk hd
      have hx := (hst.2.2 (by omega)).2
      exact Yield.load rfl e3 (by simp [go_sem, cell_of_heap hx 0, cell_of_heap hx 1, cell_of_heap hx 2, cell_of_heap hx 3]; rfl) ⟨Ext.refl _, rfl⟩
    · intro ev wy ls hp hl hS hbh hk hd
      rw [if_pos (by decide)]
      have hc2 : ls 2 = false := hbh.notyet
      have hc5 : ls 5 = false := Bool.eq_false_iff.2 fun hq => absurd (hbh.closed 5 _ rfl (hq) 2 (by decide)) (by rw [hbh.notyet]; decide)
      have hc8 : ls 8 = false := Bool.eq_false_iff.2 fun hq => absurd (hbh.closed 5 _ rfl (hbh.closed 8 _ rfl (hq) 5 (by decide)) 2 (by decide)) (by rw [hbh.notyet]; decide)
      have hst := hS
      rw [show stage [2, 5, 8] ls = 0 from by simp [stage, List.filter, hc2, hc5, hc8]] at hst
      have hup : stage [2, 5, 8] (upd ls 2) = 1 := by simp [stage, List.filter, upd, hc2, hc5, hc8]
      clear hc2 hc5 hc8 hS hbh
      have e20 : ev (.tmp 20) = .pointer (some ⟨g, 0, none⟩) := hk 20 (by decide)
      have e21 : ev (.tmp 21) = recV (.slice none 0 0) raA := hk 21 (by decide)
      clear hk hd
      refine Yield.call rfl hp Tryz.func35 rfl (by kernel_rfl) ?_
      simp only [List.map_toArray, List.map_cons, List.map_nil, hp.const, e20, e21]
      exact (HA0.out wy hst).mono fun e w' ⟨he, hs⟩ => ⟨_, he, trivial, rfl, by rw [hup]; exact hs⟩
    · intro ev wy ls hp hl hS hbh hk hd
      rw [if_neg (by decide)]
      have e2 : ev (.tmp 2) = .pointer (some ⟨g, 0, none⟩) := hk 2 (by decide)
      clear hk hd
      exact Yield.mv rfl ⟨Ext.refl _, e2⟩
    · intro ev wy ls hp hl hS hbh hk hd
      rw [if_neg (by decide)]
      have e3 : ev (.tmp 3) = .pointer (some ⟨q, 0, none⟩) := hk 3 (by decide)
      clear hk hd
      have q5 : ls 5 = false := Bool.eq_false_iff.2 fun hq => absurd (hbh.closed 5 _ rfl hq 4 (by decide)) (by rw [hbh.notyet]; decide)
      have q8 : ls 8 = false := Bool.eq_false_iff.2 fun hq => absurd (hbh.closed 8 _ rfl hq 5 (by decide)) (by rw [q5]; decide)
      have hx : wy.heap[q]? = some (.cells #[.int .i64 0, .int .i64 0, .slice none 0 0, .string ⟨#[97]⟩] 44 (0, 0)) := by
        have hst := hS
        cases q2 : ls 2 with
        | false => rw [show stage [2, 5, 8] ls = 0 from by simp [stage, List.filter, q2, q5, q8]] at hst; exact (hst.2.2 (by omega)).2
        | true => rw [show stage [2, 5, 8] ls = 1 from by simp [stage, List.filter, q2, q5, q8]] at hst; exact (hst.2.2 (by omega)).2
      exact Yield.load rfl e3 (by simp [go_sem, cell_of_heap hx 0, cell_of_heap hx 1, cell_of_heap hx 2, cell_of_heap hx 3]; rfl) ⟨Ext.refl _, rfl⟩
    · intro ev wy ls hp hl hS hbh hk hd
      rw [if_pos (by decide)]
      have hc2 : ls 2 = true := hbh.ready 2 (by decide)
      have hc5 : ls 5 = false := hbh.notyet
      have hc8 : ls 8 = false := Bool.eq_false_iff.2 fun hq => absurd (hbh.closed 8 _ rfl (hq) 5 (by decide)) (by rw [hbh.notyet]; decide)
      have hst := hS
      rw [show stage [2, 5, 8] ls = 1 from by simp [stage, List.filter, hc2, hc5, hc8]] at hst
      have hup : stage [2, 5, 8] (upd ls 5) = 2 := by simp [stage, List.filter, upd, hc2, hc5, hc8]
      clear hc2 hc5 hc8 hS hbh
      have e23 : ev (.tmp 23) = .pointer (some ⟨g, 0, none⟩) := hk 23 (by decide)
      have e24 : ev (.tmp 24) = recV (.slice none 0 0) raA := hk 24 (by decide)
      clear hk hd
      refine Yield.call rfl hp Tryz.func35 rfl (by kernel_rfl) ?_
      simp only [List.map_toArray, List.map_cons, List.map_nil, hp.const, e23, e24]
      exact (HA1.out wy hst).mono fun e w' ⟨he, hs⟩ => ⟨_, he, trivial, rfl, by rw [hup]; exact hs⟩
    · intro ev wy ls hp hl hS hbh hk hd
      rw [if_neg (by decide)]
      have e2 : ev (.tmp 2) = .pointer (some ⟨g, 0, none⟩) := hk 2 (by decide)
      clear hk hd
      exact Yield.mv rfl ⟨Ext.refl _, e2⟩
    · intro ev wy ls hp hl hS hbh hk hd
      rw [if_neg (by decide)]
      clear hk hd
      exact Yield.op (v := recV (.slice none 0 0) raB) (w' := wy) (by simp [execOp, go_sem, hp.const, hb2]; rfl) ⟨Ext.refl _, rfl⟩
    · intro ev wy ls hp hl hS hbh hk hd
      rw [if_pos (by decide)]
      have hc2 : ls 2 = true := hbh.closed 5 _ rfl (hbh.ready 5 (by decide)) 2 (by decide)
      have hc5 : ls 5 = true := hbh.ready 5 (by decide)
      have hc8 : ls 8 = false := hbh.notyet
      have hst := hS
      rw [show stage [2, 5, 8] ls = 2 from by simp [stage, List.filter, hc2, hc5, hc8]] at hst
      have hup : stage [2, 5, 8] (upd ls 8) = 3 := by simp [stage, List.filter, upd, hc2, hc5, hc8]
      clear hc2 hc5 hc8 hS hbh
      have e26 : ev (.tmp 26) = .pointer (some ⟨g, 0, none⟩) := hk 26 (by decide)
      have e27 : ev (.tmp 27) = recV (.slice none 0 0) raB := hk 27 (by decide)
      clear hk hd
      refine Yield.call rfl hp Tryz.func35 rfl (by kernel_rfl) ?_
      simp only [List.map_toArray, List.map_cons, List.map_nil, hp.const, e26, e27]
      exact (HA2.out wy hst).mono fun e w' ⟨he, hs⟩ => ⟨_, he, trivial, rfl, by rw [hup]; exact hs⟩
    · intro ev wy ls hp hl hS hbh hk hd
      rw [if_neg (by decide)]
      have hc2 : ls 2 = true := hbh.ready 2 (by decide)
      have hc5 : ls 5 = true := hbh.closed 8 _ rfl (hbh.ready 8 (by decide)) 5 (by decide)
      have hc8 : ls 8 = true := hbh.ready 8 (by decide)
      have hst := hS
      rw [show stage [2, 5, 8] ls = 3 from by simp [stage, List.filter, hc2, hc5, hc8]] at hst
      clear hc2 hc5 hc8 hS hbh
      have e22 : ev (.tmp 22) = .int .i64 0 := hk 22 (by decide)
      clear hk hd
      exact Yield.as rfl ⟨Ext.refl _, e22⟩
    · intro ev wy ls hp hl hS hbh hk hd
      rw [if_neg (by decide)]
      have hc2 : ls 2 = true := hbh.ready 2 (by decide)
      have hc5 : ls 5 = true := hbh.ready 5 (by decide)
      have hc8 : ls 8 = true := hbh.closed 9 _ rfl (hbh.ready 9 (by decide)) 8 (by decide)
      have hst := hS
      rw [show stage [2, 5, 8] ls = 3 from by simp [stage, List.filter, hc2, hc5, hc8]] at hst
      clear hc2 hc5 hc8 hS hbh
      have e25 : ev (.tmp 25) = .int .i64 91 := hk 25 (by decide)
      clear hk hd
      exact Yield.as rfl ⟨Ext.refl _, e25⟩
    · intro ev wy ls hp hl hS hbh hk hd
      rw [if_neg (by decide)]
      have hc2 : ls 2 = true := hbh.ready 2 (by decide)
      have hc5 : ls 5 = true := hbh.ready 5 (by decide)
      have hc8 : ls 8 = true := hbh.ready 8 (by decide)
      have hst := hS
      rw [show stage [2, 5, 8] ls = 3 from by simp [stage, List.filter, hc2, hc5, hc8]] at hst
      clear hc2 hc5 hc8 hS hbh
      have e28 : ev (.tmp 28) = .int .i64 1 := hk 28 (by decide)
      clear hk hd
      exact Yield.as rfl ⟨Ext.refl _, e28⟩
  · decide
  · intro vals wz hz hS hv
    have g20 : vals 0 = .pointer (some ⟨g, 0, none⟩) := hv 0 (by decide)
    have g21 : vals 1 = recV (.slice none 0 0) raA := hv 1 (by decide)
    have g22 : vals 2 = .int .i64 0 := hv 2 (by decide)
    have g23 : vals 3 = .pointer (some ⟨g, 0, none⟩) := hv 3 (by decide)
    have g24 : vals 4 = recV (.slice none 0 0) raA := hv 4 (by decide)
    have g25 : vals 5 = .int .i64 91 := hv 5 (by decide)
    have g26 : vals 6 = .pointer (some ⟨g, 0, none⟩) := hv 6 (by decide)
    have g27 : vals 7 = recV (.slice none 0 0) raB := hv 7 (by decide)
    have g28 : vals 8 = .int .i64 1 := hv 8 (by decide)
    have g4 : vals 9 = .int .i64 0 := hv 9 (by decide)
    have g5 : vals 10 = .int .i64 91 := hv 10 (by decide)
    have g6 : vals 11 = .int .i64 1 := hv 11 (by decide)
    clear hv
    simp only [putAll, Act.put, List.setIfInBounds_toArray, List.set_cons_zero, List.set_cons_succ, g20, g21, g22, g23, g24, g25, g26, g27, g28, g4, g5, g6]
    clear g20
    clear g21
    clear g22
    clear g23
    clear g24
    clear g25
    clear g26
    clear g27
    clear g28
    clear g4
    clear g5
    clear g6
    obtain ⟨⟨U, h1, h2, _, h4⟩, h5, _⟩ := hS
    rw [if_neg (by simp)] at h4
    obtain ⟨va4, vp4, lv4, ps4, h4⟩ := h4.full
    have H4 := Lib.hid (And.intro h4 (And.intro h1 h5))
    have hg0 : (Seg.row [raA]).getErr 0 = 0 ∧ (Seg.row [raA]).getRec 0 = raA := Seg.row_get hall 0 (by decide)
    have HG0 := Lib.hid hg0
    clear h1 h2 h4 h5 hz hg0
    go_wp2_with fail
    refine (get9_any H4.out.1 (Nat.le_refl _) 0 (by omega)).mono ?_
    rw [HG0.out.1, HG0.out.2]
    rintro e w5 ⟨t5, rfl, ht5, hE5⟩
    obtain ⟨ta, tn, tc, rfl⟩ : ∃ x y z, t5 = .slice x y z := by
      obtain ⟨b', n', ho⟩ := ht5
      exact ownSlice ho
    simp only [recV, raA]
    obtain ⟨w6, hw6⟩ : ∃ w6, w5.alloc (.cells #[.int .i64 0, .int .i64 0, .slice ta tn tc, .string ⟨#[97]⟩] 44) = w6 := ⟨_, rfl⟩
    obtain ⟨X, hX⟩ : ∃ X, w5.heap.size = X := ⟨_, rfl⟩
    have hE6 : Ext w5 w6 := by rw [← hw6]; exact Ext.alloc _ _
    have hx6 : w6.heap[X]? = some (.cells #[.int .i64 0, .int .i64 0, .slice ta tn tc, .string ⟨#[97]⟩] 44 (0, 0)) := by rw [← hw6, ← hX]; exact heap_alloc_new _ _
    have h6 := ((H4.out.1.ext hE5).full).ext hE6
    rw [hX] at h6
    have hU6 : X ≤ w6.heap.size := by rw [← hX]; exact hE6.size
    have HW6 := Lib.hid (And.intro hw6 (And.intro hX (And.intro hx6 (And.intro h6 ((H4.out.2.2.trans hE5).trans hE6)))))
    have hB6 : p ≤ w6.heap.size := Nat.le_trans H4.out.2.1 (Nat.le_trans hE5.size hE6.size)
    clear ht5 hE5 hE6 hw6 hX hx6 h6
    go_upto_region 10 with fail
    rw [HW6.out.1, HW6.out.2.1]
    have htr := trim9_any HW6.out.2.2.2.1 hU6 1
    rw [show (Seg.row [raA]).trimErr 1 = 0 from (Seg.row_trim hall (by decide) 1 (by decide) (by decide)).1, show (Seg.row [raA]).trim 1 = Seg.cut [raA] 1 from (Seg.row_trim hall (by decide) 1 (by decide) (by decide)).2] at htr
    have HTR := Lib.hid htr
    clear htr
    go_wp2_with fail
    refine HTR.out.mono ?_
    rintro e w7 ⟨rfl, ⟨va7, vp7, lv7, ps7, h7⟩, ht7, _⟩
    have hx7 := (ht7.block X (Array.getElem?_eq_some_iff.1 HW6.out.2.2.1).1 (.inr (Nat.le_refl _))).trans HW6.out.2.2.1
    have hE7 : Ext w w7 := Below.trans (B := w.heap.size) HW6.out.2.2.2.2 (by rw [HP.out]; exact ht7.below hB6)
    have HW7 := Lib.hid (And.intro h7 (And.intro hx7 hE7))
    have hg7 : (Seg.cut [raA] 1).getErr 0 = 92 := (Seg.cut_get hall (by decide) (n := 1) (by decide) 0 (by decide)).1
    have HG7 := Lib.hid hg7
    clear h7 ht7 hx7 hE7 hg7
    go_wp2_with fail
    refine (get9_any HW7.out.1 (Nat.le_refl _) 0 (by omega)).mono ?_
    rw [HG7.out]
    rintro e w8 ⟨t8, rfl, ht8, hE8⟩
    obtain ⟨ua, un, uc, rfl⟩ : ∃ x y z, t8 = .slice x y z := by
      obtain ⟨b', n', ho⟩ := ht8
      exact ownSlice ho
    simp only [recV]
    obtain ⟨R, hR⟩ : ∃ R, (Seg.cut [raA] 1).getRec 0 = R := ⟨_, rfl⟩
    rw [hR]
    have hE9 := hE8.trans (Ext.alloc w8 (.cells #[.int .i64 R.client, .int .i64 R.number, .slice ua un uc, .string ⟨R.data.toArray⟩] 44))
    have x3 : (w8.alloc (.cells #[.int .i64 R.client, .int .i64 R.number, .slice ua un uc, .string ⟨R.data.toArray⟩] 44)).cell? ⟨X, 3, none⟩ = some (.string ⟨#[97]⟩) := cell_of_heap (heap_ext HW7.out.2.1 hE9) 3
    have hl8 := HW7.out.1.len_any hE9
    have hcw := Seg.cut_w hall (by decide) (n := 1) (by decide)
    have hlen1 : (Seg.cut [raA] 1).len = 1 := by unfold Seg.Sg.len; rw [hcw]; rfl
    rw [hlen1] at hl8
    have HL8 := Lib.hid hl8
    have HE9 := Lib.hid hE9
    have htm : (Seg.cut [raA] 1).w.trimmed = 1 := by rw [hcw]
    have HTM := Lib.hid htm
    clear ht8 hE8 hR hE9 hl8 hcw hlen1 htm
    go_wp2_with fail
    refine HL8.out.mono ?_
    rintro e w10 ⟨rfl, hE10⟩
    have HE10 := Lib.hid (HE9.out.trans hE10)
    clear hE10 x3
    go_wp2_with fail
    refine (segtrim_any (HW7.out.1.seg.ext HE10.out)).mono ?_
    rintro e w11 ⟨rfl, rfl⟩
    rw [HTM.out]
    go_wp2_with fail
    go_ret
    exact ⟨rfl, HW7.out.2.2.trans HE10.out⟩
end Go.Proofs.YtfgjhagfpafmoaaGreat
