/-
  Merged: Layer 14, the program: ownConfig: a configuration with rows of its own.
-/
import Derived.Test.YtkpcmedmiiohnaaBsRgA
import Derived.Test.YtkpcmedmiiohnaaBsVec

namespace Go.Proofs.Ytkpcmedmiiohnaa
set_option linter.unusedSimpArgs false
set_option linter.unusedVariables false
set_option maxRecDepth 100000
open Go.RowKit
/- Layer 14, the program: ownConfig: a configuration with rows of its own. -/
set_option maxHeartbeats 2000000 in
theorem cloneRows_any (v : Value) (xs : List Value) (w : World) (hv : Sl w v xs) (h1 : ∀ y ∈ xs, y.oneCell' = true) (hl : xs.length ≤ 1000000) :
    Calls Try.prog 48 #[v] w fun x w' => ∃ u, x = .returned u ∧ w'.ownsRow w.heap.size 22 1 u xs.length xs ∧ Ext w w' := by
  have hv0 := hv
  obtain ⟨a, cap, rfl, hcap, hmax, hn, hc⟩ := hv
  have e1 := fun (w : World) (a : Option Addr) (n c : Nat) => Lib.run_eql_slice_nil (P := Try.prog) w 23 22 a n c 0 0 Try.underlying23
  cases a with
  | none =>
    obtain rfl := hn rfl
    have : xs = [] := List.eq_nil_of_length_eq_zero (by omega)
    subst this
    clear hc
    go_enter Try.func48, Try.ntmps48
    go_wp2
    go_ret
    exact ⟨_, rfl, World.ownsRow_nil _ _ _ _, Below.refl _ _⟩
  | some ad =>
    have ti := tRow
    clear hc
    have hown0 : (w.alloc (.cells #[] 22)).ownsRow w.heap.size 22 1 (.slice (some ⟨w.heap.size, 0, none⟩) 0 0) 0 [] := World.ownsRow_made w #[] 0 (Nat.le_refl _) (by simp [maxLen]) (by simp)
    have hsl : Sl (w.alloc (.cells #[] 22)) (.slice (some ad) xs.length cap) xs := hv0.below (Ext.alloc _ _)
    have hc1 : 0 + xs.length ≤ maxLen := by unfold maxLen; omega
    have hc2 : (0 + xs.length) * 24 ≤ 140737488355328 := by omega
    go_enter Try.func48, Try.ntmps48
    go_wp2_with (first | (at_builtin; refine wpList_app rfl (.tmp 5) (.tmp 6) ti rfl rfl rfl hown0 hsl h1 hc1 hc2 (by simp) ?_; intro v2 w2 hown2 hg2))
    go_ret
    exact ⟨_, rfl, by simpa using hown2, ((Below.refl _ w).alloc (Nat.le_refl _) _).grown hg2 (by simp) (fun k hk => (hown0.lt k hk).1)⟩

/-- A row of rows, of which the first k are cloned. -/
def Mixed (w : World) (base : Nat) (v : Value) (xs : List Value) (ls : List (List Int)) (k : Nat) : Prop := ∃ ys : List Value, w.ownsRow base 22 1 v xs.length ys ∧ ys.length = xs.length ∧ (∀ i (h : i < ys.length) (h' : i < ls.length), i < k → OwnI w base ys[i] ls[i]) ∧ ∀ i, k ≤ i → ys[i]? = xs[i]?
theorem Mixed.ext {w w' : World} {base : Nat} {v : Value} {xs : List Value} {ls : List (List Int)} {k : Nat} (h : Mixed w base v xs ls k) (hE : Ext w w') : Mixed w' base v xs ls k := by
  obtain ⟨ys, h1, h2, h3, h4⟩ := h
  exact ⟨ys, rowExt h1 hE, h2, fun i a b c => (h3 i a b c).ext hE, h4⟩
theorem Mixed.done {w : World} {base : Nat} {v : Value} {xs : List Value} {ls : List (List Int)} {k : Nat} (h : Mixed w base v xs ls k) (hl : xs.length = ls.length) (hk : ls.length ≤ k) : OwnRR w base v ls := by
  obtain ⟨ys, h1, h2, h3, h4⟩ := h
  exact ⟨ys, hl ▸ h1, by omega, fun i a b => h3 i a b (by omega)⟩
/-- One more is cloned: it is stored. -/
theorem Mixed.next {w : World} {base : Nat} {g n cc : Nat} {xs : List Value} {ls : List (List Int)} {k : Nat} (h : Mixed w base (.slice (some ⟨g, 0, none⟩) n cc) xs ls k) (hk : k < xs.length) (hkl : k < ls.length) {u : Value} (hu : OwnI w base u ls[k]) :
    Mixed (w.setCell ⟨g, k, none⟩ u) base (.slice (some ⟨g, 0, none⟩) n cc) xs ls (k + 1) ∧ base ≤ g ∧ w.heap[g]? ≠ none := by
  obtain ⟨ys, h1, h2, h3, h4⟩ := h
  have hn : n = xs.length := by
    obtain ⟨a', c', e, _⟩ := Sl.ofOwn h1
    injection e with _ e _
    rw [e, h2]
  obtain ⟨cs, hcs⟩ := ownAt h1 (k := g) rfl
  have hB : But g w (w.setCell ⟨g, k, none⟩ u) := butSet w g k u
  refine ⟨⟨ys.set k u, ?_, by simp [h2], fun i a b c => ?_, fun i hi => ?_⟩, (h1.lt g rfl).1, by rw [hcs]; simp⟩
  · subst hn
    exact (h1.stored k u).1
  · have ha : i < ys.length := by simpa using a
    simp only [List.getElem_set]
    split
    · next e => subst e; exact hu.but hcs (by decide) hB
    · exact (h3 i ha b (by omega)).but hcs (by decide) hB
  · rw [List.getElem?_set_ne (by omega)]
    exact h4 i (by omega)
theorem Mixed.rest {w : World} {base : Nat} {v : Value} {xs : List Value} {ls : List (List Int)} {k : Nat} (h : Mixed w base v xs ls k) (hk : k < xs.length) : ∃ g cc, v = .slice (some ⟨g, 0, none⟩) xs.length cc ∧ w.cell? ⟨g, k, none⟩ = some xs[k] ∧ w.frozen? ⟨g, k, none⟩ = false ∧ xs.length ≤ cc := by
  obtain ⟨ys, h1, h2, h3, h4⟩ := h
  have hy : ys[k]? = some xs[k] := by rw [h4 k (Nat.le_refl _), List.getElem?_eq_getElem hk]
  rcases h1.2 with ⟨_, e⟩ | ⟨g, cap, cur, rfl, _, _, hle, _⟩
  · omega
  · refine ⟨g, cap, rfl, ?_, h1.frozenAt k, hle⟩
    rw [h1.cellAt k (by omega), hy]

theorem rightSmall {c : Term.C} (h : Term.right c = true) : c.seqs.length ≤ 7 ∧ c.shards.length ≤ 8 ∧ (∀ l ∈ c.shards, l.length ≤ 3) ∧ 1 ≤ c.term ∧ c.term ≤ 64 := by
  unfold Term.right at h
  simp only [Bool.and_eq_true, decide_eq_true_eq, List.all_eq_true, Term.okShard] at h
  obtain ⟨⟨h0, _, h1⟩, h2, h3, _⟩ := h
  exact ⟨by omega, h1, fun l hl => (h2 l hl).1.2, h0.1, h0.2⟩
/-- What ownConfig tells: rows of its own, in blocks that are new. -/
def GivesOwn14 (w : World) (c : Term.C) (e : Ending) (w' : World) : Prop := ∃ s d, e = .returned (confV c.term s d) ∧ OwnI w' w.heap.size s c.seqs ∧ OwnRR w' w.heap.size d c.shards ∧ Ext w w'
set_option maxHeartbeats 8000000 in
theorem ownConf14_any (v : Value) (c : Term.C) (w : World) (hv : IsConf w v c) (hr : Term.right c = true) : Calls Try.prog 23 #[v] w (GivesOwn14 w c) := by
  obtain ⟨hl1, hl2, hl3⟩ := rightSmall hr
  obtain ⟨s, d, rfl, hs, hd⟩ := hv
  obtain ⟨xs, hxs, hxl, hxi⟩ := hd
  have HR := Lib.hid (And.intro hr (And.intro hl1 hl2))
  have HS := Lib.hid hs
  have HI := Lib.hid hxi
  obtain ⟨sa, sn, sc, rfl⟩ := hs.isSlice
  obtain ⟨N, hN⟩ : ∃ N, xs.length = N := ⟨_, rfl⟩
  have HX := Lib.hid hxs
  obtain ⟨da, dc, rfl, hjx⟩ := hxs
  clear hjx
  rw [hN] at HX ⊢
  have HN := Lib.hid (And.intro hN hxl)
  obtain ⟨t, ht⟩ : ∃ t, c.term = t := ⟨_, rfl⟩
  have HT := Lib.hid ht
  obtain ⟨q, hq⟩ : ∃ q, w.heap.size = q := ⟨_, rfl⟩
  obtain ⟨w1, hw1⟩ : ∃ z, w.alloc (.cells #[.int .i64 t, .slice sa sn sc, .slice da N dc] 33) = z := ⟨_, rfl⟩
  obtain ⟨w0, hw0⟩ : ∃ z, w1.alloc (.cells #[.int .i64 0, .slice none 0 0, .slice none 0 0] 33) = z := ⟨_, rfl⟩
  have hs1 : w1.heap.size = q + 1 := by rw [← hw1, World.size_alloc, hq]
  have hE1 : Ext w w1 := by rw [← hw1]; exact Ext.alloc _ _
  have hE2 : Ext w1 w0 := by rw [← hw0]; exact Ext.alloc _ _
  have ha1 : w1.heap[q]? = some (.cells #[.int .i64 t, .slice sa sn sc, .slice da N dc] 33 (0, 0)) := by rw [← hw1, ← hq]; exact heap_alloc_new _ _
  have HB0 := Lib.hid (show w0.heap[q + 1]? = some (.cells #[.int .i64 0, .slice none 0 0, .slice none 0 0] 33 (0, 0)) by rw [← hw0, ← hs1]; exact heap_alloc_new _ _)
  have HA0 := Lib.hid (heap_ext ha1 hE2)
  have hE0 := hE1.trans hE2
  have HE0 := Lib.hid hE0
  have HW0 := Lib.hid (And.intro hq (And.intro hw1 (And.intro hs1 hw0)))
  have hs0 : w0.heap.size = q + 1 + 1 := by rw [← hw0, World.size_alloc, hs1]
  have HS0 := Lib.hid hs0
  have hN8 : N ≤ 8 := by omega
  have hcl1 : ∀ w', Ext w0 w' → Calls Try.prog 47 #[.slice sa sn sc] w' fun x w'' => ∃ a n cc, x = .returned (.slice a n cc) ∧ OwnI w'' (q + 1 + 1) (.slice a n cc) c.seqs ∧ Ext w' w'' := fun w' hE =>
    (cloneI_any _ c.seqs w' (HS.out.below (hE0.trans hE)) (by omega)).mono fun x w'' ⟨u, h1, h2, h3⟩ => by
      obtain ⟨a, n, cc, rfl⟩ := ownSlice h2
      exact ⟨a, n, cc, h1, rowLower h2 (by rw [← hs0]; exact hE.size), h3⟩
  have hone : ∀ y ∈ xs, y.oneCell' = true := fun y hy => by
    obtain ⟨i, hi, rfl⟩ := List.getElem_of_mem hy
    obtain ⟨a, n, cc, e⟩ := (HI.out i hi (by omega)).isSlice
    rw [e]; rfl
  have hcl2 : ∀ w', w0.heap.size ≤ w'.heap.size → Sl w' (.slice da N dc) xs → Calls Try.prog 48 #[.slice da N dc] w' fun x w'' => ∃ a cc, x = .returned (.slice a N cc) ∧ w''.ownsRow (q + 1 + 1) 22 1 (.slice a N cc) N xs ∧ Ext w' w'' := fun w' hE hsl =>
    (cloneRows_any _ xs w' hsl hone (by omega)).mono fun x w'' ⟨u, h1, h2, h3⟩ => by
      obtain ⟨a, n, cc, rfl⟩ := ownSlice h2
      rw [hN] at h2
      have : n = N := ownLen h2
      subst this
      exact ⟨a, cc, h1, rowLower h2 (by rw [← hs0]; exact hE), h3⟩
  have hrows : ∀ (k : Nat) (hk1 : k < xs.length) (hk2 : k < c.shards.length), ∃ a n c9, xs[k] = .slice a n c9 ∧ ∀ w', Ints w' (.slice a n c9) c.shards[k] → q + 1 + 1 ≤ w'.heap.size → Calls Try.prog 47 #[.slice a n c9] w' fun x w'' => ∃ a n cc, x = .returned (.slice a n cc) ∧ OwnI w'' (q + 1 + 1) (.slice a n cc) c.shards[k] ∧ Ext w' w'' := fun k hk1 hk2 => by
    obtain ⟨a, n, c9, e⟩ := (HI.out k hk1 hk2).isSlice
    refine ⟨a, n, c9, e, fun w' hi hsz => ?_⟩
    refine (cloneI_any _ _ w' hi (by have := hl3.1 _ (List.getElem_mem hk2); omega)).mono fun x w'' ⟨u, h1, h2, h3⟩ => ?_
    obtain ⟨a, n, cc, rfl⟩ := ownSlice h2
    exact ⟨a, n, cc, h1, rowLower h2 hsz, h3⟩
  have HC3 := Lib.hid hrows
  have HC1 := Lib.hid hcl1
  have HC2 := Lib.hid hcl2
  clear hcl1 hcl2 hs hxl hl1 hl2 hxi hN hr ht hrows hone hl3 hq hw1 hw0 hs1 hE1 hE2 ha1 hE0 hs0
  unfold confV
  rw [HT.out]
  go_enter Try.func23, Try.ntmps23
  go_upto_region 1 with fail
  rw [HW0.out.1, HW0.out.2.1]
  try rw [HW0.out.2.2.2]
  have c0 := cell_of_heap HA0.out 1
  simp only [List.getElem?_toArray, List.getElem?_cons_zero, List.getElem?_cons_succ] at c0
  have f0 := fun i => frozen_of_heap HA0.out i
  go_wp2_with fail
  refine (HC1.out w0 (Ext.refl _)).mono ?_
  rintro e w2 ⟨a2, n2, k2, rfl, hS, hE2⟩
  have hA2 := heap_ext HA0.out hE2
  have HA2 := Lib.hid hA2
  have HB2 := Lib.hid (heap_ext HB0.out hE2)
  have HS2 := Lib.hid hS
  have HE2 := Lib.hid hE2
  have d0 := cell_of_heap hA2 1
  have f2 := fun i => frozen_of_heap hA2 i
  simp only [List.getElem?_toArray, List.getElem?_cons_zero, List.getElem?_cons_succ] at d0
  clear c0 f0 hS hE2 hA2
  go_upto_region 2 with fail
  obtain ⟨w3, hw3⟩ : ∃ z, w2.setCell ⟨q, 1, none⟩ (.slice a2 n2 k2) = z := ⟨_, rfl⟩
  have hBt : But q w2 w3 := by rw [← hw3]; exact butSet _ _ _ _
  have hA3 : w3.heap[q]? = some (.cells #[.int .i64 t, .slice a2 n2 k2, .slice da N dc] 33 (0, 0)) := by rw [← hw3]; exact heap_setCell HA2.out 1 _
  have HB3 := Lib.hid ((hBt.block (q + 1) (Array.getElem?_eq_some_iff.1 HB2.out).1 (by omega)).trans HB2.out)
  have hE3 : Ext w w3 := Below.trans (B := w.heap.size) (HE0.out.trans HE2.out) (hBt.below (by have := HW0.out.1; omega) (HE0.out.trans HE2.out).size)
  have HE3 := Lib.hid hE3
  have hsz3 : w0.heap.size ≤ w3.heap.size := Nat.le_trans HE2.out.size hBt.size
  have HS3 := Lib.hid (OwnI.but HS2.out HA2.out (by decide) hBt)
  have HC22 := Lib.hid (HC2.out w3 hsz3 (HX.out.below hE3))
  have HA3 := Lib.hid hA3
  have HW3 := Lib.hid hw3
  have e2 := cell_of_heap hA3 2
  have f3 := fun i => frozen_of_heap hA3 i
  simp only [List.getElem?_toArray, List.getElem?_cons_zero, List.getElem?_cons_succ] at e2
  have HSZ3 := Lib.hid hsz3
  clear hBt hA3 hE3 hsz3 hw3 d0 f2
  rw [HW3.out]
  go_wp2_with fail
  refine HC22.out.mono ?_
  rintro e w4 ⟨a4, k4, rfl, hD4, hE4⟩
  have hA4 := heap_ext HA3.out hE4
  have HA4 := Lib.hid hA4
  have HB4 := Lib.hid (heap_ext HB3.out hE4)
  have HS4 := Lib.hid (HS3.out.ext hE4)
  have HD4 := Lib.hid hD4
  have HE4 := Lib.hid hE4
  have f4 := fun i => frozen_of_heap hA4 i
  have g4 := cell_of_heap hA4 2
  simp only [List.getElem?_toArray, List.getElem?_cons_zero, List.getElem?_cons_succ] at g4
  clear hA4 hD4 hE4 e2 f3
  go_upto_region 3 with fail
  obtain ⟨w5, hw5⟩ : ∃ z, w4.setCell ⟨q, 2, none⟩ (.slice a4 N k4) = z := ⟨_, rfl⟩
  have hBt : But q w4 w5 := by rw [← hw5]; exact butSet _ _ _ _
  have hA5 : w5.heap[q]? = some (.cells #[.int .i64 t, .slice a2 n2 k2, .slice a4 N k4] 33 (0, 0)) := by rw [← hw5]; exact heap_setCell HA4.out 2 _
  have HA5 := Lib.hid hA5
  have HB5 := Lib.hid ((hBt.block (q + 1) (Array.getElem?_eq_some_iff.1 HB4.out).1 (by omega)).trans HB4.out)
  have HS5 := Lib.hid (OwnI.but HS4.out HA4.out (by decide) hBt)
  have HD5 := Lib.hid (rowBut HD4.out (rowBeside HD4.out HA4.out (by decide)) hBt)
  have HE5 := Lib.hid (show Ext w w5 from Below.trans (B := w.heap.size) (HE3.out.trans HE4.out) (hBt.below (by have := HW0.out.1; omega) (HE3.out.trans HE4.out).size))
  have HW5 := Lib.hid hw5
  have h5 := cell_of_heap hA5 2
  simp only [List.getElem?_toArray, List.getElem?_cons_zero, List.getElem?_cons_succ] at h5
  clear hBt hA5 hw5 f4 g4
  rw [HW5.out]
  go_wp2_with fail
  clear h5
  go_loopw [3, 15] (fun _ i wr => ∃ k : Nat, k ≤ N ∧ i = .int .i64 k ∧ Hid (Mixed wr (q + 1 + 1) (.slice a4 N k4) xs c.shards k) ∧ Hid (wr.heap[q]? = some (.cells #[.int .i64 t, .slice a2 n2 k2, .slice a4 N k4] 33 (0, 0))) ∧ Hid (wr.heap[q + 1]? = some (.cells #[.int .i64 0, .slice none 0 0, .slice none 0 0] 33 (0, 0))) ∧ Hid (OwnI wr (q + 1 + 1) (.slice a2 n2 k2) c.seqs) ∧ Hid (Ext w wr)) (fun _ i _ => N - (intOf i).toNat)
  case atStart => exact ⟨0, by omega, rfl, Lib.hid ⟨xs, by rw [HN.out.1]; exact HD5.out, rfl, fun i _ _ h => absurd h (by omega), fun i _ => rfl⟩, HA5, HB5, HS5, HE5⟩
  case round =>
    obtain ⟨k, hk, rfl, HM, HA, HB, HO, HE⟩ := hrel
    by_cases hlt : k < N
    · have hkx : k < xs.length := by have := HN.out.1; omega
      have hkc : k < c.shards.length := by have := HN.out; omega
      obtain ⟨g, cc, e9, hcell, hfz, hcc⟩ := HM.out.rest hkx
      injection e9 with e1 e2 e3
      subst e1 e3
      obtain ⟨xa, xn, xc, hx, hcl⟩ := HC3.out k hkx hkc
      have hi := HI.out k hkx hkc
      rw [hx] at hcell hi
      obtain ⟨R, hR⟩ : ∃ R, c.shards[k] = R := ⟨_, rfl⟩
      rw [hR] at hcl hi
      have hqs : q + 1 + 1 ≤ wr.heap.size := by
        have := (Array.getElem?_eq_some_iff.1 HB.out).1
        omega
      have HCL := Lib.hid (fun wy (h : Ext wr wy) => hcl wy (hi.below (HE.out.trans h)) (Nat.le_trans hqs h.size))
      have HH := Lib.hid (show ∃ h1 : k < xs.length, ∃ h2 : k < c.shards.length, c.shards[k] = R from ⟨hkx, hkc, hR⟩)
      have hcc2 : N ≤ k4 := by have := HN.out.1; omega
      have HCELL := Lib.hid hcell
      have hka := cell_of_heap HA.out 2
      simp only [List.getElem?_toArray, List.getElem?_cons_zero, List.getElem?_cons_succ] at hka
      have HQS := Lib.hid hqs
      clear hx hcl hi hR hkx hkc hcc e2 hcell hqs hfz
      go_wp2_with fail
      refine wp_region_tail (by kernel_rfl) 9 Ext (fun iop v w => match iop with
          | 0 => v = .pointer (some ⟨q, 2, none⟩)
          | 1 => v = .slice (some ⟨g, 0, none⟩) N k4
          | 2 => v = .int .i64 (k : Int)
          | 3 => v = .pointer (some ⟨q, 2, none⟩)
          | 4 => v = .slice (some ⟨g, 0, none⟩) N k4
          | 5 => v = .int .i64 (k : Int)
          | 6 => v = .pointer (some ⟨g, k, none⟩)
          | 7 => v = .slice xa xn xc
          | _ => ∃ a n cc, v = .slice a n cc ∧ OwnI w (q + 1 + 1) (.slice a n cc) R
          ) (by kernel_rfl) (by kernel_rfl) (by decide) (fun _ _ _ h k => Ext.trans h k) (fun a => Ext.refl a) (Ext.drew _) ?_ ?_ ?_
      · intro iop v wa wb hF hL
        iterate 8 (rcases iop with _ | iop; exact hF)
        (first | exact hF | (obtain ⟨a, b, c9, h1, h2⟩ := hF; exact ⟨a, b, c9, h1, h2.ext hL⟩))
      · refine Obls.cons ?_ (Obls.cons ?_ (Obls.cons ?_ (Obls.cons ?_ (Obls.cons ?_ (Obls.cons ?_ (Obls.cons ?_ (Obls.cons ?_ (Obls.cons ?_ (Obls.nil)))))))))
        · intro ev wy hp hl hk hd
          have e1 : ev _ = .pointer (some ⟨q, 0, none⟩) := hk 1 (by decide)
          exact Yield.oq (by simp [execOp, go_sem, e1])
        · intro ev wy hp hl hk hd
          have e18 : ev _ = _ := hk 18 (by decide)
          exact Yield.load rfl e18 (by simp [go_sem, cell_of_heap (heap_ext HA.out hl) 2]) ⟨Ext.refl _, rfl⟩
        · intro ev wy hp hl hk hd
          have e3 : ev _ = .int .i64 (k : Int) := hk 3 (by decide)
          exact Yield.mv rfl ⟨Ext.refl _, e3⟩
        · intro ev wy hp hl hk hd
          have e1 : ev _ = .pointer (some ⟨q, 0, none⟩) := hk 1 (by decide)
          exact Yield.oq (by simp [execOp, go_sem, e1])
        · intro ev wy hp hl hk hd
          have e21 : ev _ = _ := hk 21 (by decide)
          exact Yield.load rfl e21 (by simp [go_sem, cell_of_heap (heap_ext HA.out hl) 2]) ⟨Ext.refl _, rfl⟩
        · intro ev wy hp hl hk hd
          have e3 : ev _ = .int .i64 (k : Int) := hk 3 (by decide)
          exact Yield.mv rfl ⟨Ext.refl _, e3⟩
        · intro ev wy hp hl hk hd
          have e22 : ev _ = _ := hk 22 (by decide)
          have e23 : ev _ = _ := hk 23 (by decide)
          exact Yield.op (v := .pointer (some ⟨g, k, none⟩)) (w' := wy) (by simp [execOp, go_sem, e22, e23]; intro hq; omega) ⟨Ext.refl _, rfl⟩
        · intro ev wy hp hl hk hd
          have e24 : ev _ = _ := hk 24 (by decide)
          exact Yield.load rfl e24 (by simp [go_sem, cellExt hl HCELL.out]) ⟨Ext.refl _, rfl⟩
        · intro ev wy hp hl hk hd
          have e25 : ev _ = _ := hk 25 (by decide)
          refine Yield.call rfl hp Try.func47 rfl (by kernel_rfl) ?_
          simp only [List.map_toArray, List.map_cons, List.map_nil, hp.const, e25]
          exact (HCL.out wy hl).mono fun e w' ⟨a, n, cc, he, ho, hE⟩ => ⟨_, he, hE, a, n, cc, rfl, ho⟩
      · intro vals wz hz hv
        have g18 : vals 0 = _ := hv 0 (by decide)
        have g19 : vals 1 = _ := hv 1 (by decide)
        have g20 : vals 2 = _ := hv 2 (by decide)
        have g21 : vals 3 = _ := hv 3 (by decide)
        have g22 : vals 4 = _ := hv 4 (by decide)
        have g23 : vals 5 = _ := hv 5 (by decide)
        have g24 : vals 6 = _ := hv 6 (by decide)
        have g25 : vals 7 = _ := hv 7 (by decide)
        have g26 : (fun (v : Value) (w : World) => ∃ a n cc, v = .slice a n cc ∧ OwnI w (q + 1 + 1) (.slice a n cc) R) (vals 8) wz := hv 8 (by decide)
        clear hv
        simp only [List.take_succ_cons, List.take_zero, List.drop_succ_cons, List.drop_zero]
        simp only [putAll, Act.put, List.setIfInBounds_toArray, List.set_cons_zero, List.set_cons_succ, g18, g19, g20, g21, g22, g23, g24, g25]
        clear g18 g19 g20 g21 g22 g23 g24 g25
        generalize vals 8 = v26 at *
        obtain ⟨ua, un, uc, rfl, hu⟩ := g26
        obtain ⟨hkx, hkc, hR⟩ := HH.out
        rw [← hR] at hu
        have hM := HM.out.ext hz
        obtain ⟨hM2, hge, _⟩ := hM.next hkx hkc hu
        obtain ⟨g', cc', e9, hcell', hfz', _⟩ := hM.rest hkx
        have eg : g = g' := by
          injection e9 with e1 _ _
          injection e1 with e1
          injection e1 with e1
        subst eg
        obtain ⟨z9, hz9⟩ : ∃ z, xs[k] = z := ⟨_, rfl⟩
        rw [hz9] at hcell'
        clear e9 hz9
        obtain ⟨w6, hw6⟩ : ∃ z, wz.setCell ⟨g, k, none⟩ (.slice ua un uc) = z := ⟨_, rfl⟩
        have hBt : But g wz w6 := by rw [← hw6]; exact butSet _ _ _ _
        obtain ⟨cs, hcs⟩ : ∃ cs, wz.heap[g]? = some (.cells cs 22 (0, 0)) := by
          obtain ⟨ys, h1, _⟩ := hM
          exact ownAt h1 rfl
        have HA6 := Lib.hid ((hBt.block q (by have := hz.size; have := HQS.out; omega) (by omega)).trans (heap_ext HA.out hz))
        have HB6 := Lib.hid ((hBt.block (q + 1) (by have := hz.size; have := HQS.out; omega) (by omega)).trans (heap_ext HB.out hz))
        have HO6 := Lib.hid ((HO.out.ext hz).but hcs (by decide) hBt)
        have HE6 := Lib.hid (show Ext w w6 from Below.trans (B := w.heap.size) (HE.out.trans hz) (hBt.below (by have := HW0.out.1; omega) (HE.out.trans hz).size))
        rw [hw6] at hM2
        have HM6 := Lib.hid hM2
        have HW6 := Lib.hid hw6
        clear hw6 hBt hM hM2 hu hcs hka hz hge hR hkx hkc
        go_wp2_with fail
        rw [HW6.out]
        go_roundw
        case rel => exact ⟨k + 1, by omega, by simp, HM6, HA6, HB6, HO6, HE6⟩
        case measure => simp [intOf]; omega
    · have hkN : k = N := by omega
      subst hkN
      have j0 := cell_of_heap HA.out 0
      have j1 := cell_of_heap HA.out 1
      have j2 := cell_of_heap HA.out 2
      have b0 := cell_of_heap HB.out 0
      have b1 := cell_of_heap HB.out 1
      have b2 := cell_of_heap HB.out 2
      have fb := fun i => frozen_of_heap HB.out i
      simp only [List.getElem?_toArray, List.getElem?_cons_zero, List.getElem?_cons_succ] at j0 j1 j2 b0 b1 b2
      go_wp2_with fail
      obtain ⟨w5, hw5⟩ : ∃ w5, ((wr.setCell ⟨q + 1, 0, none⟩ (.int .i64 t)).setCell ⟨q + 1, 1, none⟩ (.slice a2 n2 k2)).setCell ⟨q + 1, 2, none⟩ (.slice a4 k k4) = w5 := ⟨_, rfl⟩
      have hBt : But (q + 1) wr w5 := by
        rw [← hw5]
        exact (((But.refl _ _).setCell 0 none _).setCell 1 none _).setCell 2 none _
      have hB5 : w5.heap[q + 1]? = some (.cells #[.int .i64 t, .slice a2 n2 k2, .slice a4 k k4] 33 (0, 0)) := by
        rw [← hw5]
        exact heap_setCell (heap_setCell (heap_setCell HB.out 0 _) 1 _) 2 _
      have m0 := cell_of_heap hB5 0
      have m1 := cell_of_heap hB5 1
      have m2 := cell_of_heap hB5 2
      simp at m0 m1 m2
      rw [hw5]
      refine bodyPost_ret (v := confV t (.slice a2 n2 k2) (.slice a4 k k4)) (by simp [results, Try.results23, go_sem, m0, m1, m2, confV]) rfl ?_
      refine ⟨_, _, by rw [HT.out], ?_, ?_, ?_⟩
      · exact rowLower (HO.out.but HB.out (by decide) hBt) (by have := HW0.out.1; omega)
      · have hd := HM.out.done HN.out.2 (by have := HN.out; omega)
        exact (hd.but HB.out (by decide) (by decide) hBt).lower (by have := HW0.out.1; omega)
      · exact Below.trans (B := w.heap.size) HE.out (hBt.below (by have := HW0.out.1; omega) HE.out.size)
end Go.Proofs.Ytkpcmedmiiohnaa
