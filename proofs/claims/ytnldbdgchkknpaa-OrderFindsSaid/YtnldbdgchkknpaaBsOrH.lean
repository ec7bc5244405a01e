/-
  Merged: Layer 15, the program: Find.
-/
import Derived.Test.YtnldbdgchkknpaaBsOrG

namespace Go.Proofs.Ytnldbdgchkknpaa
set_option linter.unusedSimpArgs false
set_option linter.unusedVariables false
set_option maxRecDepth 100000
open Go.RowKit Go.Shelf
/- Layer 15, the program: Find. -/
attribute [local go_sem] Oper.semAt_some

/-- What Find tells of a place. -/
def Ord.FindIs (cs : List (List Int)) (s l k : Int) : Bool → Prop
  | true => ∃ i : Nat, k = (i : Int) ∧ (Ord.rows cs)[i]? = some (s, l)
  | false => k = 0 ∧ ∀ i : Nat, (Ord.rows cs)[i]? ≠ some (s, l)
def GivesFind15 (cs : List (List Int)) (s l : Int) (w : World) (e : Ending) (w' : World) : Prop :=
  ∃ k is, e = .returned (.tuple #[.int .i64 k, .bool is]) ∧ Ord.FindIs cs s l k is ∧ Ext w w'
/-- What is known of a record that is there. -/
theorem Ord.Ok.known {sh : Nat} {cs : List (List Int)} (h : Ord.Ok sh cs) (i : Nat) (s l : Int) (hi : (Ord.rows cs)[i]? = some (s, l)) :
    ∃ (n t : Nat) (hn : n + 1 < cs.length) (ht : t < sh), s = (t : Int) ∧ (cs[n][t]'(by rw [h.len]; exact ht)) ≤ l ∧ l < (cs[n + 1][t]'(by rw [h.len]; exact ht)) := by
  obtain ⟨hi', _⟩ := List.getElem?_eq_some_iff.1 hi
  obtain ⟨n, t, j, hn, ht, e, hj⟩ := h.parts i hi'
  rw [h.get n t hn ht i j e hj] at hi
  simp only [Option.some.injEq, Prod.mk.injEq] at hi
  exact ⟨n, t, hn, ht, hi.1.symm, by omega, by omega⟩
theorem Ord.Ok.zero_at {sh : Nat} {cs : List (List Int)} (h : Ord.Ok sh cs) (t : Nat) (ht : t < sh) : ((cs[0]'h.pos)[t]'(by rw [h.len]; exact ht)) = 0 := by
  have e := h.first
  have : ∀ (c : List Int) (hc : t < c.length), c = List.replicate sh 0 → c[t] = 0 := by
    rintro c hc rfl
    simp
  exact this _ _ e
theorem Ord.find_none {sh : Nat} {cs : List (List Int)} (h : Ord.Ok sh cs) (t : Nat) (ht : t < sh) (l : Int) (m : Nat) (hm : m ≤ cs.length) (h1 : ∀ k, k < m → decide (l < (cs.getD k []).getD t 0) = false) (h2 : ∀ k, m ≤ k → k < cs.length → decide (l < (cs.getD k []).getD t 0) = true) (hout : decide (0 < m ∧ m < cs.length) = false) : ∀ i : Nat, (Ord.rows cs)[i]? ≠ some ((t : Int), l) := by
  intro i hi
  obtain ⟨n, t', hn, ht', e, ha, hb⟩ := h.known i _ l hi
  obtain rfl : t = t' := by omega
  have key : ∀ k (hk : k < cs.length), (cs.getD k []).getD t 0 = cs[k][t]'(by rw [h.len]; exact ht) := fun k hk => by
    simp only [List.getD_eq_getElem?_getD, List.getElem?_eq_getElem hk, Option.getD_some]
    rw [List.getElem?_eq_getElem (by rw [h.len]; exact ht)]
    rfl
  have hp := h.pos
  have h5 := of_decide_eq_false hout
  rcases Nat.eq_zero_or_pos m with h0 | h0
  · have h3 := h2 0 (by omega) hp
    rw [key 0 hp, h.zero_at t ht, decide_eq_true_eq] at h3
    have h4 := (h.le 0 n hp (by omega) (Nat.zero_le _)).2 t (by rw [h.len]; exact ht) (by rw [h.len]; exact ht)
    rw [h.zero_at t ht] at h4
    omega
  · have h3 := h1 (cs.length - 1) (by omega)
    rw [key _ (by omega), decide_eq_false_iff_not] at h3
    have h4 := (h.le (n + 1) (cs.length - 1) hn (by omega) (by omega)).2 t (by rw [h.len]; exact ht) (by rw [h.len]; exact ht)
    omega
theorem Ord.find_math {sh : Nat} {cs : List (List Int)} (h : Ord.Ok sh cs) (k : Nat) (hk : k + 1 < cs.length) (t : Nat) (ht : t < sh) (l : Int) (h1 : decide (l < (cs.getD k []).getD t 0) = false) (h2 : decide (l < (cs.getD (k + 1) []).getD t 0) = true) :
    Ord.FindIs cs t l (Ord.start cs k t + l - Ord.base cs k t) true ∧ 0 ≤ l ∧ l ≤ 1099511627776 := by
  have key : ∀ k (hk : k < cs.length), (cs.getD k []).getD t 0 = cs[k][t]'(by rw [h.len]; exact ht) := fun k hk => by
    simp only [List.getD_eq_getElem?_getD, List.getElem?_eq_getElem hk, Option.getD_some]
    rw [List.getElem?_eq_getElem (by rw [h.len]; exact ht)]
    rfl
  rw [key k (by omega), decide_eq_false_iff_not] at h1
  rw [key (k + 1) hk, decide_eq_true_eq] at h2
  have hb := Ord.base_is h k t hk ht
  have hb0 := (Ord.base_any h k t hk).1
  have hs0 := (Ord.start_any h k t hk).1
  have hg := h.get k t hk ht (Ord.start cs k t + l - Ord.base cs k t).toNat (l - Ord.base cs k t).toNat (by rw [← Ord.start_is h k t hk]; omega) (by omega)
  refine ⟨⟨(Ord.start cs k t + l - Ord.base cs k t).toNat, by omega, ?_⟩, by omega, ?_⟩
  · rw [hg]
    congr 2
    omega
  · have := ((Vec.right_ok (h.right _ (List.getElem_mem hk))).1 _ (List.getElem_mem (show t < cs[k + 1].length by rw [h.len]; exact ht))).2
    omega
/-- Within the range. -/
structure InFind (w : World) (s l : Int) (q r : Nat) (res : Int) (W : World) : Prop where
  bl : Below w.heap.size w W
  place : W.heap[q]? = some (.cells #[.int .i64 s, .int .i64 l] 36 (0, 0))
  res : W.heap[r]? = some (.cells #[.int .i64 res] 3 (0, 0))
theorem InFind.own (w : World) (s l : Int) (q r B : Nat) (hB : w.heap.size ≤ B) {β : Type} (f : β → Int) : OwnFrom B (fun (b : β) W => InFind w s l q r (f b) W) := fun b W W' row h hg hr =>
  ⟨h.bl.grown hg (by have := h.bl.size; omega) (fun k e => by have := (hr k e).1; omega), cellsKept15 hg (fun r e => (hr r e).2) h.place, cellsKept15 hg (fun r e => (hr r e).2) h.res⟩

set_option maxHeartbeats 4000000 in
theorem find15_any {w : World} {B p : Nat} {cs : List (List Int)} (s l : Int) (h : IsOrd w B p cs) (hlong : cs.length ≤ 4398046511106) :
    Calls Try.prog 11 #[.pointer (some ⟨p, 0, none⟩), .agg #[.int .i64 s, .int .i64 l]] w (GivesFind15 cs s l w) := by
  obtain ⟨sh, ho⟩ := h.ok
  have HO := Lib.hid ho
  have HH := Lib.hid h
  obtain ⟨q, hq⟩ : ∃ q, w.heap.size = q := ⟨_, rfl⟩
  obtain ⟨w1, hw1⟩ : ∃ z, w.alloc (.cells #[.int .i64 s, .int .i64 l] 36) = z := ⟨_, rfl⟩
  have hE1 : Ext w w1 := by rw [← hw1]; exact Ext.alloc _ _
  have hB1 : w1.heap[q]? = some (.cells #[.int .i64 s, .int .i64 l] 36 (0, 0)) := by rw [← hw1, ← hq]; exact heap_alloc_new _ _
  have HQ := Lib.hid (And.intro hq hw1)
  have HX := Lib.hid (And.intro hE1 hB1)
  have HI := Lib.hid (h.ext HX.out.1)
  have hlen := ho.last_len
  have HLA := Lib.hid (fun (wy : World) (hy : Ext w1 wy) => (last15_any (HI.out.ext hy)).mono fun e w' ⟨u, q1, q2, q3⟩ => (⟨u, q1, q3, by
    obtain ⟨a, c, e, _⟩ := q2.ints.open
    rw [hlen] at e
    exact ⟨a, c, e⟩⟩ : ∃ u, e = Ending.returned u ∧ Ext wy w' ∧ (∃ a c, u = Value.slice a sh c)))
  have HL := Lib.hid hlong
  clear hq hw1 hE1 hB1 h ho hlong hlen
  refine (callsIn_wide (n := 3)).1 ?_
  refine callsIn_of_wp_marks Try.func11 rfl trivial ?_ rfl
  refine wpIn_wide.2 ?_
  simp only [Try.ntmps11, List.size_toArray, List.length_cons, List.length_nil, Nat.reduceAdd, Nat.reduceSub, Array.replicate_succ, Array.replicate_zero, List.push_toArray, List.append_toArray, List.nil_append, List.cons_append]
  go_upto_region 1 with fail
  rw [HQ.out.1, HQ.out.2]
  by_cases hneg : s < 0
  · have hcase := True.intro
    refine wp_region_facts (by kernel_rfl) Ext (fun iop v w => match iop with
        | 0 => v = .pointer (some ⟨q, 0, none⟩)
        | 1 => v = .int .i64 s
        | 2 => v = .bool true
        | 3 => v = .bool true
        | 4 => v = undef
        | 5 => v = undef
        | 6 => v = undef
        | 7 => v = undef
        | 8 => v = undef
        | 9 => v = undef
        | _ => v = .bool true
        ) (by kernel_rfl) (fun _ _ _ h k => Ext.trans h k) (fun a => Ext.refl a) (Ext.drew _) ?_ ?_ ?_
    · intro iop v wa wb hF hL
      iterate 10 (rcases iop with _ | iop; exact hF)
      exact hF
    · refine Obls.cons ?_ (Obls.cons ?_ (Obls.cons ?_ (Obls.cons ?_ (Obls.cons ?_ (Obls.cons ?_ (Obls.cons ?_ (Obls.cons ?_ (Obls.cons ?_ (Obls.cons ?_ (Obls.cons ?_ (Obls.nil)))))))))))
      · intro ev wy hp hl hk hd
        have e3 : ev _ = .pointer (some ⟨q, 0, none⟩) := hk 3 (by decide)
        exact Yield.oq (by simp [execOp, go_sem, e3])
      · intro ev wy hp hl hk hd
        have e11 : ev _ = _ := hk 11 (by decide)
        exact Yield.op (v := .int .i64 s) (w' := wy) (by simp [execOp, go_sem, e11, cell_of_heap (heap_ext HX.out.2 hl) 0]) ⟨Ext.refl _, rfl⟩
      · intro ev wy hp hl hk hd
        have e12 : ev _ = _ := hk 12 (by decide)
        exact Yield.op (v := .bool true) (w' := wy) (by simp [execOp, go_sem, e12, hp.const, hneg]) ⟨Ext.refl _, rfl⟩
      · intro ev wy hp hl hk hd
        have e13 : ev _ = _ := hk 13 (by decide)
        exact Yield.mv rfl ⟨Ext.refl _, e13⟩
      · intro ev wy hp hl hk hd
        have e3 : ev _ = .pointer (some ⟨q, 0, none⟩) := hk 3 (by decide)
        exact ⟨fun x hx he => (by rw [show x = .bool true from hx] at he; cases he), fun _ _ _ => rfl⟩
      · intro ev wy hp hl hk hd
        have e15 : ev _ = _ := hk 15 (by decide)
        exact ⟨fun x hx he => (by rw [show x = .bool true from hx] at he; cases he), fun _ _ _ => rfl⟩
      · intro ev wy hp hl hk hd
        have e0 : ev _ = .pointer (some ⟨p, 0, none⟩) := hk 0 (by decide)
        exact ⟨fun x hx he => (by rw [show x = .bool true from hx] at he; cases he), fun _ _ _ => rfl⟩
      · intro ev wy hp hl hk hd
        have e17 : ev _ = _ := hk 17 (by decide)
        exact ⟨fun x hx he => (by rw [show x = .bool true from hx] at he; cases he), fun _ _ _ => rfl⟩
      · intro ev wy hp hl hk hd
        have e18 : ev _ = _ := hk 18 (by decide)
        exact ⟨fun x hx he => (by rw [show x = .bool true from hx] at he; cases he), fun _ _ _ => rfl⟩
      · intro ev wy hp hl hk hd
        have e16 : ev _ = _ := hk 16 (by decide)
        have e19 : ev _ = _ := hk 19 (by decide)
        exact ⟨fun x hx he => (by rw [show x = .bool true from hx] at he; cases he), fun _ _ _ => rfl⟩
      · intro ev wy hp hl hk hd
        have e14 : ev _ = _ := hk 14 (by decide)
        have e20 : ev _ = _ := hk 20 (by decide)
        exact Yield.pick (t := true) rfl e14 ⟨Ext.refl _, hp.const _⟩
    · intro vals wz hz hv
      have g11 : vals 0 = _ := hv 0 (by decide)
      have g12 : vals 1 = _ := hv 1 (by decide)
      have g13 : vals 2 = _ := hv 2 (by decide)
      have g14 : vals 3 = _ := hv 3 (by decide)
      have g15 : vals 4 = _ := hv 4 (by decide)
      have g16 : vals 5 = _ := hv 5 (by decide)
      have g17 : vals 6 = _ := hv 6 (by decide)
      have g18 : vals 7 = _ := hv 7 (by decide)
      have g19 : vals 8 = _ := hv 8 (by decide)
      have g20 : vals 9 = _ := hv 9 (by decide)
      have g21 : vals 10 = _ := hv 10 (by decide)
      clear hv
      simp only [putAll, Act.put, List.setIfInBounds_toArray, List.set_cons_zero, List.set_cons_succ, g11, g12, g13, g14, g15, g16, g17, g18, g19, g20, g21]
      clear g11 g12 g13 g14 g15 g16 g17 g18 g19 g20 g21
      go_wp2_with fail
      refine ⟨_, results_tmp2 rfl _ _ _, 0, false, rfl, ⟨rfl, fun i hi => ?_⟩, HX.out.1.trans hz⟩
      obtain ⟨n, t, _, _, e, _⟩ := HO.out.known i s l hi
      omega
  obtain ⟨t, rfl⟩ : ∃ t : Nat, s = (t : Int) := ⟨s.toNat, by omega⟩
  by_cases ht : sh ≤ t
  · have hcase := True.intro
    refine wp_region_facts (by kernel_rfl) Ext (fun iop v w => match iop with
        | 0 => v = .pointer (some ⟨q, 0, none⟩)
        | 1 => v = .int .i64 (t : Nat)
        | 2 => v = .bool false
        | 3 => v = .bool false
        | 4 => v = .pointer (some ⟨q, 0, none⟩)
        | 5 => v = .int .i64 (t : Nat)
        | 6 => v = .pointer (some ⟨p, 0, none⟩)
        | 7 => ∃ a c, v = .slice a sh c
        | 8 => v = .int .i64 (sh : Nat)
        | 9 => v = .bool true
        | _ => v = .bool true
        ) (by kernel_rfl) (fun _ _ _ h k => Ext.trans h k) (fun a => Ext.refl a) (Ext.drew _) ?_ ?_ ?_
    · intro iop v wa wb hF hL
      iterate 7 (rcases iop with _ | iop; exact hF)
      rcases iop with _ | iop; (first | exact hF | assumption)
      iterate 2 (rcases iop with _ | iop; exact hF)
      exact hF
    · refine Obls.cons ?_ (Obls.cons ?_ (Obls.cons ?_ (Obls.cons ?_ (Obls.cons ?_ (Obls.cons ?_ (Obls.cons ?_ (Obls.cons ?_ (Obls.cons ?_ (Obls.cons ?_ (Obls.cons ?_ (Obls.nil)))))))))))
      · intro ev wy hp hl hk hd
        have e3 : ev _ = .pointer (some ⟨q, 0, none⟩) := hk 3 (by decide)
        exact Yield.oq (by simp [execOp, go_sem, e3])
      · intro ev wy hp hl hk hd
        have e11 : ev _ = _ := hk 11 (by decide)
        exact Yield.op (v := .int .i64 (t : Nat)) (w' := wy) (by simp [execOp, go_sem, e11, cell_of_heap (heap_ext HX.out.2 hl) 0]) ⟨Ext.refl _, rfl⟩
      · intro ev wy hp hl hk hd
        have e12 : ev _ = _ := hk 12 (by decide)
        exact Yield.op (v := .bool false) (w' := wy) (by simp [execOp, go_sem, e12, hp.const]) ⟨Ext.refl _, rfl⟩
      · intro ev wy hp hl hk hd
        have e13 : ev _ = _ := hk 13 (by decide)
        exact Yield.mv rfl ⟨Ext.refl _, e13⟩
      · intro ev wy hp hl hk hd
        have e3 : ev _ = .pointer (some ⟨q, 0, none⟩) := hk 3 (by decide)
        refine ⟨fun _ _ _ => ?_, fun _ hx hne => absurd hx hne⟩
        exact Yield.op (v := .pointer (some ⟨q, 0, none⟩)) (w' := wy) (by simp [execOp, go_sem, e3]) ⟨Ext.refl _, rfl⟩
      · intro ev wy hp hl hk hd
        have e15 : ev _ = _ := hk 15 (by decide)
        refine ⟨fun _ _ _ => ?_, fun _ hx hne => absurd hx hne⟩
        exact Yield.op (v := .int .i64 (t : Nat)) (w' := wy) (by simp [execOp, go_sem, e15, cell_of_heap (heap_ext HX.out.2 hl) 0]) ⟨Ext.refl _, rfl⟩
      · intro ev wy hp hl hk hd
        have e0 : ev _ = .pointer (some ⟨p, 0, none⟩) := hk 0 (by decide)
        refine ⟨fun _ _ _ => ?_, fun _ hx hne => absurd hx hne⟩
        exact Yield.mv rfl ⟨Ext.refl _, e0⟩
      · intro ev wy hp hl hk hd
        have e17 : ev _ = _ := hk 17 (by decide)
        refine ⟨fun _ _ _ => ?_, fun _ hx hne => absurd hx hne⟩
        refine Yield.call rfl hp Try.func23 rfl (by kernel_rfl) ?_
        simp only [List.map_toArray, List.map_cons, List.map_nil, e17]
        exact (HLA.out wy hl).mono fun _ _ ⟨u, he, hb, hu⟩ => ⟨u, he, hb, hu⟩
      · intro ev wy hp hl hk hd
        have f18 : (fun (v : Value) (w : World) => ∃ a c, v = .slice a sh c) (ev (.tmp 18)) wy := hk 18 (by decide)
        generalize hx18 : ev (.tmp 18) = x18 at *
        refine ⟨fun _ _ _ => ?_, fun _ hx hne => absurd hx hne⟩
        obtain ⟨a8, c8, hv18⟩ := f18
        exact Yield.op (v := .int .i64 (sh : Nat)) (w' := wy) (by simp [execOp, go_sem, hx18, hv18]) ⟨Ext.refl _, rfl⟩
      · intro ev wy hp hl hk hd
        have e16 : ev _ = _ := hk 16 (by decide)
        have e19 : ev _ = _ := hk 19 (by decide)
        refine ⟨fun _ _ _ => ?_, fun _ hx hne => absurd hx hne⟩
        exact Yield.op (v := .bool true) (w' := wy) (by simp [execOp, go_sem, e16, e19, ht]) ⟨Ext.refl _, rfl⟩
      · intro ev wy hp hl hk hd
        have e14 : ev _ = _ := hk 14 (by decide)
        have e20 : ev _ = _ := hk 20 (by decide)
        exact Yield.pick (t := false) rfl e14 ⟨Ext.refl _, e20⟩
    · intro vals wz hz hv
      have g11 : vals 0 = _ := hv 0 (by decide)
      have g12 : vals 1 = _ := hv 1 (by decide)
      have g13 : vals 2 = _ := hv 2 (by decide)
      have g14 : vals 3 = _ := hv 3 (by decide)
      have g15 : vals 4 = _ := hv 4 (by decide)
      have g16 : vals 5 = _ := hv 5 (by decide)
      have g17 : vals 6 = _ := hv 6 (by decide)
      have g18 : (fun (v : Value) (w : World) => ∃ a c, v = .slice a sh c) (vals 7) wz := hv 7 (by decide)
      have g19 : vals 8 = _ := hv 8 (by decide)
      have g20 : vals 9 = _ := hv 9 (by decide)
      have g21 : vals 10 = _ := hv 10 (by decide)
      clear hv
      simp only [putAll, Act.put, List.setIfInBounds_toArray, List.set_cons_zero, List.set_cons_succ, g11, g12, g13, g14, g15, g16, g17, g19, g20, g21]
      clear g11 g12 g13 g14 g15 g16 g17 g19 g20 g21
      generalize vals 7 = v18 at *
      go_wp2_with fail
      refine ⟨_, results_tmp2 rfl _ _ _, 0, false, rfl, ⟨rfl, fun i hi => ?_⟩, HX.out.1.trans hz⟩
      obtain ⟨n, t, _, _, e, _⟩ := HO.out.known i _ l hi
      omega
  have htl : t < sh := by omega
  refine wp_region_facts (by kernel_rfl) Ext (fun iop v w => match iop with
      | 0 => v = .pointer (some ⟨q, 0, none⟩)
      | 1 => v = .int .i64 (t : Nat)
      | 2 => v = .bool false
      | 3 => v = .bool false
      | 4 => v = .pointer (some ⟨q, 0, none⟩)
      | 5 => v = .int .i64 (t : Nat)
      | 6 => v = .pointer (some ⟨p, 0, none⟩)
      | 7 => ∃ a c, v = .slice a sh c
      | 8 => v = .int .i64 (sh : Nat)
      | 9 => v = .bool false
      | _ => v = .bool false
      ) (by kernel_rfl) (fun _ _ _ h k => Ext.trans h k) (fun a => Ext.refl a) (Ext.drew _) ?_ ?_ ?_
  · intro iop v wa wb hF hL
    iterate 7 (rcases iop with _ | iop; exact hF)
    rcases iop with _ | iop; (first | exact hF | assumption)
    iterate 2 (rcases iop with _ | iop; exact hF)
    exact hF
  · refine Obls.cons ?_ (Obls.cons ?_ (Obls.cons ?_ (Obls.cons ?_ (Obls.cons ?_ (Obls.cons ?_ (Obls.cons ?_ (Obls.cons ?_ (Obls.cons ?_ (Obls.cons ?_ (Obls.cons ?_ (Obls.nil)))))))))))
    · intro ev wy hp hl hk hd
      have e3 : ev _ = .pointer (some ⟨q, 0, none⟩) := hk 3 (by decide)
      exact Yield.oq (by simp [execOp, go_sem, e3])
    · intro ev wy hp hl hk hd
      have e11 : ev _ = _ := hk 11 (by decide)
      exact Yield.op (v := .int .i64 (t : Nat)) (w' := wy) (by simp [execOp, go_sem, e11, cell_of_heap (heap_ext HX.out.2 hl) 0]) ⟨Ext.refl _, rfl⟩
    · intro ev wy hp hl hk hd
      have e12 : ev _ = _ := hk 12 (by decide)
      exact Yield.op (v := .bool false) (w' := wy) (by simp [execOp, go_sem, e12, hp.const]) ⟨Ext.refl _, rfl⟩
    · intro ev wy hp hl hk hd
      have e13 : ev _ = _ := hk 13 (by decide)
      exact Yield.mv rfl ⟨Ext.refl _, e13⟩
    · intro ev wy hp hl hk hd
      have e3 : ev _ = .pointer (some ⟨q, 0, none⟩) := hk 3 (by decide)
      refine ⟨fun _ _ _ => ?_, fun _ hx hne => absurd hx hne⟩
      exact Yield.op (v := .pointer (some ⟨q, 0, none⟩)) (w' := wy) (by simp [execOp, go_sem, e3]) ⟨Ext.refl _, rfl⟩
    · intro ev wy hp hl hk hd
      have e15 : ev _ = _ := hk 15 (by decide)
      refine ⟨fun _ _ _ => ?_, fun _ hx hne => absurd hx hne⟩
      exact Yield.op (v := .int .i64 (t : Nat)) (w' := wy) (by simp [execOp, go_sem, e15, cell_of_heap (heap_ext HX.out.2 hl) 0]) ⟨Ext.refl _, rfl⟩
    · intro ev wy hp hl hk hd
      have e0 : ev _ = .pointer (some ⟨p, 0, none⟩) := hk 0 (by decide)
      refine ⟨fun _ _ _ => ?_, fun _ hx hne => absurd hx hne⟩
      exact Yield.mv rfl ⟨Ext.refl _, e0⟩
    · intro ev wy hp hl hk hd
      have e17 : ev _ = _ := hk 17 (by decide)
      refine ⟨fun _ _ _ => ?_, fun _ hx hne => absurd hx hne⟩
      refine Yield.call rfl hp Try.func23 rfl (by kernel_rfl) ?_
      simp only [List.map_toArray, List.map_cons, List.map_nil, e17]
      exact (HLA.out wy hl).mono fun _ _ ⟨u, he, hb, hu⟩ => ⟨u, he, hb, hu⟩
    · intro ev wy hp hl hk hd
      have f18 : (fun (v : Value) (w : World) => ∃ a c, v = .slice a sh c) (ev (.tmp 18)) wy := hk 18 (by decide)
      generalize hx18 : ev (.tmp 18) = x18 at *
      refine ⟨fun _ _ _ => ?_, fun _ hx hne => absurd hx hne⟩
      obtain ⟨a8, c8, hv18⟩ := f18
      exact Yield.op (v := .int .i64 (sh : Nat)) (w' := wy) (by simp [execOp, go_sem, hx18, hv18]) ⟨Ext.refl _, rfl⟩
    · intro ev wy hp hl hk hd
      have e16 : ev _ = _ := hk 16 (by decide)
      have e19 : ev _ = _ := hk 19 (by decide)
      refine ⟨fun _ _ _ => ?_, fun _ hx hne => absurd hx hne⟩
      exact Yield.op (v := .bool false) (w' := wy) (by simp [execOp, go_sem, e16, e19, ht]) ⟨Ext.refl _, rfl⟩
    · intro ev wy hp hl hk hd
      have e14 : ev _ = _ := hk 14 (by decide)
      have e20 : ev _ = _ := hk 20 (by decide)
      exact Yield.pick (t := false) rfl e14 ⟨Ext.refl _, e20⟩
  · intro vals wz hz hv
    have g11 : vals 0 = _ := hv 0 (by decide)
    have g12 : vals 1 = _ := hv 1 (by decide)
    have g13 : vals 2 = _ := hv 2 (by decide)
    have g14 : vals 3 = _ := hv 3 (by decide)
    have g15 : vals 4 = _ := hv 4 (by decide)
    have g16 : vals 5 = _ := hv 5 (by decide)
    have g17 : vals 6 = _ := hv 6 (by decide)
    have g18 : (fun (v : Value) (w : World) => ∃ a c, v = .slice a sh c) (vals 7) wz := hv 7 (by decide)
    have g19 : vals 8 = _ := hv 8 (by decide)
    have g20 : vals 9 = _ := hv 9 (by decide)
    have g21 : vals 10 = _ := hv 10 (by decide)
    clear hv
    simp only [putAll, Act.put, List.setIfInBounds_toArray, List.set_cons_zero, List.set_cons_succ, g11, g12, g13, g14, g15, g16, g17, g19, g20, g21]
    clear g11 g12 g13 g14 g15 g16 g17 g19 g20 g21
    generalize vals 7 = v18 at *
    obtain ⟨w2, hw2⟩ : ∃ z, z = wz := ⟨_, rfl⟩
    subst hw2
    have HE2 := Lib.hid (HX.out.1.trans hz)
    have HB2 := Lib.hid (heap_ext HX.out.2 hz)
    have hq0 : w2.cell? ⟨q, 0, none⟩ = some (.int .i64 (t : Nat)) := by rw [cell_of_heap HB2.out 0]; rfl
    have hq1 : w2.cell? ⟨q, 1, none⟩ = some (.int .i64 l) := by rw [cell_of_heap HB2.out 1]; rfl
    have HQC := Lib.hid (And.intro hq0 hq1)
    have HBR := Lib.hid (bringer15_any (F := 25) Try.func25 rfl (by kernel_rfl) (HH.out.ext HE2.out) HL.out q (fun k => decide (l < (cs.getD k []).getD t 0)) (fun i j hij hj hi => by
        have := (HO.out.le i j (by omega) hj hij).2 t (by rw [HO.out.len]; exact htl) (by rw [HO.out.len]; exact htl)
        simp only [List.getD_eq_getElem?_getD, List.getElem?_eq_getElem hj, List.getElem?_eq_getElem (show i < cs.length by omega), Option.getD_some, decide_eq_true_eq] at hi ⊢
        rw [List.getElem?_eq_getElem (by rw [HO.out.len]; exact htl), Option.getD_some] at hi ⊢
        omega) (Lib.hid fun wy hy k hk a n c hi => by
        have htk : t < cs[k].length := by rw [HO.out.len]; exact htl
        have := findFn15_any (.slice a n c) cs[k] t htk l q wy hi (cellExt15 HQC.out.1 hy) (cellExt15 HQC.out.2 hy)
        simp only [List.getD_eq_getElem?_getD, List.getElem?_eq_getElem hk, Option.getD_some, List.getElem?_eq_getElem htk]
        exact this))
    clear hz hq0 hq1
    go_wp2_with fail
    refine HBR.out.mono ?_
    rintro e w3 ⟨m, rfl, hm, hlo, hhi, hE3⟩
    have HM := Lib.hid (And.intro hm (And.intro hlo hhi))
    have HE3 := Lib.hid (HE2.out.trans hE3)
    have HB3 := Lib.hid (heap_ext HB2.out hE3)
    clear hm hlo hhi hE3
    obtain ⟨is, his⟩ : ∃ z, decide (0 < m ∧ m < cs.length) = z := ⟨_, rfl⟩
    rw [his]
    have HIS := Lib.hid his
    clear his
    cases is with
    | false =>
      go_wp2_with fail
      refine ⟨_, results_tmp2 rfl _ _ _, 0, false, rfl, ⟨rfl, ?_⟩, HE3.out⟩
      exact Ord.find_none HO.out t htl l m HM.out.1 HM.out.2.1 HM.out.2.2 HIS.out
    | true =>
      obtain ⟨k, rfl⟩ : ∃ k, m = k + 1 := ⟨m - 1, by have := (of_decide_eq_true HIS.out).1; omega⟩
      have hk := (of_decide_eq_true HIS.out).2
      have HK := Lib.hid hk
      have HB := Lib.hid (Ord.find_math HO.out k hk t htl l (HM.out.2.1 k (by omega)) (HM.out.2.2 (k + 1) (by omega) hk))
      clear hk
      go_upto_region 7 with fail
      obtain ⟨r, hr⟩ : ∃ z, w3.heap.size = z := ⟨_, rfl⟩
      obtain ⟨w4, hw4⟩ : ∃ z, w3.alloc (.cells #[.int .i64 0] 3) = z := ⟨_, rfl⟩
      have hE4 : Ext w3 w4 := by rw [← hw4]; exact Ext.alloc _ _
      have hB4 : w4.heap[r]? = some (.cells #[.int .i64 0] 3 (0, 0)) := by rw [← hw4, ← hr]; exact heap_alloc_new _ _
      rw [hr, hw4]
      have hrq : q < r := by rw [← hr]; exact (Array.getElem?_eq_some_iff.1 HB3.out).1
      clear hr hw4
      go_wp2_with fail
      have hbr := brought15_any p (k + 1) w4
      refine hbr.mono ?_
      rintro e w5 ⟨b1, b2, rfl, hE5, hb1, hb2⟩
      have HE5 := Lib.hid (HE3.out.trans (hE4.trans hE5))
      have HB5 := Lib.hid (And.intro (heap_ext HB3.out (hE4.trans hE5)) (heap_ext hB4 hE5))
      have hst := brought_stops (3 - 1) (by omega) b1 b2 k B p sh cs w w5 HH.out HO.out HK.out HL.out HE5.out hb1 hb2
      have HST := Lib.hid hst
      clear hE4 hB4 hbr hE5 hb1 hb2 hst
      go_wp2_with fail
      refine (wpIn_wide (n := 3)).1 ?_
      have hsz5 : w.heap.size ≤ w5.heap.size := HE5.out.size
      have hqw : w.heap.size = q := HQ.out.1
      have hrl : r < w5.heap.size := (Array.getElem?_eq_some_iff.1 HB5.out.2).1
      refine wpIn_rangeAlloc (n := 3) rfl (by omega) (gf := 36) (lb := #[.pointer (some ⟨b1, 0, none⟩), .pointer (some ⟨b2, 0, none⟩)]) rfl trivial (enters_of Try.func36 (by kernel_rfl) rfl)
        HST.out (fun _ _ _ h k => h.trans k) (fun W l o o' h1 h2 h3 h4 => belowK_b (w := w) (Nat.le_refl _) W l o o' (by omega) h2 h3 h4) (Below.refl _ _) (fun _ => rfl)
        (fun pre W => InFind w t l q r 0 W ∧ ∀ x ∈ pre, x ≠ t)
        (fun c pre W => c = .exit 0 ∧ InFind w t l q r (Ord.start cs k t + l - Ord.base cs k t) W)
        (OwnFrom.and (InFind.own w t l q r _ hsz5 (fun _ => 0)) (ownFrom_pure _ (fun pre : List Nat => ∀ x ∈ pre, x ≠ t)))
        (fun c s W W' row hs hg hr => ⟨hs.1, InFind.own w t l q r _ hsz5 (fun _ : List Nat => Ord.start cs k t + l - Ord.base cs k t) s W W' row hs.2 hg hr⟩)
        ⟨⟨HE5.out, HB5.out.1, HB5.out.2⟩, by simp⟩
        (fun x W => W.alloc (.cells #[.int .i64 (x : Nat), .int .i64 (Ord.base cs k x)] 36))
        (fun x q2 => { tmps := #[.pointer (some ⟨p, 0, none⟩), .agg #[.int .i64 (t : Nat), .int .i64 l], undef, .pointer (some ⟨q, 0, none⟩), .int .i64 0, .bool false, .int .i64 ((k : Int) + 1), .bool true, .pointer (some ⟨r, 0, none⟩), .int .i64 (Ord.start cs k x), .pointer (some ⟨q2, 0, none⟩), .pointer (some ⟨q, 0, none⟩), .int .i64 (t : Nat), .bool false, .bool false, .pointer (some ⟨q, 0, none⟩), .int .i64 (t : Nat), .pointer (some ⟨p, 0, none⟩), v18, .int .i64 (sh : Nat), .bool false, .bool false, .tuple #[.int .i64 ((k : Int) + 1), .bool true], .pointer (some ⟨p, 0, none⟩), .func (.func 25) #[] #[.pointer (some ⟨q, 0, none⟩)], .tuple #[.int .i64 ((k : Int) + 1), .bool true], .int .i64 ((k : Int) + 1), .bool true, .bool true, .bool false, .pointer (some ⟨p, 0, none⟩), .int .i64 ((k : Int) + 1), .func (.func 36) #[] #[.pointer (some ⟨b1, 0, none⟩), .pointer (some ⟨b2, 0, none⟩)], .int .i64 (Ord.start cs k x), .agg #[.int .i64 (x : Nat), .int .i64 (Ord.base cs k x)], undef, undef, undef, undef, undef, undef, undef, undef, undef, undef, undef, undef, undef], defers := [] })
        (fun pre x q2 W => (InFind w t l q r 0 W ∧ ∀ x ∈ pre, x ≠ t) ∧ W.heap[q2]? = some (.cells #[.int .i64 (x : Nat), .int .i64 (Ord.base cs k x)] 36 (0, 0)) ∧ r < q2)
        ?assign ?gx ?ownb ?body ?done ?stop
      case assign =>
        intro lo x W K hK
        dsimp only [Ord.encs]
        gi_wp2
        exact hK
      case gx =>
        rintro pre x W ⟨h1, h2⟩
        have hE := Ext.alloc W (.cells #[.int .i64 (x : Nat), .int .i64 (Ord.base cs k x)] 36)
        exact ⟨⟨⟨⟨h1.bl.trans (hE.mono h1.bl.size), heap_ext h1.place hE, heap_ext h1.res hE⟩, h2⟩, heap_alloc_new _ _, (Array.getElem?_eq_some_iff.1 h1.res).1⟩, (KeepsOthers.alloc W _).from _, hE.mono h1.bl.size⟩
      case ownb =>
        rintro x q2 pre W W' row ⟨⟨h1, h2⟩, h3, h4⟩ hg hr
        exact ⟨⟨InFind.own w t l q r _ hsz5 (fun _ : List Nat => 0) pre W W' row h1 hg hr, h2⟩, cellsKept15 hg (fun r e => (hr r e).2) h3, h4⟩
      case body =>
        rintro lo pre x q2 X ⟨⟨h1, h2⟩, h3, h4⟩ hlen
        have H1 := Lib.hid h1
        have H2 := Lib.hid h2
        obtain ⟨hs0, hs1⟩ := Ord.start_any HO.out k x HK.out
        obtain ⟨hb0, hb1⟩ := Ord.base_any HO.out k x HK.out
        have hl0 := HB.out.2.1
        have hl1 := HB.out.2.2
        have c0 := cell_of_heap h1.place 0
        have c9 := cell_of_heap h1.place 1
        have c1 := cell_of_heap h3 0
        have c2 := cell_of_heap h3 1
        have f0 := frozen_of_heap h1.res 0
        have g0 := cell_of_heap h1.res 0
        simp only [List.getElem?_toArray, List.getElem?_cons_zero, List.getElem?_cons_succ] at c0 c9 c1 c2 g0
        obtain ⟨S, hS⟩ : ∃ z, Ord.start cs k x = z := ⟨_, rfl⟩
        obtain ⟨A, hA⟩ : ∃ z, Ord.base cs k x = z := ⟨_, rfl⟩
        rw [hS] at hs0 hs1 ⊢
        rw [hA] at hb0 hb1 c2 ⊢
        have HS := Lib.hid (And.intro hS hA)
        have hw1 : IntKind.i64.wrap (S + l) = S + l := IntWalk.i64_in _ (by omega)
        have hw2 : IntKind.i64.wrap (S + l - A) = S + l - A := IntWalk.i64_in _ (by omega)
        clear h1 h2 h3 hS hA
        by_cases hxt : x = t
        · subst hxt
          gi_wp2
          have hqr : q ≠ r := by omega
          refine ⟨(KeepsOthers.setCell _ _ _).from _, rfl, ⟨H1.out.bl.setCell (by dsimp only; omega) _, (Below.heap_setCell _ _ _ _ (by simpa using hqr)).trans H1.out.place, ?_⟩⟩
          rw [HS.out.1, HS.out.2]
          exact heap_setCell H1.out.res 0 _
        · have hxi : ((x : Int) == (t : Int)) = false := by simp; omega
          have hxn : ¬ ((x : Int) = (t : Int)) := by omega
          gi_wp2
          refine ⟨KeepsFrom.refl _ _, Below.refl _ _, H1.out, fun y hy => ?_⟩
          rcases List.mem_append.1 hy with hy | hy
          · exact H2.out y hy
          · rw [List.mem_singleton.1 hy]
            exact hxt
      case done =>
        rintro D xs W hD rfl ⟨h1, h2⟩ hK
        exact absurd rfl (h2 t (by simp; omega))
      case stop =>
        rintro D c pre W hD _ ⟨rfl, h1⟩ hK
        have hs0 := (Ord.start_any HO.out k t HK.out)
        have c0 := cell_of_heap h1.res 0
        simp only [List.getElem?_toArray, List.getElem?_cons_zero] at c0
        have HI1 := Lib.hid h1
        clear h1
        refine wpIn_wide.2 ?_
        go_wp2_with fail
        refine ⟨by simp, .inl ⟨D, _, rfl, run_takeDeferred hK, ?_⟩⟩
        refine ⟨_, results_tmp2 rfl _ _ _, _, true, rfl, HB.out.1, HI1.out.bl.trans (belowK_b (w := w) (Nat.le_refl _) W D _ _ (by omega) hK rfl rfl)⟩
end Go.Proofs.Ytnldbdgchkknpaa
