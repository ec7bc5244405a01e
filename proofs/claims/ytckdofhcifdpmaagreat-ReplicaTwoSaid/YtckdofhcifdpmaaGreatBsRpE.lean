/-
  Merged: Layer 11: New.
-/
import Derived.Test.YtckdofhcifdpmaaGreatBsRpD

namespace Go.Proofs.YtckdofhcifdpmaaGreat
set_option linter.unusedSimpArgs false
set_option linter.unusedVariables false
set_option maxRecDepth 100000
open Go.RowKit
/- Layer 11: New. -/
theorem Rep.fresh_read : Rep.readF (Page.fromBytes []).l = some ⟨[], false⟩ := rfl
def Rep.new (id : Int) (t : Int) : Rep.Rp := ⟨id, t, Page.fromBytes [], ⟨[], false⟩⟩
def GivesNew11 (w : World) (id : Int) (c : Term.C) (e : Ending) (w' : World) : Prop :=
  ((∃ x, May11 id c ∧ e = .returned (.tuple #[.pointer (some ⟨x, 0, none⟩), .int .i64 0]) ∧ IsRep w' w.heap.size (fun k => w.heap.size ≤ k) x (Rep.new id c.term)) ∨
   (¬ May11 id c ∧ e = .returned (.tuple #[.pointer none, .int .i64 1]))) ∧ Ext w w'
theorem IsRep.ext {w w' : World} {B x : Nat} {S : Nat → Prop} {r : Rep.Rp} (h : IsRep w B S x r) (hE : Ext w w') : IsRep w' B S x r := by
  obtain ⟨p, va, vp, ev, es, h⟩ := h
  exact ⟨p, va, vp, ev, es, h.ext hE⟩
def Has11 (q : Nat) (id : Int) (tm : Int) (x : Nat) (w : World) : Prop := IsRep w q (fun k => q ≤ k) x (Rep.new id tm)
set_option maxHeartbeats 8000000 in
theorem new11_any (w : World) (id : Int) (v : Value) (c : Term.C) (hv : IsConf w v c) :
    Calls Tryz.prog 25 #[.int .i64 id, v] w (GivesNew11 w id c) := by
  have hbx := box_conf
  have HV := Lib.hid hv
  obtain ⟨s, d, rfl, hs, hd⟩ := hv
  obtain ⟨a0, n0, k0, rfl⟩ := intsSlice hs
  obtain ⟨a1, n1, k1, rfl⟩ := irowsSlice hd
  unfold confV at HV ⊢
  obtain ⟨tm, htm⟩ : ∃ z, c.term = z := ⟨_, rfl⟩
  rw [htm] at HV ⊢
  obtain ⟨w1, hw1⟩ : ∃ w1, w.alloc (.cells #[.int .i64 tm, .slice a0 n0 k0, .slice a1 n1 k1] 38) = w1 := ⟨_, rfl⟩
  obtain ⟨q, hqq⟩ : ∃ q, w.heap.size = q := ⟨_, rfl⟩
  have hE1 : Ext w w1 := by rw [← hw1]; exact Ext.alloc _ _
  have hc1 : ConfAt 38 w1 q tm (.slice a0 n0 k0) (.slice a1 n1 k1) := by rw [← hw1, ← hqq]; exact ConfAt.new _ _ _ _ _
  have HC1 := Lib.hid hc1
  have HE1 := Lib.hid hE1
  have HW1 := Lib.hid (And.intro hw1 hqq)
  have HTM := Lib.hid htm
  clear hs hd hw1 hE1 hc1 hqq htm
  go_enter Tryz.func25, Tryz.ntmps25
  go_upto_region 1 with fail
  rw [HW1.out.1, HW1.out.2]
  have hqw : q ≤ w1.heap.size := by rw [← HW1.out.2]; exact HE1.out.size
  have hro : ∀ wy, Ext w1 wy → ∀ va vp p, w1.heap.size ≤ p → IsSto wy p p va vp (Page.fromBytes []) → Calls Tryz.prog 13 #[.int .i64 id, .agg #[.int .i64 tm, .slice a0 n0 k0, .slice a1 n1 k1], .pointer (some ⟨p, 0, none⟩)] wy (GivesReopen q (fun k => q ≤ k) wy (Page.fromBytes []) id c) := by
    intro wy hl va vp p hp hs
    have hqy : q ≤ wy.heap.size := Nat.le_trans hqw hl.size
    have hsl := hs.lower (base' := q) (Nat.le_trans hqw hp)
    exact reopen11_any hsl hqy (fun k => q ≤ k) (Nat.le_trans hqw hp) (Nat.le_trans hqw hp) (fun k hk => (hsl.all.lt k hk).1) (fun k hk => (hsl.places.lt k hk).1) id _ c (HV.out.below (HE1.out.trans hl))
  have HRO := Lib.hid hro
  have HQW := Lib.hid hqw
  clear hro hqw
  by_cases hm : May11 id c
  · have hyes : ∀ wy, Ext w1 wy → ∀ va vp p, w1.heap.size ≤ p → IsSto wy p p va vp (Page.fromBytes []) → Calls Tryz.prog 13 #[.int .i64 id, .agg #[.int .i64 tm, .slice a0 n0 k0, .slice a1 n1 k1], .pointer (some ⟨p, 0, none⟩)] wy fun e w' => ∃ v, e = .returned v ∧ Ext wy w' ∧ ∃ x, v = .tuple #[.pointer (some ⟨x, 0, none⟩), .int .i64 0] ∧ Has11 q id tm x w' := by
      intro wy hl va vp p hp hs
      refine (HRO.out wy hl va vp p hp hs).mono ?_
      rintro e w' ⟨h, hE⟩
      rcases h with ⟨W, x, hm, hW, rfl, hx, p', va', vp', ev, es, hr⟩ | ⟨hn, rfl⟩
      · refine ⟨_, rfl, hE, x, rfl, p', va', vp', ev, es, ?_⟩
        rw [Rep.fresh_read] at hW
        injection hW with hW
        subst hW
        have := hr.wider (S' := fun k => q ≤ k) (fun k _ h => h.elim (fun e => e) (fun e => Nat.le_trans (Nat.le_trans HQW.out hl.size) e.1))
        rw [HTM.out] at this
        exact this
      · exact absurd ⟨hm, rfl⟩ hn
    have HYES := Lib.hid hyes
    have HM := Lib.hid hm
    clear hyes hm
    refine wp_region_facts (by kernel_rfl) Ext (fun iop v w => match iop with
        | 0 => v = .int .i64 id
        | 1 => v = .agg #[.int .i64 tm, .slice a0 n0 k0, .slice a1 n1 k1]
        | 2 => ∃ va vp p, v = .pointer (some ⟨p, 0, none⟩) ∧ w1.heap.size ≤ p ∧ IsSto w p p va vp (Page.fromBytes [])
        | 3 => ∃ x, v = .tuple #[.pointer (some ⟨x, 0, none⟩), .int .i64 0] ∧ Has11 q id tm x w
        | 4 => ∃ x, v = .pointer (some ⟨x, 0, none⟩) ∧ Has11 q id tm x w
        | 5 => v = .int .i64 0
        | 6 => ∃ x, v = .pointer (some ⟨x, 0, none⟩) ∧ Has11 q id tm x w
        | _ => v = .int .i64 0
        ) (by kernel_rfl) (fun _ _ _ h k => Ext.trans h k) (fun a => Ext.refl a) (Ext.drew _) ?_ ?_ ?_
    · intro iop v wa wb hF hL
      iterate 2 (rcases iop with _ | iop; exact hF)
      iterate 3 (rcases iop with _ | iop; (first | exact hF | (obtain ⟨x, h1, h2⟩ := hF; exact ⟨x, h1, h2.ext hL⟩) | (obtain ⟨va, vp, p, h1, h2, h3⟩ := hF; exact ⟨va, vp, p, h1, h2, h3.ext hL⟩)))
      rcases iop with _ | iop; exact hF
      rcases iop with _ | iop; (first | exact hF | (obtain ⟨x, h1, h2⟩ := hF; exact ⟨x, h1, h2.ext hL⟩) | (obtain ⟨va, vp, p, h1, h2, h3⟩ := hF; exact ⟨va, vp, p, h1, h2, h3.ext hL⟩))
      exact hF
    · refine Obls.cons ?_ (Obls.cons ?_ (Obls.cons ?_ (Obls.cons ?_ (Obls.cons ?_ (Obls.cons ?_ (Obls.cons ?_ (Obls.cons ?_ (Obls.nil))))))))
      · intro ev wy hp hl hk hd
        have e0 : ev (.tmp 0) = .int .i64 id := hk 0 (by decide)
        clear hk hd
        exact Yield.mv rfl ⟨Ext.refl _, e0⟩
      · intro ev wy hp hl hk hd
        have e3 : ev (.tmp 3) = .pointer (some ⟨q, 0, none⟩) := hk 3 (by decide)
        clear hk hd
        exact Yield.load rfl e3 (ldConf11 (HC1.out.ext hl)) ⟨Ext.refl _, rfl⟩
      · intro ev wy hp hl hk hd
        clear hk hd
        refine Yield.call rfl hp Tryz.func10 rfl (by kernel_rfl) ?_
        simp only [List.map_toArray, List.map_cons, List.map_nil, hp.const]
        exact (new8_any (.slice none 0 0) [] wy (bytes_none wy)).mono fun e w' ⟨va, vp, he, hs, hE⟩ => ⟨_, he, hE, va, vp, _, rfl, hl.size, hs⟩
      · intro ev wy hp hl hk hd
        have e6 : ev (.tmp 6) = .int .i64 id := hk 6 (by decide)
        have e7 : ev (.tmp 7) = .agg #[.int .i64 tm, .slice a0 n0 k0, .slice a1 n1 k1] := hk 7 (by decide)
        have f8 : (fun (v : Value) (w : World) => ∃ va vp p, v = .pointer (some ⟨p, 0, none⟩) ∧ w1.heap.size ≤ p ∧ IsSto w p p va vp (Page.fromBytes [])) (ev (.tmp 8)) wy := hk 8 (by decide)
        generalize hx8 : ev (.tmp 8) = x8 at *
        clear hk hd
        obtain ⟨va, vp, p, hv8, hp1, hs⟩ := f8
        subst hv8
        refine Yield.call rfl hp Tryz.func13 rfl (by kernel_rfl) ?_
        simp only [List.map_toArray, List.map_cons, List.map_nil, hp.const, e6, e7, hx8]
        exact HYES.out wy hl va vp p hp1 hs
      · intro ev wy hp hl hk hd
        have f9 : (fun (v : Value) (w : World) => ∃ x, v = .tuple #[.pointer (some ⟨x, 0, none⟩), .int .i64 0] ∧ Has11 q id tm x w) (ev (.tmp 9)) wy := hk 9 (by decide)
        generalize hx9 : ev (.tmp 9) = x9 at *
        clear hk hd
        obtain ⟨x, hv9, hr⟩ := f9
        subst hv9
        exact Yield.op (w' := wy) (by simp [execOp, go_sem, hx9]) ⟨Ext.refl _, x, rfl, hr⟩
      · intro ev wy hp hl hk hd
        have f9 : (fun (v : Value) (w : World) => ∃ x, v = .tuple #[.pointer (some ⟨x, 0, none⟩), .int .i64 0] ∧ Has11 q id tm x w) (ev (.tmp 9)) wy := hk 9 (by decide)
        generalize hx9 : ev (.tmp 9) = x9 at *
        clear hk hd
        obtain ⟨x, hv9, hr⟩ := f9
        subst hv9
        exact Yield.op (w' := wy) (by simp [execOp, go_sem, hx9]) ⟨Ext.refl _, rfl⟩
      · intro ev wy hp hl hk hd
        have f10 : (fun (v : Value) (w : World) => ∃ x, v = .pointer (some ⟨x, 0, none⟩) ∧ Has11 q id tm x w) (ev (.tmp 10)) wy := hk 10 (by decide)
        generalize hx10 : ev (.tmp 10) = x10 at *
        clear hk hd
        obtain ⟨x, hv10, hr⟩ := f10
        subst hv10
        exact Yield.op (w' := wy) (by simp [execOp, go_sem, hx10]) ⟨Ext.refl _, x, rfl, hr⟩
      · intro ev wy hp hl hk hd
        have e11 : ev (.tmp 11) = .int .i64 0 := hk 11 (by decide)
        clear hk hd
        exact Yield.as rfl ⟨Ext.refl _, e11⟩
    · intro vals wz hz hv
      have g6 : vals 0 = .int .i64 id := hv 0 (by decide)
      have g7 : vals 1 = .agg #[.int .i64 tm, .slice a0 n0 k0, .slice a1 n1 k1] := hv 1 (by decide)
      have g8 : (fun (v : Value) (w : World) => ∃ va vp p, v = .pointer (some ⟨p, 0, none⟩) ∧ w1.heap.size ≤ p ∧ IsSto w p p va vp (Page.fromBytes [])) (vals 2) wz := hv 2 (by decide)
      have g9 : (fun (v : Value) (w : World) => ∃ x, v = .tuple #[.pointer (some ⟨x, 0, none⟩), .int .i64 0] ∧ Has11 q id tm x w) (vals 3) wz := hv 3 (by decide)
      have g10 : (fun (v : Value) (w : World) => ∃ x, v = .pointer (some ⟨x, 0, none⟩) ∧ Has11 q id tm x w) (vals 4) wz := hv 4 (by decide)
      have g11 : vals 5 = .int .i64 0 := hv 5 (by decide)
      have g4 : (fun (v : Value) (w : World) => ∃ x, v = .pointer (some ⟨x, 0, none⟩) ∧ Has11 q id tm x w) (vals 6) wz := hv 6 (by decide)
      have g5 : vals 7 = .int .i64 0 := hv 7 (by decide)
      clear hv
      simp only [putAll, Act.put, List.setIfInBounds_toArray, List.set_cons_zero, List.set_cons_succ, g6, g7, g11, g5]
      clear g6
      clear g7
      generalize vals 2 = v8 at *
      generalize vals 3 = v9 at *
      generalize vals 4 = v10 at *
      clear g11
      generalize vals 6 = v4 at *
      clear g5
      obtain ⟨x, rfl, hr⟩ := g4
      have HR := Lib.hid (And.intro hr hz)
      clear g8 g9 g10 hr hz
      go_wp2_with fail
      go_ret2
      refine ⟨.inl ⟨x, HM.out, rfl, ?_⟩, HE1.out.trans HR.out.2⟩
      rw [HW1.out.2, HTM.out]
      exact HR.out.1
  · have hno : ∀ wy, Ext w1 wy → ∀ va vp p, w1.heap.size ≤ p → IsSto wy p p va vp (Page.fromBytes []) → Calls Tryz.prog 13 #[.int .i64 id, .agg #[.int .i64 tm, .slice a0 n0 k0, .slice a1 n1 k1], .pointer (some ⟨p, 0, none⟩)] wy fun e w' => ∃ v, e = .returned v ∧ Ext wy w' ∧ v = .tuple #[.pointer none, .int .i64 1] := by
      intro wy hl va vp p hp hs
      refine (HRO.out wy hl va vp p hp hs).mono ?_
      rintro e w' ⟨h, hE⟩
      rcases h with ⟨W, x, hm2, hW, rfl, hx, p', va', vp', ev, es, hr⟩ | ⟨hn, rfl⟩
      · exact absurd hm2 hm
      · exact ⟨_, rfl, hE, rfl⟩
    have HNO := Lib.hid hno
    have HM := Lib.hid hm
    clear hno hm
    refine wp_region_facts (by kernel_rfl) Ext (fun iop v w => match iop with
        | 0 => v = .int .i64 id
        | 1 => v = .agg #[.int .i64 tm, .slice a0 n0 k0, .slice a1 n1 k1]
        | 2 => ∃ va vp p, v = .pointer (some ⟨p, 0, none⟩) ∧ w1.heap.size ≤ p ∧ IsSto w p p va vp (Page.fromBytes [])
        | 3 => v = .tuple #[.pointer none, .int .i64 1]
        | 4 => v = .pointer none
        | 5 => v = .int .i64 1
        | 6 => v = .pointer none
        | _ => v = .int .i64 1
        ) (by kernel_rfl) (fun _ _ _ h k => Ext.trans h k) (fun a => Ext.refl a) (Ext.drew _) ?_ ?_ ?_
    · intro iop v wa wb hF hL
      iterate 2 (rcases iop with _ | iop; exact hF)
      rcases iop with _ | iop; (first | exact hF | (obtain ⟨va, vp, p, h1, h2, h3⟩ := hF; exact ⟨va, vp, p, h1, h2, h3.ext hL⟩))
      iterate 4 (rcases iop with _ | iop; exact hF)
      exact hF
    · refine Obls.cons ?_ (Obls.cons ?_ (Obls.cons ?_ (Obls.cons ?_ (Obls.cons ?_ (Obls.cons ?_ (Obls.cons ?_ (Obls.cons ?_ (Obls.nil))))))))
      · intro ev wy hp hl hk hd
        have e0 : ev (.tmp 0) = .int .i64 id := hk 0 (by decide)
        clear hk hd
        exact Yield.mv rfl ⟨Ext.refl _, e0⟩
      · intro ev wy hp hl hk hd
        have e3 : ev (.tmp 3) = .pointer (some ⟨q, 0, none⟩) := hk 3 (by decide)
        clear hk hd
        exact Yield.load rfl e3 (ldConf11 (HC1.out.ext hl)) ⟨Ext.refl _, rfl⟩
      · intro ev wy hp hl hk hd
        clear hk hd
        refine Yield.call rfl hp Tryz.func10 rfl (by kernel_rfl) ?_
        simp only [List.map_toArray, List.map_cons, List.map_nil, hp.const]
        exact (new8_any (.slice none 0 0) [] wy (bytes_none wy)).mono fun e w' ⟨va, vp, he, hs, hE⟩ => ⟨_, he, hE, va, vp, _, rfl, hl.size, hs⟩
      · intro ev wy hp hl hk hd
        have e6 : ev (.tmp 6) = .int .i64 id := hk 6 (by decide)
        have e7 : ev (.tmp 7) = .agg #[.int .i64 tm, .slice a0 n0 k0, .slice a1 n1 k1] := hk 7 (by decide)
        have f8 : (fun (v : Value) (w : World) => ∃ va vp p, v = .pointer (some ⟨p, 0, none⟩) ∧ w1.heap.size ≤ p ∧ IsSto w p p va vp (Page.fromBytes [])) (ev (.tmp 8)) wy := hk 8 (by decide)
        generalize hx8 : ev (.tmp 8) = x8 at *
        clear hk hd
        obtain ⟨va, vp, p, hv8, hp1, hs⟩ := f8
        subst hv8
        refine Yield.call rfl hp Tryz.func13 rfl (by kernel_rfl) ?_
        simp only [List.map_toArray, List.map_cons, List.map_nil, hp.const, e6, e7, hx8]
        exact HNO.out wy hl va vp p hp1 hs
      · intro ev wy hp hl hk hd
        have e9 : ev (.tmp 9) = .tuple #[.pointer none, .int .i64 1] := hk 9 (by decide)
        clear hk hd
        exact Yield.op (v := .pointer none) (w' := wy) (by simp [execOp, go_sem, e9]) ⟨Ext.refl _, rfl⟩
      · intro ev wy hp hl hk hd
        have e9 : ev (.tmp 9) = .tuple #[.pointer none, .int .i64 1] := hk 9 (by decide)
        clear hk hd
        exact Yield.op (v := .int .i64 1) (w' := wy) (by simp [execOp, go_sem, e9]) ⟨Ext.refl _, rfl⟩
      · intro ev wy hp hl hk hd
        have e10 : ev (.tmp 10) = .pointer none := hk 10 (by decide)
        clear hk hd
        exact Yield.as rfl ⟨Ext.refl _, e10⟩
      · intro ev wy hp hl hk hd
        have e11 : ev (.tmp 11) = .int .i64 1 := hk 11 (by decide)
        clear hk hd
        exact Yield.as rfl ⟨Ext.refl _, e11⟩
    · intro vals wz hz hv
      have g6 : vals 0 = .int .i64 id := hv 0 (by decide)
      have g7 : vals 1 = .agg #[.int .i64 tm, .slice a0 n0 k0, .slice a1 n1 k1] := hv 1 (by decide)
      have g8 : (fun (v : Value) (w : World) => ∃ va vp p, v = .pointer (some ⟨p, 0, none⟩) ∧ w1.heap.size ≤ p ∧ IsSto w p p va vp (Page.fromBytes [])) (vals 2) wz := hv 2 (by decide)
      have g9 : vals 3 = .tuple #[.pointer none, .int .i64 1] := hv 3 (by decide)
      have g10 : vals 4 = .pointer none := hv 4 (by decide)
      have g11 : vals 5 = .int .i64 1 := hv 5 (by decide)
      have g4 : vals 6 = .pointer none := hv 6 (by decide)
      have g5 : vals 7 = .int .i64 1 := hv 7 (by decide)
      clear hv
      simp only [putAll, Act.put, List.setIfInBounds_toArray, List.set_cons_zero, List.set_cons_succ, g6, g7, g9, g10, g11, g4, g5]
      clear g6
      clear g7
      generalize vals 2 = v8 at *
      clear g9
      clear g10
      clear g11
      clear g4
      clear g5
      have HZ := Lib.hid hz
      clear g8 hz
      go_wp2_with fail
      go_ret2
      exact ⟨.inr ⟨HM.out, rfl⟩, HE1.out.trans HZ.out⟩
end Go.Proofs.YtckdofhcifdpmaaGreat
