/-
  Merged: Layer 10: a configuration more, a segment more: both maps grow; Layer 10: Serve; Layer 10: the statements' example, mathematics; Layer 10: the statements' alive; Layer 10: the statements' own, plain, does, few; Layer 10: a row of calls, out of raw input; Layer 10: how far a node is, is a vector; Layer 10: Terms.
-/
import Derived.Maps.OwnSet
import Derived.Laws.OwnMore
import Derived.Test.YtaijgpdlgcgfaaaGreatKeysI
import Derived.Test.YtaijgpdlgcgfaaaGreatBsMsg
import Derived.Test.YtaijgpdlgcgfaaaGreatBsSgO
import Derived.Test.YtaijgpdlgcgfaaaGreatBsSgRow
import Derived.Test.YtaijgpdlgcgfaaaGreatBsSh
import Derived.Test.YtaijgpdlgcgfaaaGreatBsTerm

namespace Go.Proofs.YtaijgpdlgcgfaaaGreat
set_option linter.unusedSimpArgs false
set_option linter.unusedVariables false
set_option maxRecDepth 100000
open Go.RowKit Go.ChangeMaps
/- Layer 10: a configuration more, a segment more: both maps grow. -/
theorem butBlock (w : World) (b : Nat) (o : Obj) : But b w (setBlock w b o) := ⟨rfl, rfl, rfl, by simp [setBlock], fun k _ hk => by
  simp only [setBlock]
  rw [Array.getElem?_setIfInBounds_ne (fun e => hk e.symm)]⟩
theorem OwnI.same {w w' : World} {base : Nat} {v : Value} {l : List Int} (h : OwnI w base v l) (hk : ∀ k, base ≤ k → k < w.heap.size → w'.heap[k]? = w.heap[k]?) : OwnI w' base v l :=
  rowOwn h fun k e => hk k (World.ownsRow.lt h k e).1 (World.ownsRow.lt h k e).2
theorem OwnRR.same {w w' : World} {base : Nat} {v : Value} {ls : List (List Int)} (h : OwnRR w base v ls) (hk : ∀ k, base ≤ k → k < w.heap.size → w'.heap[k]? = w.heap[k]?) : OwnRR w' base v ls := by
  obtain ⟨xs, h1, h2, h3⟩ := h
  exact ⟨xs, rowOwn h1 fun k e => hk k (World.ownsRow.lt h1 k e).1 (World.ownsRow.lt h1 k e).2, h2, fun i a b => (h3 i a b).same hk⟩
section
variable {w w' w5 : World} {B x M1 M2 o : Nat} {col : Nat → Nat} {cvs : List (Value × Term.C)} {gvs : List (Nat × (Int × Int) × Seg.Sg)} {n : Shd.Nd}
theorem NodeC.base (h : NodeC w B x M1 M2 o col cvs gvs n) : B ≤ w.heap.size := Nat.le_trans h.blk.x1 (Nat.le_of_lt h.blk.lt)
/-- New blocks get a colour. -/
theorem NodeC.painted (h : NodeC w B x M1 M2 o col cvs gvs n) (hE : Ext w w5) (c : Nat) : NodeC w5 B x M1 M2 o (paint col w w5 c) cvs gvs n :=
  h.frame (S := fun _ => False) (TwS.ext hE) (fun _ _ e => e.elim) (agree_paint _ _ _ _) (cover_paint h.cover hE.size c)
theorem NodeC.putConf (h : NodeC w B x M1 M2 o col cvs gvs n) (hE : Ext w w5) {base : Nat} (hb : w.heap.size ≤ base) {c : Term.C} {s d : Value} (hs : OwnI w5 base s c.seqs) (hd : OwnRR w5 base d c.shards) (hn : n.conf c.term = none) (hw : Wf64 c.term) :
    ∃ o1, (Instr.mapUpdate 115 (.map (some M1)) (.int .i64 c.term) (confV c.term s d)).run Tryz.prog w5 = .ok () (setBlock w5 M1 o1) ∧
      NodeC (setBlock w5 M1 o1) B x M1 M2 o (paint col w w5 1) (cvs ++ [(confV c.term s d, c)]) gvs ⟨n.id, n.cs ++ [c], n.gs⟩ := by
  have h5 := h.painted hE 1
  have hno : Value.int .i64 c.term ∉ (confsOf cvs).map (·.1) := fun hm => by
    obtain ⟨q, hq, he⟩ := List.mem_map.1 hm
    obtain ⟨k, v⟩ := q
    simp only at he
    subst he
    obtain ⟨c', h1, _⟩ := h.hasConf hq
    rw [hn] at h1
    cases h1
  obtain ⟨o1, hrun, hput⟩ := h5.blk.confs.put int10_keyed Tryz.underlying115 (int10_key hw) hno (val := confV c.term s d)
  refine ⟨o1, hrun, ?_⟩
  have hB := butBlock w5 M1 o1
  have ho := h.odd
  have hne : ∀ k c', k < w5.heap.size → paint col w w5 1 k = c' → c' ≠ o + 2 → (setBlock w5 M1 o1).heap[k]? = w5.heap[k]? := fun k c' hk he hn => hB.block k hk (fun e => hn (by subst e; rw [← he]; exact h5.cm1))
  refine ⟨⟨h5.blk.x1, h5.blk.m1, h5.blk.m2, h5.blk.apart, (hne x _ h5.blk.lt h5.cx (by omega)).trans h5.blk.heap, ?_, ?_⟩, ?_, h5.gs, fun q hq => ?_, fun i hi => ?_, h5.cx, h5.cm1, h5.cm2, h5.cover.later hB.size, h5.odd⟩
  · have e : confsOf (cvs ++ [(confV c.term s d, c)]) = confsOf cvs ++ [(.int .i64 c.term, confV c.term s d)] := by simp [confsOf]
    rw [e]
    exact hput
  · exact h5.blk.segs.block (hB.block M2 h5.blk.segs.lt (fun e => h5.blk.apart e.symm))
  · rw [List.map_append, h5.cs]
    rfl
  · rcases List.mem_append.1 hq with hq | hq
    · exact (h5.confs q hq).next (TwS.but (S := fun k => k = M1) hB rfl) (fun k _ e => by subst e; rw [h5.cm1]; omega) (Agree.refl _ _)
    · rw [List.mem_singleton.1 hq]
      intro w2 h2
      have hk : ∀ k, base ≤ k → k < w5.heap.size → w2.heap[k]? = w5.heap[k]? := fun k h1 h3 => by
        have hc : paint col w w5 1 k = 1 := paint_new (Nat.le_trans hb h1) h3
        exact (h2.block k (Nat.lt_of_lt_of_le h3 hB.size) (by rw [hc]; simp)).trans (hne k 1 h3 hc (by omega))
      exact ⟨s, d, rfl, (hs.same hk).ints, (hd.same hk).rows⟩
  · exact (h5.segs i hi).keep h5.cover (by omega) (fun k hk he => hne k _ hk he (by omega)) (Agree.refl _ _)
theorem NodeC.putSeg (h : NodeC w B x M1 M2 o col cvs gvs n) (hE : Ext w w5) {base g p : Nat} {va vp lv : Value} {ps : List (Value × Rec.R)} {G : Seg.Sg} (hb : w.heap.size ≤ base) (hg : base ≤ g) (hp : base ≤ p) (hs : IsSto w5 base p va vp G.s) (hsg : SegAt w5 base g p vp lv ps G.w G.safe G.w.broken) {t k : Int} (hn : n.find t k = none) (ht : Wf64 t) (hk : Wf64 k) :
    ∃ o1, (Instr.mapUpdate 116 (.map (some M2)) (placeV t k) (.pointer (some ⟨g, 0, none⟩))).run Tryz.prog w5 = .ok () (setBlock w5 M2 o1) ∧
      NodeC (setBlock w5 M2 o1) B x M1 M2 o (paint col w w5 (2 * gvs.length + 4 + o)) cvs (gvs ++ [(g, (t, k), G)]) ⟨n.id, n.cs, n.gs ++ [((t, k), G)]⟩ := by
  have h5 := h.painted hE (2 * gvs.length + 4 + o)
  have hno : placeV t k ∉ (segsOf gvs).map (·.1) := fun hm => by
    obtain ⟨q, hq, he⟩ := List.mem_map.1 hm
    obtain ⟨kk, v⟩ := q
    simp only at he
    subst he
    obtain ⟨i, hi, _, _, h1⟩ := h.hasSeg hq
    rw [hn] at h1
    cases h1
  obtain ⟨l, hl⟩ := place10_key ht hk
  obtain ⟨o1, hrun, hput⟩ := h5.blk.segs.put place10_keyed Tryz.underlying116 hl hno (val := .pointer (some ⟨g, 0, none⟩))
  refine ⟨o1, hrun, ?_⟩
  have hB := butBlock w5 M2 o1
  have ho := h.odd
  have hne : ∀ k c', k < w5.heap.size → paint col w w5 (2 * gvs.length + 4 + o) k = c' → c' ≠ o + 2 → (setBlock w5 M2 o1).heap[k]? = w5.heap[k]? := fun k c' hk he hn => hB.block k hk (fun e => hn (by subst e; rw [← he]; exact h5.cm2))
  have hBb : B ≤ base := Nat.le_trans h.base hb
  have hnw : ∀ k, base ≤ k → k < w5.heap.size → paint col w w5 (2 * gvs.length + 4 + o) k = 2 * gvs.length + 4 + o := fun k h1 h2 => paint_new (Nat.le_trans hb h1) h2
  have hown : ∀ {e : TypeId} {size m : Nat} {v : Value} {xs : List Value}, w5.ownsRow base e size v m xs → ∀ k, v.ownBlock = some k → paint col w w5 (2 * gvs.length + 4 + o) k = 2 * gvs.length + 4 + o := fun h1 k e => hnw k (World.ownsRow.lt h1 k e).1 (World.ownsRow.lt h1 k e).2
  refine ⟨⟨h5.blk.x1, h5.blk.m1, h5.blk.m2, h5.blk.apart, (hne x _ h5.blk.lt h5.cx (by omega)).trans h5.blk.heap, ?_, ?_⟩, h5.cs, ?_, fun q hq => ?_, fun i hi => ?_, h5.cx, h5.cm1, h5.cm2, h5.cover.later hB.size, h5.odd⟩
  · exact h5.blk.confs.block (hB.block M1 h5.blk.confs.lt h5.blk.apart)
  · have e : segsOf (gvs ++ [(g, (t, k), G)]) = segsOf gvs ++ [(placeV t k, .pointer (some ⟨g, 0, none⟩))] := by simp [segsOf]
    rw [e]
    exact hput
  · rw [List.map_append, h5.gs]
    rfl
  · exact (h5.confs q hq).next (TwS.but (S := fun k => k = M2) hB rfl) (fun k _ e => by subst e; rw [h5.cm2]; omega) (Agree.refl _ _)
  · by_cases e : i < gvs.length
    · rw [List.getElem_append_left e]
      exact (h5.segs i e).keep h5.cover (by omega) (fun k hk he => hne k _ hk he (by omega)) (Agree.refl _ _)
    · have hi2 : i = gvs.length := by simp at hi; omega
      subst hi2
      simp only [List.getElem_append_right (Nat.le_refl _), Nat.sub_self, List.getElem_cons_zero]
      have hnew : SegC w5 B (paint col w w5 (2 * gvs.length + 4 + o)) (2 * gvs.length + 4 + o) g G :=
        ⟨p, va, vp, lv, ps, ⟨Nat.le_trans hBb hg, hnw g hg hsg.lt, Nat.le_trans hBb hp, hnw p hp hs.lt, hown hs.all, hown hs.places, hown hsg.row, hs.lower hBb, hsg.lower hBb⟩,
          fun q hq k hk => hnw k (hsg.low q hq k hk) (by obtain ⟨cur, hc⟩ := (hsg.tags q hq).1.at hk; exact (Array.getElem?_eq_some_iff.1 hc).1)⟩
      exact hnew.keep h5.cover (by omega) (fun k hk he => hne k _ hk he (by omega)) (Agree.refl _ _)
end
/- Layer 10: Serve. -/
namespace Shd
theorem serve_bad {n : Nd} {c : Term.C} (h : Term.right c = false) : n.serve c = (n, 1) := by
  unfold Nd.serve
  rw [if_pos h]
theorem serve_had {n : Nd} {c had : Term.C} (h : Term.right c = true) (hc : n.conf c.term = some had) : n.serve c = (n, if Term.alike had c then 0 else 100) := by
  unfold Nd.serve
  rw [if_neg (by simp [h]), hc]
theorem serve_new {n : Nd} {c : Term.C} (h : Term.right c = true) (hc : n.conf c.term = none) : n.serve c = (⟨n.id, n.cs ++ [c], n.gs ++ parts c n.id c.shards.length⟩, 0) := by
  unfold Nd.serve
  rw [if_neg (by simp [h]), hc]
theorem parts_succ (c : Term.C) (id : Int) (k : Nat) : parts c id (k + 1) = parts c id k ++ (if serves c id k then [((c.term, (k : Int)), fresh)] else []) := by
  unfold parts
  rw [List.range_succ, List.filter_append, List.map_append]
  congr 1
  cases hs : serves c id k <;> simp [hs]
/-- No segment of a term that is not known. -/
theorem Wf.none {n : Nd} (h : Wf n) {t : Int} (hc : n.conf t = none) (s : Int) : n.find t s = none := by
  cases hf : n.find t s with
  | none => rfl
  | some G =>
    obtain ⟨c, h1, _⟩ := h.find hf
    rw [hc] at h1
    cases h1
end Shd
theorem build_place (w : World) (a b : Int) : (Instr.build 130 #[(0, .int .i64 a), (1, .int .i64 b)]).run Tryz.prog w = .ok (.agg #[.int .i64 a, .int .i64 b]) w := by kernel_rfl
set_option maxHeartbeats 16000000 in
theorem serve10_any {w : World} {B x o : Nat} {col : Nat → Nat} {n : Shd.Nd} (h : IsNode w B x o col n) (hwf : Shd.Wf n) (v : Value) (c : Term.C) (hv : ∀ w', TwS (fun k => col k ≠ 0) w w' → IsConf w' v c) :
    Calls Tryz.prog 23 #[.pointer (some ⟨x, 0, none⟩), v] w (GivesErr10 B x o col w (n.serve c)) := by
  have hbx := box_conf
  obtain ⟨M1, M2, cvs, gvs, hN⟩ := h
  obtain ⟨a0, n0, k0, a1, n1, k1, rfl⟩ := (hv w (TwS.ext (Ext.refl w))).shape
  have HN := Lib.hid hN
  have HNC := Lib.hid hN
  have HWF := Lib.hid hwf
  have HV := Lib.hid hv
  have hq0 : ∀ j, col (w.heap.size + j) = 0 := fun j => Classical.byContradiction fun hc => by have := hN.cover _ hc; omega
  have HQ0 := Lib.hid hq0
  obtain ⟨w1, hw1⟩ : ∃ w1, w.alloc (.cells #[.int .i64 c.term, .slice a0 n0 k0, .slice a1 n1 k1] 48) = w1 := ⟨_, rfl⟩
  obtain ⟨q, hq⟩ : ∃ z, w.heap.size = z := ⟨_, rfl⟩
  have hE1 : Ext w w1 := by rw [← hw1]; exact Ext.alloc _ _
  have hc1 : ConfAt 48 w1 q c.term (.slice a0 n0 k0) (.slice a1 n1 k1) := by rw [← hw1, ← hq]; exact ConfAt.new _ _ _ _ _
  have HE1 := Lib.hid hE1
  have HC1 := Lib.hid hc1
  have HQ := Lib.hid hq
  have HW1 := Lib.hid hw1
  obtain ⟨ct, hct⟩ : ∃ z, c.term = z := ⟨_, rfl⟩
  rw [hct] at HC1 HW1 ⊢
  have HCT := Lib.hid hct
  clear hN hwf hv hq0 hw1 hq hE1 hc1 hct
  go_enter Tryz.func23, Tryz.ntmps23
  go_upto_region 1 with fail
  rw [HW1.out, HQ.out]
  obtain ⟨z0, z1, z2⟩ := HC1.out.cells
  go_wp2_with fail
  have hv1 := HV.out w1 (TwS.ext HE1.out)
  rw [HCT.out] at hv1
  refine (right6_any _ c w1 hv1).mono ?_
  rintro e w2 ⟨rfl, hE2⟩
  have HE2 := Lib.hid (HE1.out.trans hE2)
  have HC2 := Lib.hid (HC1.out.ext hE2)
  clear z0 z1 z2 hE2 hv1 HC1 HE1
  cases hr : Term.right c with
  | false =>
    have HS := Lib.hid (Shd.serve_bad (n := n) hr)
    clear hr
    go_wp2_with fail
    go_ret
    unfold GivesErr10
    rw [HS.out]
    exact ⟨rfl, LeavesNode.refl ⟨M1, M2, cvs, gvs, HN.out⟩ HE2.out⟩
  | true =>
    have HR := Lib.hid hr
    obtain ⟨_, hl8, _, ht1, ht2⟩ := rightSmall hr
    have wt : Wf64 ct := wfOf (by rw [HCT.out] at ht1 ht2; omega)
    have HWT := Lib.hid wt
    obtain ⟨cv, b, hlk, hcase⟩ := (HN.out.ext HE2.out).lookConf wt
    have hcv : ∃ a b2 d2 a3 b3 d3 z, cv = .agg #[.int .i64 z, .slice a b2 d2, .slice a3 b3 d3] := by
      rcases hcase with ⟨_, c', _, _, h3⟩ | ⟨_, h1, _⟩
      · obtain ⟨y1, y2, y3, y4, y5, y6, e⟩ := h3.is.shape
        exact ⟨_, _, _, _, _, _, _, e⟩
      · exact ⟨none, 0, 0, none, 0, 0, 0, h1⟩
    obtain ⟨e0, e1, e2, e3, e4, e5, e6, rfl⟩ := hcv
    have HLK := Lib.hid hlk
    have HCASE := Lib.hid hcase
    have HX2 := Lib.hid (HN.out.ext HE2.out).blk.heap
    clear hr hl8 ht1 ht2 wt hlk hcase
    go_wp2_with fail
    have hD := Ext.drew w2
    have hD2 : Ext w2 (w2.alloc (.cells #[.int .i64 0, .slice none 0 0, .slice none 0 0] 48)).drew := (Ext.alloc w2 _).trans (Ext.drew _)
    have x1 := cell_of_heap (heap_ext HX2.out hD) 1
    have x2 := cell_of_heap (heap_ext HX2.out hD2) 1
    have y1 := (HC2.out.ext hD).cells.1
    have y2 := (HC2.out.ext hD2).cells.1
    have l1 := HLK.out _ hD
    have l2 := HLK.out _ hD2
    simp at x1 x2
    clear hD hD2
    go_region
    all_goals
      clear x1 x2 y1 y2 l1 l2
      obtain ⟨w3, hw3⟩ : ∃ z, (w2.alloc (.cells #[.int .i64 e6, .slice e0 e1 e2, .slice e3 e4 e5] 48)).drew = z := ⟨_, rfl⟩
      have hE3 : Ext w2 w3 := by rw [← hw3]; exact (Ext.alloc w2 _).trans (Ext.drew _)
      have hp3 : ConfAt 48 w3 w2.heap.size e6 (.slice e0 e1 e2) (.slice e3 e4 e5) := by rw [← hw3]; exact (ConfAt.new _ _ _ _ _).ext (Ext.drew _)
      rw [hw3]
      obtain ⟨p, hp⟩ : ∃ z, w2.heap.size = z := ⟨_, rfl⟩
      rw [hp] at hp3 ⊢
      have HE3 := Lib.hid (HE2.out.trans hE3)
      have HP3 := Lib.hid hp3
      have HC3 := Lib.hid (HC2.out.ext hE3)
      have HN3 := Lib.hid (HN.out.ext HE3.out)
      have HX3 := Lib.hid HN3.out.blk.heap
      have HE23 := Lib.hid hE3
      clear hw3 hE3 hp3 hp HC2 HX2 HLK
      cases b with
      | true =>
        obtain ⟨c', hcn, hct, hheld⟩ : ∃ c', n.conf ct = some c' ∧ c'.term = ct ∧ Held w2 col (fun w' => IsConf w' (.agg #[.int .i64 e6, .slice e0 e1 e2, .slice e3 e4 e5]) c') := by
          rcases HCASE.out with ⟨_, h0⟩ | ⟨h0, _⟩
          · exact h0
          · cases h0
        have HS := Lib.hid (Shd.serve_had (n := n) HR.out (by rw [HCT.out]; exact hcn))
        have h1 := hheld w3 (TwS.ext (HE23.out))
        have h2 := HV.out w3 (TwS.ext HE3.out)
        rw [HCT.out] at h2
        have HSM := Lib.hid (same6_any _ _ c' c w3 h1 h2)
        obtain ⟨z0, z1, z2⟩ := HC3.out.cells
        obtain ⟨y0, y1, y2⟩ := HP3.out.cells
        clear hcn hct hheld h1 h2
        go_wp2_with fail
        refine HSM.out.mono ?_
        rintro e w4 ⟨rfl, hE4⟩
        have HE4 := Lib.hid (HE3.out.trans hE4)
        clear hE4 z0 z1 z2 y0 y1 y2
        cases ha : Term.alike c' c with
        | false =>
          have HS2 := Lib.hid (show n.serve c = (n, 100) by rw [HS.out, ha]; rfl)
          clear ha
          go_wp2_with fail
          go_ret
          unfold GivesErr10
          rw [HS2.out]
          exact ⟨rfl, LeavesNode.refl ⟨M1, M2, cvs, gvs, HN.out⟩ HE4.out⟩
        | true =>
          have HS2 := Lib.hid (show n.serve c = (n, 0) by rw [HS.out, ha]; rfl)
          clear ha
          go_wp2_with fail
          go_ret
          unfold GivesErr10
          rw [HS2.out]
          exact ⟨rfl, LeavesNode.refl ⟨M1, M2, cvs, gvs, HN.out⟩ HE4.out⟩
      | false =>
        have hcn : n.conf ct = none := by
          rcases HCASE.out with ⟨h0, _⟩ | ⟨_, _, h0⟩
          · cases h0
          · exact h0
        have HS := Lib.hid (Shd.serve_new (n := n) HR.out (by rw [HCT.out]; exact hcn))
        have HCN := Lib.hid hcn
        have hown := fun wy (h : Ext w3 wy) => own10_any (.agg #[.int .i64 ct, .slice a0 n0 k0, .slice a1 n1 k1]) c wy (by have := HV.out wy (TwS.ext (HE3.out.trans h)); rw [HCT.out] at this; exact this) HR.out
        have HOWN := Lib.hid hown
        clear hcn hown
        go_wp2_with fail
        refine wp_region_tail (by kernel_rfl) 8 Ext (fun iop v w => match iop with
            | 0 => v = .pointer (some ⟨x, 0, none⟩)
            | 1 => v = .pointer (some ⟨x, 0, none⟩)
            | 2 => v = .pointer (some ⟨x, 1, none⟩)
            | 3 => v = .map (some M1)
            | 4 => v = .pointer (some ⟨q, 0, none⟩)
            | 5 => v = .int .i64 ct
            | 6 => v = .agg #[.int .i64 ct, .slice a0 n0 k0, .slice a1 n1 k1]
            | _ => ∃ s d, v = confV c.term s d ∧ OwnI w w3.heap.size s c.seqs ∧ OwnRR w w3.heap.size d c.shards
            ) (by kernel_rfl) (by kernel_rfl) (by decide) (fun _ _ _ h k => Ext.trans h k) (fun a => Ext.refl a) (Ext.drew _) ?_ ?_ ?_
        · intro iop v wa wb hF hL
          iterate 7 (rcases iop with _ | iop; exact hF)
          (first | exact hF | (obtain ⟨s, d, h1, h2, h3⟩ := hF; exact ⟨s, d, h1, h2.ext hL, h3.ext hL⟩))
        · refine Obls.cons ?_ (Obls.cons ?_ (Obls.cons ?_ (Obls.cons ?_ (Obls.cons ?_ (Obls.cons ?_ (Obls.cons ?_ (Obls.cons ?_ (Obls.nil))))))))
          · intro ev wy hp hl hk hd
            have e0 : ev (.tmp 0) = .pointer (some ⟨x, 0, none⟩) := hk 0 (by decide)
            clear hk hd
            exact Yield.mv rfl ⟨Ext.refl _, e0⟩
          · intro ev wy hp hl hk hd
            have e26 : ev (.tmp 26) = .pointer (some ⟨x, 0, none⟩) := hk 26 (by decide)
            clear hk hd
            exact Yield.op (v := .pointer (some ⟨x, 0, none⟩)) (w' := wy) (by simp [execOp, go_sem, e26]) ⟨Ext.refl _, rfl⟩
          · intro ev wy hp hl hk hd
            have e27 : ev (.tmp 27) = .pointer (some ⟨x, 0, none⟩) := hk 27 (by decide)
            clear hk hd
            exact Yield.op (v := .pointer (some ⟨x, 1, none⟩)) (w' := wy) (by simp [execOp, go_sem, e27]) ⟨Ext.refl _, rfl⟩
          · intro ev wy hp hl hk hd
            have e28 : ev (.tmp 28) = .pointer (some ⟨x, 1, none⟩) := hk 28 (by decide)
            clear hk hd
            have hxd := cell_of_heap (heap_ext HX3.out hl) 1
            simp at hxd
            exact Yield.load rfl e28 (by simp [go_sem, hxd]) ⟨Ext.refl _, rfl⟩
          · intro ev wy hp hl hk hd
            have e3 : ev (.tmp 3) = .pointer (some ⟨q, 0, none⟩) := hk 3 (by decide)
            clear hk hd
            exact Yield.op (v := .pointer (some ⟨q, 0, none⟩)) (w' := wy) (by simp [execOp, go_sem, e3]) ⟨Ext.refl _, rfl⟩
          · intro ev wy hp hl hk hd
            have e30 : ev (.tmp 30) = .pointer (some ⟨q, 0, none⟩) := hk 30 (by decide)
            clear hk hd
            exact Yield.load rfl e30 (by simp [go_sem, (HC3.out.ext hl).cells.1]) ⟨Ext.refl _, rfl⟩
          · intro ev wy hp hl hk hd
            have e3 : ev (.tmp 3) = .pointer (some ⟨q, 0, none⟩) := hk 3 (by decide)
            clear hk hd
            exact Yield.load rfl e3 (by obtain ⟨z0, z1, z2⟩ := (HC3.out.ext hl).cells; simp [go_sem, z0, z1, z2]) ⟨Ext.refl _, rfl⟩
          · intro ev wy hp hl hk hd
            have e32 : ev (.tmp 32) = .agg #[.int .i64 ct, .slice a0 n0 k0, .slice a1 n1 k1] := hk 32 (by decide)
            clear hk hd
            refine Yield.call rfl hp Tryz.func65 rfl (by kernel_rfl) ?_
            simp only [List.map_toArray, List.map_cons, List.map_nil, hp.const, e32]
            exact (HOWN.out wy hl).mono fun e w' ⟨s, d, he, h1, h2, hE⟩ => ⟨_, he, hE, s, d, rfl, rowLower h1 hl.size, h2.lower hl.size⟩
        · intro vals wz hz hv
          have g26 : vals 0 = .pointer (some ⟨x, 0, none⟩) := hv 0 (by decide)
          have g27 : vals 1 = .pointer (some ⟨x, 0, none⟩) := hv 1 (by decide)
          have g28 : vals 2 = .pointer (some ⟨x, 1, none⟩) := hv 2 (by decide)
          have g29 : vals 3 = .map (some M1) := hv 3 (by decide)
          have g30 : vals 4 = .pointer (some ⟨q, 0, none⟩) := hv 4 (by decide)
          have g31 : vals 5 = .int .i64 ct := hv 5 (by decide)
          have g32 : vals 6 = .agg #[.int .i64 ct, .slice a0 n0 k0, .slice a1 n1 k1] := hv 6 (by decide)
          have g33 : (fun (v : Value) (w : World) => ∃ s d, v = confV c.term s d ∧ OwnI w w3.heap.size s c.seqs ∧ OwnRR w w3.heap.size d c.shards) (vals 7) wz := hv 7 (by decide)
          clear hv
          simp only [List.take_succ_cons, List.take_zero, List.drop_succ_cons, List.drop_zero]
          simp only [putAll, Act.put, List.setIfInBounds_toArray, List.set_cons_zero, List.set_cons_succ, g26, g27, g28, g29, g30, g31, g32]
          clear g26
          clear g27
          clear g28
          clear g29
          clear g30
          clear g31
          clear g32
          generalize vals 7 = v33 at *
          obtain ⟨s, d, rfl, hs, hd⟩ := g33
          obtain ⟨o1, hrun, hN5⟩ := HN3.out.putConf hz (Nat.le_refl _) hs hd (by rw [HCT.out]; exact HCN.out) (by rw [HCT.out]; exact HWT.out)
          unfold confV at hrun ⊢
          rw [HCT.out] at hrun ⊢
          obtain ⟨w5, hw5⟩ : ∃ z, setBlock wz M1 o1 = z := ⟨_, rfl⟩
          have hB5 : But M1 wz w5 := by rw [← hw5]; exact butBlock _ _ _
          rw [hw5] at hN5 hrun
          obtain ⟨col5, hcol5⟩ : ∃ f, paint col w3 wz 1 = f := ⟨_, rfl⟩
          have hA5 : Agree w3 col col5 := by rw [← hcol5]; exact agree_paint _ _ _ _
          rw [hcol5] at hN5
          have hqM : q ≠ M1 := fun e => HN3.out.blk.confs.no_cells (e ▸ HC3.out)
          have hc5 : ConfAt 48 w5 q ct (.slice a0 n0 k0) (.slice a1 n1 k1) := (HC3.out.ext hz).but hB5 hqM
          have HC5 := Lib.hid hc5
          have hq5 : col5 q = 0 := by
            rw [hA5 _ HC3.out.lt, ← HQ.out]
            exact HQ0.out 0
          have hT5 : TwS (fun k => Mine o (col k)) w w5 := (TwS.ext (HE3.out.trans hz)).then (TwS.but (S := fun k => k = M1) hB5 rfl) fun k hk e => by
            subst e
            show Mine o (col k)
            rw [HN.out.cm1]
            exact mine_map HN.out.odd
          have HN5 := Lib.hid (show ∃ col' cvs' gvs', NodeC w5 B x M1 M2 o col' cvs' gvs' ⟨n.id, n.cs ++ [c], n.gs ++ Shd.parts c n.id 0⟩ ∧ TwS (fun k => Mine o (col k)) w w5 ∧ Agree w col col' ∧ col' q = 0 from ⟨col5, _, _, by simpa [Shd.parts] using hN5, hT5, hA5.earlier HE3.out.size, hq5⟩)
          obtain ⟨z0, z1, z2⟩ := HC5.out.cells
          obtain ⟨L, hL⟩ : ∃ L, c.shards.length = L := ⟨_, rfl⟩
          have hc2 := HV.out w5 (hT5.mono fun k _ e => by have := e.1; omega)
          rw [HCT.out] at hc2
          have hn1 : n1 = L := by
            obtain ⟨s9, d9, e9, _, h9⟩ := hc2
            unfold confV at e9
            injection e9 with e9
            simp at e9
            obtain ⟨_, _, rfl⟩ := e9
            obtain ⟨a', cap', e9, _⟩ := h9.open
            injection e9 with _ e9 _
            rw [e9, hL]
          subst hn1
          have hL8 : n1 ≤ 8 := by have := (rightSmall HR.out).2.1; omega
          have HL := Lib.hid hL
          clear hs hd hN5 hw5 hB5 hcol5 hA5 hqM hc5 hq5 hT5 hz hL hc2
          go_wp2_with fail
          go_loopw [7, 37] (fun _ i wr => ∃ k : Nat, k ≤ n1 ∧ i = .int .i64 k ∧ ∃ col' cvs' gvs', Hid (NodeC wr B x M1 M2 o col' cvs' gvs' ⟨n.id, n.cs ++ [c], n.gs ++ Shd.parts c n.id k⟩ ∧ TwS (fun k => Mine o (col k)) w wr ∧ Agree w col col' ∧ col' q = 0) ∧ Hid (ConfAt 48 wr q ct (.slice a0 n0 k0) (.slice a1 n1 k1))) (fun _ i _ => n1 - (intOf i).toNat)
          case atStart =>
            obtain ⟨col', cvs', gvs', h5⟩ := HN5.out
            exact ⟨0, by omega, rfl, col', cvs', gvs', Lib.hid h5, HC5⟩
          case round =>
            clear HN5 HC5 HP3 HC3 HX3 HOWN z0 z1 z2
            obtain ⟨k, hk, rfl, col', cvs', gvs', HN, HC⟩ := hrel
            by_cases hlt : k < n1
            · obtain ⟨hN6, hT6, hA6, hq6⟩ := HN.out
              have ho := hN6.odd
              have hsv := fun wy (h : Ext wr wy) => serves6_any (.agg #[.int .i64 ct, .slice a0 n0 k0, .slice a1 n1 k1]) c n.id (k : Int) wy (by
                have := HV.out wy ((hT6.trans (TwS.ext h)).mono fun k _ e => by have := e.1; omega)
                rw [HCT.out] at this; exact this)
              obtain ⟨bs, hbs⟩ : ∃ z, servesI c.shards n.id (k : Int) = z := ⟨_, rfl⟩
              rw [hbs] at hsv
              have HSV := Lib.hid hsv
              have HBS := Lib.hid hbs
              obtain ⟨ni, hni⟩ : ∃ z, n.id = z := ⟨_, rfl⟩
              rw [hni] at HSV
              have hx6 := hN6.blk.heap
              simp only at hx6
              rw [hni] at hx6
              have HX6 := Lib.hid hx6
              have HNI := Lib.hid hni
              have hk8 : k ≤ 8 := by omega
              clear hN6 hT6 hA6 hq6 hsv hbs hni hx6 ho
              go_wp2_with fail
              refine wp_region_facts (by kernel_rfl) Ext (fun iop v w => match iop with
                  | 0 => v = .agg #[.int .i64 ct, .slice a0 n0 k0, .slice a1 n1 k1]
                  | 1 => v = .pointer (some ⟨x, 0, none⟩)
                  | 2 => v = .pointer (some ⟨x, 0, none⟩)
                  | 3 => v = .pointer (some ⟨x, 0, none⟩)
                  | 4 => v = .int .i64 ni
                  | 5 => v = .int .i64 (k : Int)
                  | _ => v = .bool bs
                  ) (by kernel_rfl) (fun _ _ _ h k => Ext.trans h k) (fun a => Ext.refl a) (Ext.drew _) ?_ ?_ ?_
              · intro iop v wa wb hF hL
                iterate 6 (rcases iop with _ | iop; exact hF)
                exact hF
              · refine Obls.cons ?_ (Obls.cons ?_ (Obls.cons ?_ (Obls.cons ?_ (Obls.cons ?_ (Obls.cons ?_ (Obls.cons ?_ (Obls.nil)))))))
                · intro ev wy hp hl hk hd
                  have e3 : ev (.tmp 3) = .pointer (some ⟨q, 0, none⟩) := hk 3 (by decide)
                  clear hk hd
                  exact Yield.load rfl e3 (by obtain ⟨z0, z1, z2⟩ := (HC.out.ext hl).cells; simp [go_sem, z0, z1, z2]) ⟨Ext.refl _, rfl⟩
                · intro ev wy hp hl hk hd
                  have e0 : ev (.tmp 0) = .pointer (some ⟨x, 0, none⟩) := hk 0 (by decide)
                  clear hk hd
                  exact Yield.mv rfl ⟨Ext.refl _, e0⟩
                · intro ev wy hp hl hk hd
                  have e41 : ev (.tmp 41) = .pointer (some ⟨x, 0, none⟩) := hk 41 (by decide)
                  clear hk hd
                  exact Yield.op (v := .pointer (some ⟨x, 0, none⟩)) (w' := wy) (by simp [execOp, go_sem, e41]) ⟨Ext.refl _, rfl⟩
                · intro ev wy hp hl hk hd
                  have e42 : ev (.tmp 42) = .pointer (some ⟨x, 0, none⟩) := hk 42 (by decide)
                  clear hk hd
                  exact Yield.op (v := .pointer (some ⟨x, 0, none⟩)) (w' := wy) (by simp [execOp, go_sem, e42]) ⟨Ext.refl _, rfl⟩
                · intro ev wy hp hl hk hd
                  have e43 : ev (.tmp 43) = .pointer (some ⟨x, 0, none⟩) := hk 43 (by decide)
                  clear hk hd
                  have hxd := cell_of_heap (heap_ext HX6.out hl) 0
                  simp at hxd
                  exact Yield.load rfl e43 (by simp [go_sem, hxd]) ⟨Ext.refl _, rfl⟩
                · intro ev wy hp hl hk hd
                  have e7 : ev (.tmp 7) = .int .i64 (k : Int) := hk 7 (by decide)
                  clear hk hd
                  exact Yield.mv rfl ⟨Ext.refl _, e7⟩
                · intro ev wy hp hl hk hd
                  have e40 : ev (.tmp 40) = .agg #[.int .i64 ct, .slice a0 n0 k0, .slice a1 n1 k1] := hk 40 (by decide)
                  have e44 : ev (.tmp 44) = .int .i64 ni := hk 44 (by decide)
                  have e45 : ev (.tmp 45) = .int .i64 (k : Int) := hk 45 (by decide)
                  clear hk hd
                  refine Yield.call rfl hp Tryz.func66 rfl (by kernel_rfl) ?_
                  simp only [List.map_toArray, List.map_cons, List.map_nil, e40, e44, e45]
                  exact ((HSV.out wy hl)).mono fun _ _ ⟨he, hb⟩ => ⟨_, he, hb, by first | rfl | simp⟩
              · intro vals wz hz hv
                have g40 : vals 0 = .agg #[.int .i64 ct, .slice a0 n0 k0, .slice a1 n1 k1] := hv 0 (by decide)
                have g41 : vals 1 = .pointer (some ⟨x, 0, none⟩) := hv 1 (by decide)
                have g42 : vals 2 = .pointer (some ⟨x, 0, none⟩) := hv 2 (by decide)
                have g43 : vals 3 = .pointer (some ⟨x, 0, none⟩) := hv 3 (by decide)
                have g44 : vals 4 = .int .i64 ni := hv 4 (by decide)
                have g45 : vals 5 = .int .i64 (k : Int) := hv 5 (by decide)
                have g46 : vals 6 = .bool bs := hv 6 (by decide)
                clear hv
                simp only [putAll, Act.put, List.setIfInBounds_toArray, List.set_cons_zero, List.set_cons_succ, g40, g41, g42, g43, g44, g45, g46]
                clear g40
                clear g41
                clear g42
                clear g43
                clear g44
                clear g45
                clear g46
                obtain ⟨wa, hwa⟩ : ∃ z, z = wz := ⟨_, rfl⟩
                subst hwa
                have hC7 := HC.out.ext hz
                have HC7 := Lib.hid hC7
                have HX7 := Lib.hid (heap_ext HX6.out hz)
                have hN7 : NodeC wa B x M1 M2 o col' cvs' gvs' ⟨n.id, n.cs ++ [c], n.gs ++ Shd.parts c n.id k⟩ := HN.out.1.ext hz
                have HN7 := Lib.hid (And.intro hN7 (And.intro (HN.out.2.1.trans (TwS.ext hz)) (And.intro HN.out.2.2.1 HN.out.2.2.2)))
                have hcl : k < c.shards.length := by rw [HL.out]; exact hlt
                have hsv : Shd.serves c n.id k = bs := by
                  rw [← HBS.out, serves_at hcl]
                  unfold Shd.serves hasI
                  rw [List.getD_eq_getElem?_getD, List.getElem?_eq_getElem hcl, Option.getD_some]
                have hps := Shd.parts_succ c n.id k
                rw [hsv] at hps
                clear hz hC7 hN7 HC HX6 HN HSV hcl hsv
                cases bs with
                | false =>
                  have HPS := Lib.hid (show Shd.parts c n.id (k + 1) = Shd.parts c n.id k by simpa using hps)
                  clear hps
                  go_wp2_with fail
                  go_roundw
                  case rel => exact ⟨k + 1, by omega, by go_num, col', cvs', gvs', by rw [HPS.out]; exact HN7, HC7⟩
                  case measure => simp [intOf]; omega
                | true =>
                  have HPS := Lib.hid (show Shd.parts c n.id (k + 1) = Shd.parts c n.id k ++ [((ct, (k : Int)), Shd.fresh)] by rw [← HCT.out]; simpa using hps)
                  clear hps
                  have hbp := build_place
                  obtain ⟨W, hW⟩ : ∃ z, wa.heap.size = z := ⟨_, rfl⟩
                  have HW := Lib.hid hW
                  have hopen := fun wy p va vp (h1 : IsSto wy W p va vp (Page.fromBytes [])) => open9_any h1
                  have HOP := Lib.hid hopen
                  clear hopen hW
                  go_wp2_with fail
                  refine wp_region_tail (by kernel_rfl) 10 Ext (fun iop v w => match iop with
                      | 0 => v = .pointer (some ⟨x, 0, none⟩)
                      | 1 => v = .pointer (some ⟨x, 0, none⟩)
                      | 2 => v = .pointer (some ⟨x, 2, none⟩)
                      | 3 => v = .map (some M2)
                      | 4 => v = .pointer (some ⟨q, 0, none⟩)
                      | 5 => v = .int .i64 ct
                      | 6 => v = .int .i64 (k : Int)
                      | 7 => v = .agg #[.int .i64 ct, .int .i64 (k : Int)]
                      | 8 => ∃ p va vp, v = .pointer (some ⟨p, 0, none⟩) ∧ IsSto w W p va vp (Page.fromBytes []) ∧ W ≤ p
                      | _ => ∃ g p va vp lv ps, v = .pointer (some ⟨g, 0, none⟩) ∧ IsSto w W p va vp (Page.fromBytes []) ∧ SegAt w W g p vp lv ps (Seg.readF (Page.fromBytes []).l) (Seg.readF (Page.fromBytes []).l).l.length (Seg.readF (Page.fromBytes []).l).broken ∧ W ≤ g ∧ W ≤ p
                      ) (by kernel_rfl) (by kernel_rfl) (by decide) (fun _ _ _ h k => Ext.trans h k) (fun a => Ext.refl a) (Ext.drew _) ?_ ?_ ?_
                  · intro iop v wa wb hF hL
                    iterate 8 (rcases iop with _ | iop; exact hF)
                    rcases iop with _ | iop; (first | exact hF | (obtain ⟨a, b, d, h1, h2, h3⟩ := hF; exact ⟨a, b, d, h1, h2.ext hL, h3⟩) | (obtain ⟨a, b, d, f, g, h, h1, h2, h3, h4⟩ := hF; exact ⟨a, b, d, f, g, h, h1, h2.ext hL, h3.ext hL, h4⟩))
                    (first | exact hF | (obtain ⟨a, b, d, h1, h2, h3⟩ := hF; exact ⟨a, b, d, h1, h2.ext hL, h3⟩) | (obtain ⟨a, b, d, f, g, h, h1, h2, h3, h4⟩ := hF; exact ⟨a, b, d, f, g, h, h1, h2.ext hL, h3.ext hL, h4⟩))
                  · refine Obls.cons ?_ (Obls.cons ?_ (Obls.cons ?_ (Obls.cons ?_ (Obls.cons ?_ (Obls.cons ?_ (Obls.cons ?_ (Obls.cons ?_ (Obls.cons ?_ (Obls.cons ?_ (Obls.nil))))))))))
                    · intro ev wy hp hl hk hd
                      have e0 : ev (.tmp 0) = .pointer (some ⟨x, 0, none⟩) := hk 0 (by decide)
                      clear hk hd
                      exact Yield.mv rfl ⟨Ext.refl _, e0⟩
                    · intro ev wy hp hl hk hd
                      have e47 : ev (.tmp 47) = .pointer (some ⟨x, 0, none⟩) := hk 47 (by decide)
                      clear hk hd
                      exact Yield.op (v := .pointer (some ⟨x, 0, none⟩)) (w' := wy) (by simp [execOp, go_sem, e47]) ⟨Ext.refl _, rfl⟩
                    · intro ev wy hp hl hk hd
                      have e48 : ev (.tmp 48) = .pointer (some ⟨x, 0, none⟩) := hk 48 (by decide)
                      clear hk hd
                      exact Yield.op (v := .pointer (some ⟨x, 2, none⟩)) (w' := wy) (by simp [execOp, go_sem, e48]) ⟨Ext.refl _, rfl⟩
                    · intro ev wy hp hl hk hd
                      have e49 : ev (.tmp 49) = .pointer (some ⟨x, 2, none⟩) := hk 49 (by decide)
                      clear hk hd
                      have hxd := cell_of_heap (heap_ext HX7.out hl) 2
                      simp at hxd
                      exact Yield.load rfl e49 (by simp [go_sem, hxd]) ⟨Ext.refl _, rfl⟩
                    · intro ev wy hp hl hk hd
                      have e3 : ev (.tmp 3) = .pointer (some ⟨q, 0, none⟩) := hk 3 (by decide)
                      clear hk hd
                      exact Yield.op (v := .pointer (some ⟨q, 0, none⟩)) (w' := wy) (by simp [execOp, go_sem, e3]) ⟨Ext.refl _, rfl⟩
                    · intro ev wy hp hl hk hd
                      have e51 : ev (.tmp 51) = .pointer (some ⟨q, 0, none⟩) := hk 51 (by decide)
                      clear hk hd
                      exact Yield.load rfl e51 (by simp [go_sem, (HC7.out.ext hl).cells.1]) ⟨Ext.refl _, rfl⟩
                    · intro ev wy hp hl hk hd
                      have e7 : ev (.tmp 7) = .int .i64 (k : Int) := hk 7 (by decide)
                      clear hk hd
                      exact Yield.mv rfl ⟨Ext.refl _, e7⟩
                    · intro ev wy hp hl hk hd
                      have e52 : ev (.tmp 52) = .int .i64 ct := hk 52 (by decide)
                      have e53 : ev (.tmp 53) = .int .i64 (k : Int) := hk 53 (by decide)
                      clear hk hd
                      exact Yield.op (w' := wy) (by simp [execOp, go_sem, e52, e53, hbp]) ⟨Ext.refl _, rfl⟩
                    · intro ev wy hp hl hk hd
                      clear hk hd
                      refine Yield.call rfl hp Tryz.func28 rfl (by kernel_rfl) ?_
                      simp only [List.map_toArray, List.map_cons, List.map_nil, hp.const]
                      exact (new8_any _ [] wy (bytes_none _)).mono fun e w' ⟨va, vp, he, h1, hE⟩ => ⟨_, he, hE, _, va, vp, rfl, h1.lower (by rw [← HW.out]; exact hl.size), by rw [← HW.out]; exact hl.size⟩
                    · intro ev wy hp hl hk hd
                      have f55 : (fun (v : Value) (w : World) => ∃ p va vp, v = .pointer (some ⟨p, 0, none⟩) ∧ IsSto w W p va vp (Page.fromBytes []) ∧ W ≤ p) (ev (.tmp 55)) wy := hk 55 (by decide)
                      generalize hx55 : ev (.tmp 55) = x55 at *
                      clear hk hd
                      obtain ⟨p, va, vp, hv55, hs55, hp55⟩ := f55
                      subst hv55
                      refine Yield.call rfl hp Tryz.func67 rfl (by kernel_rfl) ?_
                      simp only [List.map_toArray, List.map_cons, List.map_nil, hp.const, hx55]
                      exact (HOP.out wy p va vp hs55).mono fun e w' ⟨he, ⟨lv, ps, h1⟩, hE⟩ => ⟨_, he, hE, _, p, va, vp, lv, ps, rfl, hs55.ext hE, h1.lower (by rw [← HW.out]; exact hl.size), by rw [← HW.out]; exact hl.size, hp55⟩
                  · intro vals wz hz hv
                    have g47 : vals 0 = .pointer (some ⟨x, 0, none⟩) := hv 0 (by decide)
                    have g48 : vals 1 = .pointer (some ⟨x, 0, none⟩) := hv 1 (by decide)
                    have g49 : vals 2 = .pointer (some ⟨x, 2, none⟩) := hv 2 (by decide)
                    have g50 : vals 3 = .map (some M2) := hv 3 (by decide)
                    have g51 : vals 4 = .pointer (some ⟨q, 0, none⟩) := hv 4 (by decide)
                    have g52 : vals 5 = .int .i64 ct := hv 5 (by decide)
                    have g53 : vals 6 = .int .i64 (k : Int) := hv 6 (by decide)
                    have g54 : vals 7 = .agg #[.int .i64 ct, .int .i64 (k : Int)] := hv 7 (by decide)
                    have g55 : (fun (v : Value) (w : World) => ∃ p va vp, v = .pointer (some ⟨p, 0, none⟩) ∧ IsSto w W p va vp (Page.fromBytes []) ∧ W ≤ p) (vals 8) wz := hv 8 (by decide)
                    have g56 : (fun (v : Value) (w : World) => ∃ g p va vp lv ps, v = .pointer (some ⟨g, 0, none⟩) ∧ IsSto w W p va vp (Page.fromBytes []) ∧ SegAt w W g p vp lv ps (Seg.readF (Page.fromBytes []).l) (Seg.readF (Page.fromBytes []).l).l.length (Seg.readF (Page.fromBytes []).l).broken ∧ W ≤ g ∧ W ≤ p) (vals 9) wz := hv 9 (by decide)
                    clear hv
                    simp only [List.take_succ_cons, List.take_zero, List.drop_succ_cons, List.drop_zero]
                    simp only [putAll, Act.put, List.setIfInBounds_toArray, List.set_cons_zero, List.set_cons_succ, g47, g48, g49, g50, g51, g52, g53, g54]
                    clear g47
                    clear g48
                    clear g49
                    clear g50
                    clear g51
                    clear g52
                    clear g53
                    clear g54
                    generalize vals 8 = v55 at *
                    generalize vals 9 = v56 at *
                    obtain ⟨g, p9, va, vp, lv, ps, rfl, hs9, hsg9, hg9, hp9⟩ := g56
                    clear g55
                    have hfn : (⟨n.id, n.cs ++ [c], n.gs ++ Shd.parts c n.id k⟩ : Shd.Nd).find ct (k : Int) = none := by
                      rw [Shd.find_more n.id n.cs, Shd.find_parts]
                      show (n.find ct (k : Int)).or _ = _
                      rw [HWF.out.none HCN.out, if_neg (by omega)]
                      rfl
                    obtain ⟨o2, hrun2, hN8⟩ := HN7.out.1.putSeg (G := Shd.fresh) hz (base := W) (Nat.le_of_eq HW.out) hg9 hp9 hs9 hsg9 hfn HWT.out (wfOf (by omega))
                    unfold placeV at hrun2
                    obtain ⟨w8, hw8⟩ : ∃ z, setBlock wz M2 o2 = z := ⟨_, rfl⟩
                    have hB8 : But M2 wz w8 := by rw [← hw8]; exact butBlock _ _ _
                    rw [hw8] at hN8 hrun2
                    have ho := hN8.odd
                    have hT8 : TwS (fun k => Mine o (col k)) w w8 := (HN7.out.2.1.trans (TwS.ext hz)).then (TwS.but (S := fun k => k = M2) hB8 rfl) fun k hk e => by
                      subst e
                      show Mine o (col k)
                      rw [HNC.out.cm2]
                      exact mine_map ho
                    have hqM : q ≠ M2 := fun e => HN7.out.1.blk.segs.no_cells (e ▸ HC7.out)
                    have HC8 := Lib.hid ((HC7.out.ext hz).but hB8 hqM)
                    have hA8 := agree_paint wa wz col' (2 * gvs'.length + 4 + o)
                    obtain ⟨col8, hcol8⟩ : ∃ f, paint col' wa wz (2 * gvs'.length + 4 + o) = f := ⟨_, rfl⟩
                    rw [hcol8] at hN8 hA8
                    have hps := HPS.out

                    have hN9 : NodeC w8 B x M1 M2 o col8 cvs' (gvs' ++ [(g, (ct, (k : Int)), Shd.fresh)]) ⟨n.id, n.cs ++ [c], n.gs ++ Shd.parts c n.id (k + 1)⟩ := by
                      rw [hps, ← List.append_assoc]
                      exact hN8
                    have HN9 := Lib.hid (And.intro hN9 (And.intro hT8 (And.intro (HN7.out.2.2.1.trans (w1 := wa) hA8 HN7.out.2.1.size) ((hA8 q HC7.out.lt).trans HN7.out.2.2.2))))
                    clear hs9 hsg9 hg9 hp9 hfn hN8 hw8 hB8 ho hT8 hqM hA8 hcol8 hps hN9 hz
                    go_wp2_with fail
                    go_roundw
                    case rel => exact ⟨k + 1, by omega, by go_num, col8, _, _, HN9, HC8⟩
                    case measure => simp [intOf]; omega
            · have hkn : k = n1 := by omega
              subst hkn
              obtain ⟨hN6, hT6, hA6, hq6⟩ := HN.out
              have HFIN := Lib.hid (show LeavesNode B x o col w ⟨n.id, n.cs ++ [c], n.gs ++ Shd.parts c n.id k⟩ wr from ⟨col', ⟨M1, M2, cvs', gvs', hN6⟩, hT6, hA6⟩)
              clear hN6 hT6 hA6 hq6
              go_wp2_with fail
              go_ret
              unfold GivesErr10
              rw [HS.out, HL.out]
              exact ⟨rfl, HFIN.out⟩
end Go.Proofs.YtaijgpdlgcgfaaaGreat

namespace Go.Proofs.YtaijgpdlgcgfaaaGreat
set_option linter.unusedSimpArgs false
set_option linter.unusedVariables false
set_option maxRecDepth 100000
open Go.RowKit
/- Layer 10: the statements' example, mathematics; New by the node. -/
namespace Shd
open Seg (Sg)
def exC : Term.C := ⟨1, [0], [[3], [4]]⟩
def exR : Rec.R := ⟨0, 0, [], [97]⟩
def exM (n : Int) : Msg.M := ⟨1, 0, 3, 1, 0, n, false, exR, Msg.ent0, 0, 0, Msg.conf0⟩
theorem exC_right : Term.right exC = true := by decide
theorem exR_right : Rec.right exR = true := by decide
theorem exM_right : Msg.right (exM 0) = true := by decide
theorem exM_right5 : Msg.right (exM 5) = true := by decide
def exN1 : Nd := ⟨3, [exC], [((1, 0), fresh)]⟩
theorem ex_serve : (new 3).serve exC = (exN1, 0) := by
  rw [serve_new exC_right rfl]
  rfl
theorem ex_find : exN1.find 1 0 = some fresh := rfl
theorem ex_app : (fresh.app 0 exR) = Seg.row [exR] ∧ fresh.appErr 0 exR = 0 := by
  have h : fresh = Seg.row [] := Seg.row_nil
  have h2 := Seg.row_app (l := []) (r := exR) (fun x hx => by cases hx) exR_right (by simp)
  rw [h]
  exact ⟨h2.2, h2.1⟩
theorem ex_all : ∀ x ∈ [exR], Rec.right x = true := fun x hx => by rw [List.mem_singleton.1 hx]; exact exR_right
def exG : Sg := (Seg.row [exR]).sync
theorem exG_safe : exG.safe = 1 := by
  unfold exG
  rw [(Seg.sync_all (G := Seg.row [exR]) rfl).1, Seg.row_len ex_all]
  rfl
theorem exG_w : exG.w = ⟨[exR], 0, false⟩ := by
  unfold exG
  rw [Seg.Sg.sync_w, Seg.row_w ex_all]
def exN2 : Nd := ⟨3, [exC], [((1, 0), exG)]⟩
theorem ex_take : exN1.take (exM 0) = (exN2, ⟨2, 3, 0, 1, 0, 1, false, Msg.rec0, Msg.ent0, 0, 0, Msg.conf0⟩, 0) := by
  rw [take_done (G := fresh) (by rw [exM_right]; decide) ex_find (by show fresh.appErr 0 exR ≠ 91; rw [ex_app.2]; decide)]
  show (_, if fresh.appErr 0 exR = 0 then kept exN1 (exM 0) (fresh.app 0 exR).sync.safe else Msg.none0, fresh.appErr 0 exR) = _
  rw [ex_app.2, if_pos rfl, ex_app.1]
  have e1 : (Seg.row [exR]).sync.safe = 1 := exG_safe
  rw [e1]
  have e2 : turn (at1 ((exM 0).term, (exM 0).shard) fun G => (G.app (exM 0).number (exM 0).reco).sync) exN1.gs = [((1, 0), exG)] := by
    show [((1, 0), at1 (1, 0) (fun G => (G.app 0 exR).sync) (1, 0) fresh)] = _
    unfold at1
    rw [if_pos (by decide)]
    show [(((1 : Int), (0 : Int)), (fresh.app 0 exR).sync)] = _
    rw [ex_app.1]
    rfl
  rw [e2]
  rfl
theorem exG_above : exG.appErr 5 exR = 91 := by
  have hl : exG.len = 1 := by unfold Sg.len; rw [exG_w]; rfl
  have hc : exG.case 5 exR = .above := by
    unfold Sg.case
    rw [hl, if_neg (by rw [exR_right]; decide), if_neg (by decide), if_pos (by decide)]
  unfold Sg.appErr
  rw [hc]
theorem ex_take5 : exN2.take (exM 5) = (exN2, Msg.none0, 101) := by
  refine take_above (G := exG) (by rw [exM_right5]; decide) rfl ?_
  exact exG_above
theorem ex_progress : exN2.progress 1 = some [1, 0] := by
  rw [progress_is (c := exC) rfl]
  show some (prog exN2 1 2) = _
  unfold prog
  show some [((match exN2.find 1 0 with | some G => (G.safe : Int) | none => 0)), ((match exN2.find 1 1 with | some G => (G.safe : Int) | none => 0))] = _
  have h1 : exN2.find 1 0 = some exG := rfl
  have h2 : exN2.find 1 1 = none := rfl
  rw [h1, h2]
  simp only
  rw [exG_safe]
  rfl
theorem ex_read : exN2.read 1 0 0 = (exR, 0) := by
  unfold Nd.read
  have h1 : exN2.find 1 0 = some exG := rfl
  rw [h1]
  simp only
  have hl : exG.len = 1 := by unfold Sg.len; rw [exG_w]; rfl
  unfold Sg.getRec Sg.getErr
  rw [hl, exG_w]
  rfl
theorem ex_good : Good exN1 ∧ Good exN2 := by
  have h1 : Good ((new 3).serve exC).1 := (good_new 3).serve exC
  rw [ex_serve] at h1
  have h2 := h1.take (exM 0)
  rw [ex_take] at h2
  exact ⟨h1, h2⟩
end Shd
theorem NodeC.fresh {w : World} {B x M1 M2 o : Nat} {id : Int} {col col0 : Nat → Nat} (h : NodeB w B x M1 M2 id [] []) (hx : col x = 1) (h1 : col M1 = o + 2) (h2 : col M2 = o + 2) (hc : Cover w col) (ho : o < 2) : NodeC w B x M1 M2 o col [] [] (Shd.new id) :=
  ⟨h, rfl, rfl, fun q hq => absurd hq (by simp), fun i hi => absurd hi (by simp), hx, h1, h2, hc, ho⟩
/-- A new node's colours. -/
def newCol (col : Nat → Nat) (x M1 M2 o : Nat) (k : Nat) : Nat := if k = x then 1 else if k = M1 ∨ k = M2 then o + 2 else col k
/-- New, by the node: its own blocks are new. -/
def GivesNewN (w : World) (col : Nat → Nat) (o : Nat) (id : Int) (e : Ending) (w' : World) : Prop :=
  ((∃ x col', e = .returned (.tuple #[.pointer (some ⟨x, 0, none⟩), .int .i64 0]) ∧ IsNode w' w.heap.size x o col' (Shd.new id) ∧ Agree w col col' ∧ (∀ k, col' k ≠ 0 → col k ≠ 0 ∨ w.heap.size ≤ k) ∧ 0 ≤ id ∧ id < 16) ∨
   (¬(0 ≤ id ∧ id < 16) ∧ e = .returned (.tuple #[.pointer none, .int .i64 1]))) ∧ Ext w w'
theorem newN_any (id : Int) (w : World) (col : Nat → Nat) (hc : Cover w col) (o : Nat) (ho : o < 2) : Calls Tryz.prog 11 #[.int .i64 id] w (GivesNewN w col o id) := by
  refine (new10_any id w).mono ?_
  rintro e w' ⟨h, hE⟩
  refine ⟨?_, hE⟩
  rcases h with ⟨x, M1, M2, rfl, hB, h0, h1⟩ | ⟨h0, rfl⟩
  · refine .inl ⟨x, newCol col x M1 M2 o, rfl, ⟨M1, M2, [], [], NodeC.fresh (col0 := col) hB ?_ ?_ ?_ ?_ ho⟩, fun k hk => ?_, fun k hk => ?_, h0, h1⟩
    · simp [newCol]
    · unfold newCol
      rw [if_neg (fun e => hB.ne.1 e.symm), if_pos (.inl rfl)]
    · unfold newCol
      rw [if_neg (fun e => hB.ne.2 e.symm), if_pos (.inr rfl)]
    · intro k hk
      unfold newCol at hk
      split at hk
      · next e => rw [e]; exact hB.lt
      · split at hk
        · next e =>
          rcases e with e | e
          · rw [e]; exact hB.confs.lt
          · rw [e]; exact hB.segs.lt
        · exact Nat.lt_of_lt_of_le (hc k hk) hE.size
    · have := hB.x1; have := hB.m1; have := hB.m2
      unfold newCol
      rw [if_neg (by omega), if_neg (by omega)]
    · unfold newCol at hk
      have := hB.x1; have := hB.m1; have := hB.m2
      split at hk
      · exact .inr (by omega)
      · split at hk
        · exact .inr (by omega)
        · exact .inl hk
  · exact .inr ⟨h0, rfl⟩
/- Layer 10: the statements' alive. -/
/-- The example's configuration, in blocks of its own. -/
def AlC (w : World) (base a b : Nat) : Prop := OwnI w base (.slice (some ⟨a, 0, none⟩) 1 1) [0] ∧ OwnRR w base (.slice (some ⟨b, 0, none⟩) 2 2) [[3], [4]]
theorem ownNew (w : World) (cs : List Value) (e : TypeId) (hm : cs.length ≤ maxLen) : (w.alloc (.cells cs.toArray e)).ownsRow w.heap.size e 1 (.slice (some ⟨w.heap.size, 0, none⟩) cs.length cs.length) cs.length cs :=
  ⟨by simp, .inr ⟨_, cs.length, cs.toArray, rfl, Nat.le_refl _, heap_alloc_new w _, Nat.le_refl _, hm, by simp, by simp⟩⟩
theorem alC_made (w : World) : AlC ((((w.alloc (.cells #[.int .i64 0] 3)).alloc (.cells #[.int .i64 3] 3)).alloc (.cells #[.int .i64 4] 3)).alloc (.cells #[.slice (some ⟨w.heap.size + 1, 0, none⟩) 1 1, .slice (some ⟨w.heap.size + 1 + 1, 0, none⟩) 1 1] 25)) w.heap.size w.heap.size (w.heap.size + 1 + 1 + 1) := by
  have h1 := ownNew w [.int .i64 0] 3 (by simp [maxLen])
  have h2 := ownNew (w.alloc (.cells #[.int .i64 0] 3)) [.int .i64 3] 3 (by simp [maxLen])
  have h3 := ownNew ((w.alloc (.cells #[.int .i64 0] 3)).alloc (.cells #[.int .i64 3] 3)) [.int .i64 4] 3 (by simp [maxLen])
  have h4 := ownNew (((w.alloc (.cells #[.int .i64 0] 3)).alloc (.cells #[.int .i64 3] 3)).alloc (.cells #[.int .i64 4] 3)) [.slice (some ⟨w.heap.size + 1, 0, none⟩) 1 1, .slice (some ⟨w.heap.size + 1 + 1, 0, none⟩) 1 1] 25 (by simp [maxLen])
  simp only [World.size_alloc, List.length_cons, List.length_nil] at h1 h2 h3 h4
  refine ⟨rowExt h1 (((Ext.alloc _ _).trans (Ext.alloc _ _)).trans (Ext.alloc _ _)), [.slice (some ⟨w.heap.size + 1, 0, none⟩) 1 1, .slice (some ⟨w.heap.size + 1 + 1, 0, none⟩) 1 1], rowLower h4 (by omega), rfl, fun i h h' => ?_⟩
  match i, h with
  | 0, _ => exact rowLower (rowExt h2 ((Ext.alloc _ _).trans (Ext.alloc _ _))) (by omega)
  | 1, _ => exact rowLower (rowExt h3 (Ext.alloc _ _)) (by omega)
theorem AlC.conf {w w' : World} {base a b : Nat} {col : Nat → Nat} (h : AlC w base a b) (hc : ∀ k, base ≤ k → k < w.heap.size → col k = 0) (ht : TwS (fun k => col k ≠ 0) w w') : IsConf w' (confV 1 (.slice (some ⟨a, 0, none⟩) 1 1) (.slice (some ⟨b, 0, none⟩) 2 2)) Shd.exC := by
  have hk : ∀ k, base ≤ k → k < w.heap.size → w'.heap[k]? = w.heap[k]? := fun k h1 h2 => ht.block k h2 (by rw [hc k h1 h2]; simp)
  exact ⟨_, _, rfl, (h.1.same hk).ints, (h.2.same hk).rows⟩
theorem build_exM (w : World) : (Instr.build 50 #[(0, .int .i64 1), (2, .int .i64 3), (3, .int .i64 1), (7, .agg #[.int .i64 0, .int .i64 0, .slice none 0 0, .string ⟨#[97]⟩])]).run Tryz.prog w = .ok (.agg (msgCells (Shd.exM 0) (.slice none 0 0) (.slice none 0 0) (.slice none 0 0) (.slice none 0 0))) w := by kernel_rfl
theorem build_recA (w : World) : (Instr.build 27 #[(2, .string ⟨#[97]⟩)]).run Tryz.prog w = .ok (.agg #[.int .i64 0, .int .i64 0, .slice none 0 0, .string ⟨#[97]⟩]) w := by kernel_rfl
theorem exM_free (w : World) (n : Int) : IsMsg w (.agg (msgCells (Shd.exM n) (.slice none 0 0) (.slice none 0 0) (.slice none 0 0) (.slice none 0 0))) (Shd.exM n) := ⟨_, _, _, _, rfl, ints0 w, ints0 w, ints0 w, irows0 w⟩
/-- A node at a statement that began in the world W. -/
structure Seat10 (W : World) (B x o : Nat) (col : Nat → Nat) (n : Shd.Nd) (w : World) : Prop where
  node : IsNode w B x o col n
  ext : Ext W w
  low : ∀ k, col k ≠ 0 → W.heap.size ≤ k
section
variable {W w w' : World} {B x o q : Nat} {col : Nat → Nat} {n n' : Shd.Nd}
theorem Seat10.extend (h : Seat10 W B x o col n w) (hE : Ext w w') : Seat10 W B x o col n w' := ⟨h.node.ext hE, h.ext.trans hE, h.low⟩
theorem Seat10.but (h : Seat10 W B x o col n w) (hb : But q w w') (hq : col q = 0) (hW : W.heap.size ≤ q) : Seat10 W B x o col n w' := ⟨h.node.but hb hq, Ext.newQ h.ext hW hb, h.low⟩
theorem Seat10.new (h : Seat10 W B x o col n w) (hq : w.heap.size ≤ q) : col q = 0 ∧ W.heap.size ≤ q := ⟨Classical.byContradiction fun hc => absurd (h.node.cover q hc) (by omega), Nat.le_trans h.ext.size hq⟩
theorem Seat10.step (h : Seat10 W B x o col n w) (hl : LeavesNode B x o col w n' w') : ∃ col', Seat10 W B x o col' n' w' ∧ Agree w col col' ∧ ∀ k, k < w.heap.size → col k = 0 → w'.heap[k]? = w.heap[k]? := by
  obtain ⟨col', h1, h2, h3⟩ := hl
  have hst : ∀ k, k < w.heap.size → col k = 0 → w'.heap[k]? = w.heap[k]? := fun k hk h0 => h2.block k hk (by show ¬ Mine o (col k); rw [h0]; exact fun m => absurd m.1 (by omega))
  refine ⟨col', ⟨h1, ⟨h2.os.trans h.ext.os, h2.tape.trans h.ext.tape, h2.output.trans h.ext.output, Nat.le_trans h.ext.size h2.size, fun k hk => ?_⟩, fun k hk => ?_⟩, h3, hst⟩
  · exact (hst k (Nat.lt_of_lt_of_le hk h.ext.size) (Classical.byContradiction fun hc => by have := h.low k hc; omega)).trans (h.ext.block k hk)
  · by_cases hlt : k < w.heap.size
    · rw [h3 k hlt] at hk
      exact h.low k hk
    · have := h.ext.size; omega
/-- A message's block of the caller's. -/
theorem Seat10.msg (h : Seat10 W B x o col n w) {T : TypeId} {m : Msg.M} {rt et sv dv : Value} (hm : MsgAt T w q m rt et sv dv) (hq : col q = 0) (hst : ∀ k, k < w.heap.size → col k = 0 → w'.heap[k]? = w.heap[k]?) : MsgAt T w' q m rt et sv dv := (hst q hm.lt hq).trans hm
end
set_option maxHeartbeats 16000000 in
theorem shardAlive_any (w : World) : Calls Tryz.prog 13 #[] w fun e w' => e = .returned (.bool true) ∧ Ext w w' := by
  go_enter Tryz.func13, Tryz.ntmps13
  go_wp2_with fail
  refine (newN_any 3 w (fun _ => 0) (fun k hk => absurd rfl hk) 0 (by omega)).mono ?_
  rintro e w1 ⟨h, hE1⟩
  rcases h with ⟨x, col, rfl, hN1, _, hcol, _, _⟩ | ⟨h, _⟩
  case inr => exact absurd (by decide) h
  have HN1 := Lib.hid hN1
  have HE1 := Lib.hid hE1
  have HCOL := Lib.hid hcol
  clear hN1 hE1 hcol
  go_wp2_with fail
  obtain ⟨w2, hw2⟩ : ∃ z, (((w1.alloc (.cells #[.int .i64 0] 3)).alloc (.cells #[.int .i64 3] 3)).alloc (.cells #[.int .i64 4] 3)).alloc (.cells #[.slice (some ⟨w1.heap.size + 1, 0, none⟩) 1 1, .slice (some ⟨w1.heap.size + 1 + 1, 0, none⟩) 1 1] 25) = z := ⟨_, rfl⟩
  have hal := alC_made w1
  have hE2 : Ext w1 w2 := by rw [← hw2]; exact (((Ext.alloc _ _).trans (Ext.alloc _ _)).trans (Ext.alloc _ _)).trans (Ext.alloc _ _)
  rw [hw2] at hal ⊢
  have hN2 := HN1.out.ext hE2
  have hfree : ∀ k, w1.heap.size ≤ k → k < w2.heap.size → col k = 0 := fun k h1 _ => Classical.byContradiction fun hc => absurd (HN1.out.cover k hc) (by omega)
  refine (serve10_any hN2 (Shd.good_new 3).wf _ Shd.exC (fun w' ht => hal.conf hfree ht)).mono ?_
  unfold GivesErr10
  rw [Shd.ex_serve]
  rintro e w3 ⟨rfl, col3, hN3, ht3, ha3⟩
  have hs2 : Seat10 w w.heap.size x 0 col (Shd.new 3) w2 := ⟨hN2, HE1.out.trans hE2, fun k hk => (HCOL.out k hk).elim (fun h => absurd rfl h) id⟩
  obtain ⟨col3, hs3, _, _⟩ := hs2.step ⟨col3, hN3, ht3, ha3⟩
  have HS3 := Lib.hid hs3
  have hbm := build_exM
  have hbr := build_recA
  clear hal hfree hN2 hE2 hw2 hN3 ht3 ha3 HCOL HN1 HE1 hs2 hs3
  go_wp2_with (first
    | (refine allocM (by rfl) rfl ?_; intro W4 q4 hat4 hE4 hq4)
    | (refine putM (m2 := Shd.exM 0) (r2 := .slice none 0 0) (e2 := .slice none 0 0) (s2 := .slice none 0 0) (d2 := .slice none 0 0) (by rfl) _ _ rfl rfl rfl hat4.out noSlice noSlice noSlice noSlice ?_; intro W5 hat5 hB5)
    | (refine ldA (by rfl) _ rfl rfl hat5.out ?_))
  have hq := HS3.out.new (q := q4) (Nat.le_of_eq hq4.out.symm)
  have hs5 : Seat10 w w.heap.size x 0 col3 Shd.exN1 W5 := (HS3.out.extend hE4.out).but hB5.out hq.1 hq.2
  have HQ := Lib.hid hq
  refine (take10_any hs5.node Shd.ex_good.1.inv _ (Shd.exM 0) (fun w' _ => exM_free w' 0)).mono ?_
  unfold GivesTake
  rw [Shd.ex_take]
  rintro e w6 ⟨rfl, hl6⟩
  obtain ⟨col6, hs6, ha6, hst6⟩ := hs5.step hl6
  have HAT6 := Lib.hid (hs5.msg hat5.out hq.1 hst6)
  have HQ6 := Lib.hid (show col6 q4 = 0 from (ha6 q4 hat5.out.lt).trans hq.1)
  have HS6 := Lib.hid hs6
  clear hq hs5 hl6 hs6 ha6 hst6 hbm hbr
  have hkm : ∃ mm, mm = (⟨2, 3, 0, 1, 0, 1, false, Msg.rec0, Msg.ent0, 0, 0, Msg.conf0⟩ : Msg.M) := ⟨_, rfl⟩
  obtain ⟨mm, hmm⟩ := hkm
  simp only
  rw [← hmm]
  have HMM := Lib.hid hmm
  clear hmm
  go_wp2_with (first
    | (refine allocM (by rfl) rfl ?_; intro W7 q7 hat7 hE7 hq7)
    | (refine putM (m2 := mm) (r2 := .slice none 0 0) (e2 := .slice none 0 0) (s2 := .slice none 0 0) (d2 := .slice none 0 0) (by rfl) _ _ rfl rfl rfl hat7.out noSlice noSlice noSlice noSlice ?_; intro W8 hat8 hB8; have hx8 : MsgAt 50 W8 q4 (Shd.exM 0) (.slice none 0 0) (.slice none 0 0) (.slice none 0 0) (.slice none 0 0) := (HAT6.out.ext hE7.out).but hB8.out (by have h1 := HAT6.out.lt; have h2 := hq7.out; omega); have c5 := hx8.head.2.2.2.2.2.1; have f5 := frozen_of_heap hx8 5; have hat9 : MsgAt 50 (W8.setCell ⟨q4, 5, none⟩ (.int .i64 5)) q4 (Shd.exM 5) (.slice none 0 0) (.slice none 0 0) (.slice none 0 0) (.slice none 0 0) := heap_setCell hx8 5 (.int .i64 5); clear hx8)
    | (refine ldA (by rfl) _ rfl rfl hat9 ?_))
  obtain ⟨w9, hw9⟩ : ∃ z, W8.setCell ⟨q4, 5, none⟩ (.int .i64 5) = z := ⟨_, rfl⟩
  have hB9 : But q4 W8 w9 := by rw [← hw9]; exact butSet _ _ _ _
  rw [hw9] at hat9 ⊢
  have hq7b := HS6.out.new (q := q7) (Nat.le_of_eq hq7.out.symm)
  have hs8 : Seat10 w w.heap.size x 0 col6 Shd.exN2 W8 := (HS6.out.extend hE7.out).but hB8.out hq7b.1 hq7b.2
  have hs9 : Seat10 w w.heap.size x 0 col6 Shd.exN2 w9 := hs8.but hB9 HQ6.out HQ.out.2
  have h79 : MsgAt 50 w9 q7 mm (.slice none 0 0) (.slice none 0 0) (.slice none 0 0) (.slice none 0 0) := hat8.out.but hB9 (by have h1 := HAT6.out.lt; have h2 := hq7.out; omega)
  refine (take10_any hs9.node Shd.ex_good.2.inv _ (Shd.exM 5) (fun w' _ => exM_free w' 5)).mono ?_
  unfold GivesTake
  rw [Shd.ex_take5]
  rintro e w10 ⟨rfl, hl10⟩
  obtain ⟨col10, hs10, ha10, hst10⟩ := hs9.step hl10
  have HAT10 := Lib.hid (hs9.msg h79 hq7b.1 hst10)
  have HS10 := Lib.hid hs10
  clear c5 f5 hat9 hw9 hB9 hq7b hs8 hs9 h79 hl10 hs10 ha10 hst10
  simp only
  go_wp2_with (first
    | (refine allocM (by rfl) rfl ?_; intro W11 q11 hat11 hE11 hq11)
    | (refine putM (m2 := Msg.none0) (r2 := .slice none 0 0) (e2 := .slice none 0 0) (s2 := .slice none 0 0) (d2 := .slice none 0 0) (by rfl) _ _ rfl rfl rfl hat11.out noSlice noSlice noSlice noSlice ?_; intro W12 hat12 hB12))
  have hq11b := HS10.out.new (q := q11) (Nat.le_of_eq hq11.out.symm)
  have hs12 : Seat10 w w.heap.size x 0 col10 Shd.exN2 W12 := (HS10.out.extend hE11.out).but hB12.out hq11b.1 hq11b.2
  have HS12 := Lib.hid hs12
  have HAT12 := Lib.hid ((HAT10.out.ext hE11.out).but hB12.out (by have h1 := HAT10.out.lt; have h2 := hq11.out; omega))
  clear hq11b hs12
  refine (progress10_any HS12.out.node Shd.ex_good.2 1 (wfOf (by omega))).mono ?_
  rw [Shd.ex_progress]
  rintro e w13 ⟨pv, rfl, hpv, hE13⟩
  have HS13 := Lib.hid (HS12.out.extend hE13)
  have HAT13 := Lib.hid (HAT12.out.ext hE13)
  have HPV := Lib.hid hpv.ints
  clear hpv hE13
  go_wp2_with fail
  refine (read10_any HS13.out.node 1 0 0 (wfOf (by omega)) (wfOf (by omega)) (by omega)).mono ?_
  rw [Shd.ex_read]
  rintro e w14 ⟨rv, rfl, hrv, hE14⟩
  obtain ⟨ra, rn, rc, rfl⟩ := hrv.ints.isSlice
  have HS14 := Lib.hid (HS13.out.extend hE14)
  have HAT14 := Lib.hid (HAT13.out.ext hE14)
  have HPV14 := Lib.hid (HPV.out.below hE14)
  clear hrv hE14
  simp only [recV, Shd.exR]
  go_upto_region 11 with fail
  obtain ⟨w15, hw15⟩ : ∃ z, w14.alloc (.cells #[.int .i64 0, .int .i64 0, .slice ra rn rc, .string ⟨#[97]⟩] 27) = z := ⟨_, rfl⟩
  obtain ⟨q14, hq14⟩ : ∃ z, w14.heap.size = z := ⟨_, rfl⟩
  have hE15 : Ext w14 w15 := by rw [← hw15]; exact Ext.alloc _ _
  have hx15 : w15.heap[q14]? = some (.cells #[.int .i64 0, .int .i64 0, .slice ra rn rc, .string ⟨#[97]⟩] 27 (0, 0)) := by rw [← hw15, ← hq14]; exact heap_alloc_new _ _
  rw [hw15, hq14]
  obtain ⟨c0, c1, c2, c3, c4, c5, c6⟩ := (HAT14.out.ext hE15).head
  rw [HMM.out] at c0 c5
  have d3 := cell_of_heap hx15 3
  simp at d3 c0 c5
  have HS15 := Lib.hid (HS14.out.extend hE15)
  have hpv := HPV14.out.below hE15
  obtain ⟨pa, pn, pc, rfl⟩ := hpv.isSlice
  have HPV15 := Lib.hid hpv
  clear c1 c2 c3 c4 c6 hw15 hq14 hE15 hx15 hpv
  go_wp2_with fail
  have hi2 : Ints (w15.alloc (.cells #[.int .i64 1, .int .i64 0] 3)) (.slice (some ⟨w15.heap.size, 0, none⟩) 2 2) [1, 0] := (show OwnI _ w15.heap.size _ [1, 0] from ownNew w15 [.int .i64 1, .int .i64 0] 3 (by simp [maxLen])).ints
  refine (equal3_any _ _ [1, 0] [1, 0] _ (HPV15.out.below (Ext.alloc _ _)) hi2).mono ?_
  rintro e w16 ⟨rfl, hE16⟩
  have HE16 := Lib.hid (HS15.out.ext.trans ((Ext.alloc _ _).trans hE16))
  have d4 := cellExt ((Ext.alloc w15 (.cells #[.int .i64 1, .int .i64 0] 3)).trans hE16) d3
  clear hi2 hE16
  go_wp2_with fail
  go_ret
  exact ⟨rfl, HE16.out⟩
/- Layer 10: the statements' own, plain, does, few. -/
theorem build_own (w : World) (m : Msg.M) (rt et sv dv : Value) : (Instr.build 50 #[(0, .int .i64 m.kind), (1, .int .i64 m.src), (2, .int .i64 m.dst), (3, .int .i64 m.term), (4, .int .i64 m.shard), (5, .int .i64 m.number), (6, .bool m.is), (7, .agg #[.int .i64 m.reco.client, .int .i64 m.reco.number, rt, .string ⟨m.reco.data.toArray⟩]), (8, .agg #[.int .i64 m.ent.number, .int .i64 m.ent.kind, et, .int .i64 m.ent.tag, .int .i64 m.ent.term, .int .i64 m.ent.pos]), (9, .int .i64 m.ballot), (10, .int .i64 m.old), (11, .agg #[.int .i64 m.conf.term, sv, dv])]).run Tryz.prog w = .ok (.agg (msgCells m rt et sv dv)) w := by kernel_rfl
set_option maxHeartbeats 8000000 in
theorem own10m_any (v : Value) (m : Msg.M) (w : World) (hv : IsMsg w v m) : Calls Tryz.prog 16 #[v] w fun e w' => e = .returned v ∧ Ext w w' := by
  have hbx := box_msgR
  obtain ⟨a0, n0, k0, a1, n1, k1, a2, n2, k2, a3, n3, k3, rfl, h1, h2, h3, h4⟩ := hv.opened
  have hbd := build_own
  have HM := Lib.hid (Msg7.new (m := m) 36 h1 h2 h3 h4)
  have hE0 := Ext.alloc w (.cells (msgCells m (.slice a0 n0 k0) (.slice a1 n1 k1) (.slice a2 n2 k2) (.slice a3 n3 k3)) 36)
  have H1 := Lib.hid h1
  have H2 := Lib.hid h2
  have H3 := Lib.hid h3
  have H4 := Lib.hid h4
  clear h1 h2 h3 h4 hv
  go_enter Tryz.func16, Tryz.ntmps16
  go_wp2_with (first
    | (refine allocM (by rfl) rfl ?_; intro W1 q hat1 hE1 hq1; have M1 := Lib.hid (HM.out.ext hE1.out); obtain ⟨C0, C1, C2, C3, C4, C5, C6⟩ := M1.out.at_.head; obtain ⟨R0, R1, R2, R3⟩ := M1.out.at_.reco; obtain ⟨N0, N1, N2, N3, N4, N5⟩ := M1.out.at_.ent; obtain ⟨V0, V1⟩ := M1.out.at_.votes; obtain ⟨S0, S1, S2⟩ := M1.out.at_.conf)
    | (refine putM (m2 := m) (r2 := .slice a0 n0 k0) (e2 := .slice a1 n1 k1) (s2 := .slice a2 n2 k2) (d2 := .slice a3 n3 k3) (by rfl) _ _ rfl rfl rfl hat1.out ⟨_, _, _, rfl⟩ ⟨_, _, _, rfl⟩ ⟨_, _, _, rfl⟩ ⟨_, _, _, rfl⟩ ?_; intro W2 hat2 hB2))
  have e1 : Ext w W1 := hE0.trans hE1.out
  have hq : w.heap.size ≤ q := by have := hq1.out; rw [World.size_alloc] at this; omega
  have e2 : Ext w W2 := Below.trans (B := w.heap.size) e1 (hB2.out.below hq e1.size)
  have hld := run_loadVar_mid (P := Tryz.prog) W2 q 0 50 _ _ (MsgAt.range hat2.out) Tryz.underlying50 rfl (by kernel_rfl)
  exact bodyPost_ret (v := .agg (msgCells m (.slice a0 n0 k0) (.slice a1 n1 k1) (.slice a2 n2 k2) (.slice a3 n3 k3))) (by simp [results, Tryz.results16, hld, asAddr, Act.put]) rfl ⟨rfl, e2⟩
theorem build_plain (w : World) (m : Msg.M) (rt et sv dv : Value) : (Instr.build 36 #[(0, .int .i64 m.kind), (1, .int .i64 m.src), (2, .int .i64 m.dst), (3, .int .i64 m.term), (4, .int .i64 m.shard), (5, .int .i64 m.number), (6, .bool m.is), (7, .agg #[.int .i64 m.reco.client, .int .i64 m.reco.number, rt, .string ⟨m.reco.data.toArray⟩]), (8, .agg #[.int .i64 m.ent.number, .int .i64 m.ent.kind, et, .int .i64 m.ent.tag, .int .i64 m.ent.term, .int .i64 m.ent.pos]), (9, .int .i64 m.ballot), (10, .int .i64 m.old), (11, .agg #[.int .i64 m.conf.term, sv, dv])]).run Tryz.prog w = .ok (.agg (msgCells m rt et sv dv)) w := by kernel_rfl
set_option maxHeartbeats 8000000 in
theorem plain10m_any (v : Value) (m : Msg.M) (w : World) (hv : IsMsg w v m) : Calls Tryz.prog 49 #[v] w fun e w' => e = .returned v ∧ Ext w w' := by
  have hbx := box_msg
  obtain ⟨a0, n0, k0, a1, n1, k1, a2, n2, k2, a3, n3, k3, rfl, h1, h2, h3, h4⟩ := hv.opened
  have hbd := build_plain
  have HM := Lib.hid (Msg7.new (m := m) 50 h1 h2 h3 h4)
  have hE0 := Ext.alloc w (.cells (msgCells m (.slice a0 n0 k0) (.slice a1 n1 k1) (.slice a2 n2 k2) (.slice a3 n3 k3)) 50)
  have H1 := Lib.hid h1
  have H2 := Lib.hid h2
  have H3 := Lib.hid h3
  have H4 := Lib.hid h4
  clear h1 h2 h3 h4 hv
  go_enter Tryz.func49, Tryz.ntmps49
  go_wp2_with (first
    | (refine allocMR (by rfl) rfl ?_; intro W1 q hat1 hE1 hq1; have M1 := Lib.hid (HM.out.ext hE1.out); obtain ⟨C0, C1, C2, C3, C4, C5, C6⟩ := M1.out.at_.head; obtain ⟨R0, R1, R2, R3⟩ := M1.out.at_.reco; obtain ⟨N0, N1, N2, N3, N4, N5⟩ := M1.out.at_.ent; obtain ⟨V0, V1⟩ := M1.out.at_.votes; obtain ⟨S0, S1, S2⟩ := M1.out.at_.conf)
    | (refine putMR (m2 := m) (r2 := .slice a0 n0 k0) (e2 := .slice a1 n1 k1) (s2 := .slice a2 n2 k2) (d2 := .slice a3 n3 k3) (by rfl) _ _ rfl rfl rfl hat1.out ⟨_, _, _, rfl⟩ ⟨_, _, _, rfl⟩ ⟨_, _, _, rfl⟩ ⟨_, _, _, rfl⟩ ?_; intro W2 hat2 hB2))
  have e1 : Ext w W1 := hE0.trans hE1.out
  have hq : w.heap.size ≤ q := by have := hq1.out; rw [World.size_alloc] at this; omega
  have e2 : Ext w W2 := Below.trans (B := w.heap.size) e1 (hB2.out.below hq e1.size)
  have hld := run_loadVar_mid (P := Tryz.prog) W2 q 0 36 _ _ (MsgAt.range hat2.out) Tryz.underlying36 rfl (by kernel_rfl)
  exact bodyPost_ret (v := .agg (msgCells m (.slice a0 n0 k0) (.slice a1 n1 k1) (.slice a2 n2 k2) (.slice a3 n3 k3))) (by simp [results, Tryz.results49, hld, asAddr, Act.put]) rfl ⟨rfl, e2⟩

namespace Shd
/-- A call of a script. -/
structure Op where
  kind : Int
  n : Int
  c : Term.C
  m : Msg.M
  upto : List Int
def doN (n : Nd) (o : Op) : Nd :=
  if o.kind = 0 then (n.serve o.c).1 else if o.kind = 1 then (n.take o.m).1 else if o.kind = 2 then (n.trim o.n o.upto).1 else if o.kind = 3 then n.sync else if o.kind = 4 then n.crash o.n else n
theorem Good.doN {n : Nd} (h : Good n) (o : Op) : Good (doN n o) := by
  unfold Shd.doN
  split
  · exact h.serve _
  · split
    · exact h.take _
    · split
      · exact h.trim _ _
      · split
        · exact h.sync
        · split
          · exact h.crash _
          · exact h
theorem le_doN {n : Nd} (h : Inv n) (o : Op) : Le n (doN n o) := by
  unfold Shd.doN
  split
  · exact le_serve h _
  · split
    · exact le_take h _
    · split
      · exact le_trim h _ _
      · split
        · exact le_sync h
        · split
          · exact le_crash h _
          · exact .refl _
end Shd
def opCells10 (o : Shd.Op) (cs cd rt et sv dv u : Value) : Array Value := #[.int .i64 o.kind, .int .i64 o.n, .int .i64 o.c.term, cs, cd, .int .i64 o.m.kind, .int .i64 o.m.src, .int .i64 o.m.dst, .int .i64 o.m.term, .int .i64 o.m.shard, .int .i64 o.m.number, .bool o.m.is, .int .i64 o.m.reco.client, .int .i64 o.m.reco.number, rt, .string ⟨o.m.reco.data.toArray⟩, .int .i64 o.m.ent.number, .int .i64 o.m.ent.kind, et, .int .i64 o.m.ent.tag, .int .i64 o.m.ent.term, .int .i64 o.m.ent.pos, .int .i64 o.m.ballot, .int .i64 o.m.old, .int .i64 o.m.conf.term, sv, dv, u]
/-- What a call's values read as. -/
structure IsOp10 (w : World) (o : Shd.Op) (cs cd rt et sv dv u : Value) : Prop where
  hcs : Ints w cs o.c.seqs
  hcd : IRows w cd o.c.shards
  hrt : Ints w rt o.m.reco.tags
  het : Ints w et o.m.ent.cut
  hsv : Ints w sv o.m.conf.seqs
  hdv : IRows w dv o.m.conf.shards
  hu : Ints w u o.upto
theorem IsOp10.below {w w' : World} {o : Shd.Op} {cs cd rt et sv dv u : Value} (h : IsOp10 w o cs cd rt et sv dv u) (hb : Below w.heap.size w w') : IsOp10 w' o cs cd rt et sv dv u := ⟨h.hcs.below hb, h.hcd.below hb, h.hrt.below hb, h.het.below hb, h.hsv.below hb, h.hdv.below hb, h.hu.below hb⟩
theorem box_op10 (w : World) (o : Shd.Op) (cs cd rt et sv dv u : Value) : (Instr.box 44 (.agg (opCells10 o cs cd rt et sv dv u))).run Tryz.prog w = .ok (.pointer (some ⟨w.heap.size, 0, none⟩)) (w.alloc (.cells (opCells10 o cs cd rt et sv dv u) 44)) := by kernel_rfl
/-- A call's block. -/
def OpAt10 (w : World) (b : Nat) (o : Shd.Op) (cs cd rt et sv dv u : Value) : Prop := w.heap[b]? = some (.cells (opCells10 o cs cd rt et sv dv u) 44 (0, 0))
theorem opCells10_split (o : Shd.Op) (cs cd rt et sv dv u : Value) : (opCells10 o cs cd rt et sv dv u).toList = [.int .i64 o.kind, .int .i64 o.n, .int .i64 o.c.term, cs, cd] ++ ((msgCells o.m rt et sv dv).toList ++ [u]) := rfl
theorem OpAt10.range {w : World} {b : Nat} {o : Shd.Op} {cs cd rt et sv dv u : Value} (h : OpAt10 w b o cs cd rt et sv dv u) : w.rangeAt b 5 (msgCells o.m rt et sv dv).toList := fun j v hj => by
  rw [cell_of_heap h, ← Array.getElem?_toList, opCells10_split, List.getElem?_append_right (by simp), List.getElem?_append_left (by have := (List.getElem?_eq_some_iff.1 hj).1; simpa using this)]
  simpa using hj
set_option maxHeartbeats 1000000 in
theorem OpAt10.ldMsg {w : World} {b : Nat} {o : Shd.Op} {cs cd rt et sv dv u : Value} (h : OpAt10 w b o cs cd rt et sv dv u) : (Instr.loadAt 36 (.pointer (some ⟨b, 5, none⟩))).run Tryz.prog w = .ok (.agg (msgCells o.m rt et sv dv)) w :=
  run_loadAt_mid w b 5 36 (msgCells o.m rt et sv dv).toList _ h.range Tryz.underlying36 rfl (by kernel_rfl)
theorem OpAt10.ldConf {w : World} {b : Nat} {o : Shd.Op} {cs cd rt et sv dv u : Value} (h : OpAt10 w b o cs cd rt et sv dv u) (h1 : ∃ a n c, cs = .slice a n c) (h2 : ∃ a n c, cd = .slice a n c) : (Instr.loadAt 34 (.pointer (some ⟨b, 2, none⟩))).run Tryz.prog w = .ok (.agg #[.int .i64 o.c.term, cs, cd]) w :=
  ldConf7 34 (.inr rfl) h1 h2 (cell_of_heap h 2) (cell_of_heap h 3) (cell_of_heap h 4)
theorem build_msgR0 (w : World) : (Instr.build 36 #[]).run Tryz.prog w = .ok (.agg (msgCells Msg.none0 (.slice none 0 0) (.slice none 0 0) (.slice none 0 0) (.slice none 0 0))) w := by kernel_rfl
/-- What a call within another one leaves: the outer one began in w. -/
theorem LeavesNode.since {B x o q : Nat} {col : Nat → Nat} {w w1 w2 : World} {n : Shd.Nd} (h : LeavesNode B x o col w1 n w2) (hE : Ext w w1) (hq : q < w1.heap.size) (h0 : col q = 0) : LeavesQ B x o col w n w2 q := by
  obtain ⟨col', h1, h2, h3⟩ := h
  exact ⟨col', h1, (TwS.ext hE).trans h2, h3.earlier hE.size, (h3 q hq).trans h0⟩
theorem LeavesQ.since {B x o : Nat} {col : Nat → Nat} {w w1 : World} {n : Shd.Nd} (h : IsNode w1 B x o col n) (hE : Ext w w1) {q : Nat} (h0 : col q = 0) : LeavesQ B x o col w n w1 q := ⟨col, h, TwS.ext hE, Agree.refl _ _, h0⟩
theorem LeavesNode.stay {B x o k : Nat} {col : Nat → Nat} {w w' : World} {n : Shd.Nd} (h : LeavesNode B x o col w n w') (h0 : col k = 0) (hk : k < w.heap.size) : w'.heap[k]? = w.heap[k]? := by
  obtain ⟨_, _, ht, _⟩ := h
  exact ht.block k hk fun e => by have := e.1; omega
theorem Shd.take_plain (n : Shd.Nd) (m : Msg.M) (w : World) : IsMsg w (.agg (msgCells (n.take m).2.1 (.slice none 0 0) (.slice none 0 0) (.slice none 0 0) (.slice none 0 0))) (n.take m).2.1 := by
  have h0 : IsMsg w (.agg (msgCells Msg.none0 (.slice none 0 0) (.slice none 0 0) (.slice none 0 0) (.slice none 0 0))) Msg.none0 := ⟨_, _, _, _, rfl, ints0 w, ints0 w, ints0 w, irows0 w⟩
  have h1 : ∀ k, IsMsg w (.agg (msgCells (Shd.kept n m k) (.slice none 0 0) (.slice none 0 0) (.slice none 0 0) (.slice none 0 0))) (Shd.kept n m k) := fun k => ⟨_, _, _, _, rfl, ints0 w, ints0 w, ints0 w, irows0 w⟩
  unfold Shd.Nd.take
  split
  · exact h0
  · split
    · exact h0
    · split
      · exact h0
      · show IsMsg w (.agg (msgCells (if _ then _ else _) _ _ _ _)) (if _ then _ else _)
        split
        · exact h1 _
        · exact h0
theorem MsgAt.ldFree {w : World} {q : Nat} {m : Msg.M} (h : MsgAt 50 w q m (.slice none 0 0) (.slice none 0 0) (.slice none 0 0) (.slice none 0 0)) : (Instr.loadAt 50 (.pointer (some ⟨q, 0, none⟩))).run Tryz.prog w = .ok (.agg (msgCells m (.slice none 0 0) (.slice none 0 0) (.slice none 0 0) (.slice none 0 0))) w :=
  run_loadAt_mid w q 0 50 _ _ (MsgAt.range h) Tryz.underlying50 rfl (by kernel_rfl)
set_option maxHeartbeats 40000000 in
/-- A call on a node. -/
theorem does10_any {w : World} {B x o : Nat} {col : Nat → Nat} {n : Shd.Nd} (h : IsNode w B x o col n) (hg : Shd.Good n) (c : Shd.Op) (cs cd rt et sv dv u : Value) (hn : Wf64 c.n) (hv : ∀ w', TwS (fun k => col k ≠ 0) w w' → IsOp10 w' c cs cd rt et sv dv u) :
    Calls Tryz.prog 14 #[.pointer (some ⟨x, 0, none⟩), .agg (opCells10 c cs cd rt et sv dv u)] w fun e w' => (∃ v, e = .returned v) ∧ LeavesNode B x o col w (Shd.doN n c) w' := by
  have hbx := box_op10
  have hb0 := build_msgR0
  have hop := hv w (TwS.ext (Ext.refl w))
  obtain ⟨ca, cn, cc, rfl⟩ := intsSlice hop.hcs
  obtain ⟨da, dn, dc, rfl⟩ := irowsSlice hop.hcd
  obtain ⟨ua, un, uc, rfl⟩ := intsSlice hop.hu
  have HV := Lib.hid hv
  have HN := Lib.hid h
  have HG := Lib.hid hg
  have HW := Lib.hid hn
  have hq0 : ∀ j, col (w.heap.size + j) = 0 := fun j => Classical.byContradiction fun hc => by have := h.cover _ hc; omega
  have HQ0 := Lib.hid hq0
  clear h hg hn hv hop hq0
  go_enter Tryz.func14, Tryz.ntmps14
  go_upto_region 1 with (refine allocMR (by rfl) rfl ?_; intro W1 q1 hat1 hE1 hq1)
  obtain ⟨q, hq⟩ : ∃ z, w.heap.size = z := ⟨_, rfl⟩
  have hq1' := hq1.out
  rw [World.size_alloc, hq] at hq1'
  subst hq1'
  have hE0 := (Ext.alloc w (.cells (opCells10 c (.slice ca cn cc) (.slice da dn dc) rt et sv dv (.slice ua un uc)) 44)).trans hE1.out
  have ho1 : OpAt10 W1 w.heap.size c (.slice ca cn cc) (.slice da dn dc) rt et sv dv (.slice ua un uc) := heap_ext (heap_alloc_new w _) hE1.out
  rw [hq] at ho1 ⊢
  have HO := Lib.hid ho1
  have HE := Lib.hid hE0
  have HQ := Lib.hid hq
  have HN1 := Lib.hid (HN.out.ext hE0)
  have HC1 := Lib.hid (show col (q + 1) = 0 by have := HQ0.out 1; rw [hq] at this; exact this)
  have HF := Lib.hid (fun w' (ht : TwS (fun k => col k ≠ 0) W1 w') => HV.out w' ((TwS.ext hE0).trans ht))
  clear hq hE1 hq1 hE0 ho1 hbx
  have k0 := cell_of_heap HO.out 0
  have k1 := cell_of_heap HO.out 1
  have k27 := cell_of_heap HO.out 27
  simp [opCells10] at k0 k1 k27
  obtain ⟨kd, hkd⟩ : ∃ z, c.kind = z := ⟨_, rfl⟩
  rw [hkd] at k0
  have HKD := Lib.hid hkd
  clear hkd
  by_cases e0 : kd = 0
  · subst e0
    have hlc := OpAt10.ldConf HO.out ⟨ca, cn, cc, rfl⟩ ⟨da, dn, dc, rfl⟩
    have hcf : ∀ w', TwS (fun k => col k ≠ 0) W1 w' → IsConf w' (.agg #[.int .i64 c.c.term, .slice ca cn cc, .slice da dn dc]) c.c := fun w' ht => ⟨_, _, rfl, (HF.out w' ht).hcs, (HF.out w' ht).hcd⟩
    have HCF := Lib.hid hcf
    clear hcf
    go_wp2_with (refine ldAny (by rfl) _ rfl rfl hlc ?_)
    refine (serve10_any HN1.out HG.out.wf _ c.c HCF.out).mono ?_
    unfold GivesErr10
    rintro e w2 ⟨rfl, hl2⟩
    obtain ⟨er, her⟩ : ∃ z, (n.serve c.c).2 = z := ⟨_, rfl⟩
    rw [her]
    clear her hlc
    have hlq := LeavesNode.since hl2 HE.out hat1.out.lt HC1.out
    have hat2 := Lib.hid (show MsgAt 36 w2 (q + 1) Msg.none0 (.slice none 0 0) (.slice none 0 0) (.slice none 0 0) (.slice none 0 0) from (hl2.stay HC1.out hat1.out.lt).trans hat1.out)
    have HLQ := Lib.hid hlq
    clear hl2 hlq
    go_wp2_with (refine putMR (m2 := Msg.none0) (r2 := .slice none 0 0) (e2 := .slice none 0 0) (s2 := .slice none 0 0) (d2 := .slice none 0 0) (by rfl) _ _ rfl rfl rfl hat2.out noSlice noSlice noSlice noSlice ?_; intro W9 hat9 hB9)
    have hld := run_loadVar_mid (P := Tryz.prog) W9 (q + 1) 0 36 _ _ (MsgAt.range hat9.out) Tryz.underlying36 rfl (by kernel_rfl)
    refine bodyPost_ret (v := .tuple #[.agg (msgCells Msg.none0 (.slice none 0 0) (.slice none 0 0) (.slice none 0 0) (.slice none 0 0)), .int .i64 er]) (by simp [results, Tryz.results14, hld, asAddr, Act.put]) rfl ?_
    refine ⟨⟨_, rfl⟩, ?_⟩
    have hd : Shd.doN n c = (n.serve c.c).1 := by simp [Shd.doN, HKD.out]
    rw [hd]
    exact HLQ.out.but (by have := HQ.out; omega) hB9.out
  by_cases e1 : kd = 1
  · subst e1
    have hlm := OpAt10.ldMsg HO.out
    have him : ∀ w', TwS (fun k => col k ≠ 0) W1 w' → IsMsg w' (.agg (msgCells c.m rt et sv dv)) c.m := fun w' ht => ⟨_, _, _, _, rfl, (HF.out w' ht).hrt, (HF.out w' ht).het, (HF.out w' ht).hsv, (HF.out w' ht).hdv⟩
    have HIM := Lib.hid him
    have HP := Lib.hid (Shd.take_plain n c.m)
    clear him
    obtain ⟨mv, hmv⟩ : ∃ z : Value, .agg (msgCells c.m rt et sv dv) = z := ⟨_, rfl⟩
    rw [hmv] at hlm HIM
    clear hmv
    go_wp2_with (refine ldAny (by rfl) _ rfl rfl hlm ?_)
    refine (own10m_any mv c.m W1 (HIM.out W1 (TwS.ext (Ext.refl _)))).mono ?_
    rintro e w1 ⟨rfl, hE2⟩
    have HE2 := Lib.hid hE2
    clear hE2 hlm
    go_wp2_with fail
    refine (take10_any (HN1.out.ext HE2.out) HG.out.inv mv c.m (fun w' ht => HIM.out w' ((TwS.ext HE2.out).trans ht))).mono ?_
    unfold GivesTake
    rintro e w2 ⟨rfl, hl2⟩
    obtain ⟨er, her⟩ : ∃ z, (n.take c.m).2.2 = z := ⟨_, rfl⟩
    obtain ⟨mr, hmr⟩ : ∃ z, (n.take c.m).2.1 = z := ⟨_, rfl⟩
    rw [hmr] at HP
    rw [her, hmr]
    clear her hmr
    have hat1' := hat1.out.ext HE2.out
    have hlq := LeavesNode.since hl2 (HE.out.trans HE2.out) hat1'.lt HC1.out
    have hat2 := Lib.hid (show MsgAt 36 w2 (q + 1) Msg.none0 (.slice none 0 0) (.slice none 0 0) (.slice none 0 0) (.slice none 0 0) from (hl2.stay HC1.out hat1'.lt).trans hat1')
    have HLQ := Lib.hid hlq
    clear hl2 hlq hat1'
    go_wp2_with (first
      | (refine allocM (by rfl) rfl ?_; intro W3 q3 hat3 hE3 hq3)
      | (refine putM (m2 := mr) (r2 := .slice none 0 0) (e2 := .slice none 0 0) (s2 := .slice none 0 0) (d2 := .slice none 0 0) (by rfl) _ _ rfl rfl rfl hat3.out noSlice noSlice noSlice noSlice ?_; intro W4 hat4 hB4; have hlm4 := MsgAt.ldFree hat4.out)
      | (refine ldAny (by rfl) _ rfl rfl hlm4 ?_))
    have hE4 : Ext w2 W4 := Below.trans (B := w2.heap.size) hE3.out (hB4.out.below (Nat.le_of_eq hq3.out.symm) hE3.out.size)
    refine (plain10m_any _ mr W4 (HP.out W4)).mono ?_
    rintro e w5 ⟨rfl, hE5⟩
    have hat5 := Lib.hid (hat2.out.ext (hE4.trans hE5))
    have HL5 := Lib.hid (HLQ.out.ext (hE4.trans hE5))
    clear hE4 hE5
    go_wp2_with (refine putMR (m2 := mr) (r2 := .slice none 0 0) (e2 := .slice none 0 0) (s2 := .slice none 0 0) (d2 := .slice none 0 0) (by rfl) _ _ rfl rfl rfl hat5.out noSlice noSlice noSlice noSlice ?_; intro W9 hat9 hB9)
    have hld := run_loadVar_mid (P := Tryz.prog) W9 (q + 1) 0 36 _ _ (MsgAt.range hat9.out) Tryz.underlying36 rfl (by kernel_rfl)
    refine bodyPost_ret (v := .tuple #[.agg (msgCells mr (.slice none 0 0) (.slice none 0 0) (.slice none 0 0) (.slice none 0 0)), .int .i64 er]) (by simp [results, Tryz.results14, hld, asAddr, Act.put]) rfl ?_
    refine ⟨⟨_, rfl⟩, ?_⟩
    have hd : Shd.doN n c = (n.take c.m).1 := by simp [Shd.doN, HKD.out]
    rw [hd]
    exact HL5.out.but (by have := HQ.out; omega) hB9.out
  by_cases e2 : kd = 2
  · subst e2
    obtain ⟨on, hon⟩ : ∃ z, c.n = z := ⟨_, rfl⟩
    rw [hon] at k1 HW
    have HON := Lib.hid hon
    clear hon
    go_wp2_with fail
    refine (trim10_any HN1.out on HW.out _ c.upto (fun w' ht => (HF.out w' ht).hu)).mono ?_
    unfold GivesErr10
    rintro e w2 ⟨rfl, hl2⟩
    rw [← HON.out] at hl2 ⊢
    obtain ⟨er, her⟩ : ∃ z, (n.trim c.n c.upto).2 = z := ⟨_, rfl⟩
    rw [her]
    clear her
    have hlq := LeavesNode.since hl2 HE.out hat1.out.lt HC1.out
    have hat2 := Lib.hid (show MsgAt 36 w2 (q + 1) Msg.none0 (.slice none 0 0) (.slice none 0 0) (.slice none 0 0) (.slice none 0 0) from (hl2.stay HC1.out hat1.out.lt).trans hat1.out)
    have HLQ := Lib.hid hlq
    clear hl2 hlq
    go_wp2_with (refine putMR (m2 := Msg.none0) (r2 := .slice none 0 0) (e2 := .slice none 0 0) (s2 := .slice none 0 0) (d2 := .slice none 0 0) (by rfl) _ _ rfl rfl rfl hat2.out noSlice noSlice noSlice noSlice ?_; intro W9 hat9 hB9)
    have hld := run_loadVar_mid (P := Tryz.prog) W9 (q + 1) 0 36 _ _ (MsgAt.range hat9.out) Tryz.underlying36 rfl (by kernel_rfl)
    refine bodyPost_ret (v := .tuple #[.agg (msgCells Msg.none0 (.slice none 0 0) (.slice none 0 0) (.slice none 0 0) (.slice none 0 0)), .int .i64 er]) (by simp [results, Tryz.results14, hld, asAddr, Act.put]) rfl ?_
    refine ⟨⟨_, rfl⟩, ?_⟩
    have hd : Shd.doN n c = (n.trim c.n c.upto).1 := by simp [Shd.doN, HKD.out]
    rw [hd]
    exact HLQ.out.but (by have := HQ.out; omega) hB9.out
  by_cases e3 : kd = 3
  · subst e3
    go_wp2_with fail
    refine (sync10_any HN1.out HG.out.inv).mono ?_
    rintro e w2 ⟨rfl, hl2⟩
    have hlq := LeavesNode.since hl2 HE.out hat1.out.lt HC1.out
    have hat2 := Lib.hid (show MsgAt 36 w2 (q + 1) Msg.none0 (.slice none 0 0) (.slice none 0 0) (.slice none 0 0) (.slice none 0 0) from (hl2.stay HC1.out hat1.out.lt).trans hat1.out)
    have HLQ := Lib.hid hlq
    clear hl2 hlq
    go_wp2_with (refine putMR (m2 := Msg.none0) (r2 := .slice none 0 0) (e2 := .slice none 0 0) (s2 := .slice none 0 0) (d2 := .slice none 0 0) (by rfl) _ _ rfl rfl rfl hat2.out noSlice noSlice noSlice noSlice ?_; intro W9 hat9 hB9)
    have hld := run_loadVar_mid (P := Tryz.prog) W9 (q + 1) 0 36 _ _ (MsgAt.range hat9.out) Tryz.underlying36 rfl (by kernel_rfl)
    refine bodyPost_ret (v := .tuple #[.agg (msgCells Msg.none0 (.slice none 0 0) (.slice none 0 0) (.slice none 0 0) (.slice none 0 0)), .int .i64 0]) (by simp [results, Tryz.results14, hld, asAddr, Act.put]) rfl ?_
    refine ⟨⟨_, rfl⟩, ?_⟩
    have hd : Shd.doN n c = n.sync := by simp [Shd.doN, HKD.out]
    rw [hd]
    exact HLQ.out.but (by have := HQ.out; omega) hB9.out
  by_cases e4 : kd = 4
  · subst e4
    obtain ⟨on, hon⟩ : ∃ z, c.n = z := ⟨_, rfl⟩
    rw [hon] at k1 HW
    have HON := Lib.hid hon
    clear hon
    go_wp2_with fail
    refine (crash10_any HN1.out on (bounds_i64 HW.out)).mono ?_
    rintro e w2 ⟨rfl, hl2⟩
    rw [← HON.out] at hl2
    have hlq := LeavesNode.since hl2 HE.out hat1.out.lt HC1.out
    have hat2 := Lib.hid (show MsgAt 36 w2 (q + 1) Msg.none0 (.slice none 0 0) (.slice none 0 0) (.slice none 0 0) (.slice none 0 0) from (hl2.stay HC1.out hat1.out.lt).trans hat1.out)
    have HLQ := Lib.hid hlq
    clear hl2 hlq
    go_wp2_with (refine putMR (m2 := Msg.none0) (r2 := .slice none 0 0) (e2 := .slice none 0 0) (s2 := .slice none 0 0) (d2 := .slice none 0 0) (by rfl) _ _ rfl rfl rfl hat2.out noSlice noSlice noSlice noSlice ?_; intro W9 hat9 hB9)
    have hld := run_loadVar_mid (P := Tryz.prog) W9 (q + 1) 0 36 _ _ (MsgAt.range hat9.out) Tryz.underlying36 rfl (by kernel_rfl)
    refine bodyPost_ret (v := .tuple #[.agg (msgCells Msg.none0 (.slice none 0 0) (.slice none 0 0) (.slice none 0 0) (.slice none 0 0)), .int .i64 0]) (by simp [results, Tryz.results14, hld, asAddr, Act.put]) rfl ?_
    refine ⟨⟨_, rfl⟩, ?_⟩
    have hd : Shd.doN n c = n.crash c.n := by simp [Shd.doN, HKD.out]
    rw [hd]
    exact HLQ.out.but (by have := HQ.out; omega) hB9.out
  have hl2 : LeavesNode B x o col W1 n W1 := LeavesNode.refl HN1.out (Ext.refl _)
  have hlq := LeavesNode.since hl2 HE.out hat1.out.lt HC1.out
  have HLQ := Lib.hid hlq
  clear hl2 hlq
  go_wp2_with (refine putMR (m2 := Msg.none0) (r2 := .slice none 0 0) (e2 := .slice none 0 0) (s2 := .slice none 0 0) (d2 := .slice none 0 0) (by rfl) _ _ rfl rfl rfl hat1.out noSlice noSlice noSlice noSlice ?_; intro W9 hat9 hB9)
  have hld := run_loadVar_mid (P := Tryz.prog) W9 (q + 1) 0 36 _ _ (MsgAt.range hat9.out) Tryz.underlying36 rfl (by kernel_rfl)
  refine bodyPost_ret (v := .tuple #[.agg (msgCells Msg.none0 (.slice none 0 0) (.slice none 0 0) (.slice none 0 0) (.slice none 0 0)), .int .i64 0]) (by simp [results, Tryz.results14, hld, asAddr, Act.put]) rfl ?_
  refine ⟨⟨_, rfl⟩, ?_⟩
  have hd : Shd.doN n c = n := by simp [Shd.doN, HKD.out, e0, e1, e2, e3, e4]
  rw [hd]
  exact HLQ.out.but (by have := HQ.out; omega) hB9.out
end Go.Proofs.YtaijgpdlgcgfaaaGreat

namespace Go.Proofs.YtaijgpdlgcgfaaaGreat
set_option linter.unusedSimpArgs false
set_option linter.unusedVariables false
set_option maxRecDepth 100000
open Go.ChangeShapes Go.WideShapes Go.ChangeAt Go.RowKit
/- Layer 10: a row of calls, out of raw input. -/
/-- A call in the midst of a row. -/
def OpHere10 (w : World) (b off : Nat) (o : Shd.Op) : Prop := ∃ cs cd rt et sv dv u, w.rangeAt b off (opCells10 o cs cd rt et sv dv u).toList ∧ IsOp10 w o cs cd rt et sv dv u
theorem OpHere10.below {w w' : World} {b off : Nat} {o : Shd.Op} (h : OpHere10 w b off o) (hb : Below w.heap.size w w') : OpHere10 w' b off o := by
  obtain ⟨cs, cd, rt, et, sv, dv, u, h1, h2⟩ := h
  exact ⟨cs, cd, rt, et, sv, dv, u, fun j v hj => (hb.cell (p := ⟨b, off + j, none⟩) (World.block_lt_of_cell? w _ (h1 j v hj))).trans (h1 j v hj), h2.below hb⟩
def Ops10 (w : World) (v : Value) (l : List Shd.Op) : Prop :=
  ∃ (a : Option Addr) (cap : Nat), v = .slice a l.length cap ∧ l.length ≤ cap ∧ cap ≤ maxLen ∧ (a = none → cap = 0) ∧ ∀ i (h : i < l.length), ∃ b off, a = some ⟨b, off, none⟩ ∧ OpHere10 w b (off + i * 28) l[i]
theorem Ops10.below {w w' : World} {v : Value} {l : List Shd.Op} (h : Ops10 w v l) (hb : Below w.heap.size w w') : Ops10 w' v l := by
  obtain ⟨a, cap, rfl, h1, h2, h4, h3⟩ := h
  refine ⟨a, cap, rfl, h1, h2, h4, fun i hi => ?_⟩
  obtain ⟨b, off, e, hc⟩ := h3 i hi
  exact ⟨b, off, e, hc.below hb⟩
theorem Ops10.len {w : World} {a : Option Addr} {n c : Nat} {l : List Shd.Op} (h : Ops10 w (.slice a n c) l) : n = l.length ∧ n ≤ c ∧ c ≤ 9223372036854775807 := by
  obtain ⟨_, _, e, h1, h2, _⟩ := h
  injection e with e1 e2 e3
  subst e3
  unfold maxLen at h2
  omega
theorem OpHere10.ld {w : World} {b off : Nat} {o : Shd.Op} {cs cd rt et sv dv u : Value} (h : w.rangeAt b off (opCells10 o cs cd rt et sv dv u).toList) : (Instr.loadAt 44 (.pointer (some ⟨b, off, none⟩))).run Tryz.prog w = .ok (.agg (opCells10 o cs cd rt et sv dv u)) w :=
  run_loadAt_mid w b off 44 (opCells10 o cs cd rt et sv dv u).toList _ h Tryz.underlying44 rfl (by kernel_rfl)
section
variable {H : Type} {enc : TypeId × Value → H} {w : World} {base : Nat} {spare : Nat → Bool} {held : Bool}
theorem take_of_28 {l : List Value} (h : l.length = 28) : ∃ c0 c1 cc cm cu, cc.length = 3 ∧ cm.length = 22 ∧ l = c0 :: c1 :: (cc ++ (cm ++ [cu])) := by
  match l, h with
  | c0 :: c1 :: r, h =>
    have hr : r.length = 26 := by simpa using h
    have h1 : (r.take 3).length = 3 := by rw [List.length_take]; omega
    have h2 : ((r.drop 3).take 22).length = 22 := by rw [List.length_take, List.length_drop]; omega
    have h3 : ((r.drop 3).drop 22).length = 1 := by rw [List.length_drop, List.length_drop]; omega
    obtain ⟨cu, hcu⟩ := List.length_eq_one_iff.1 h3
    refine ⟨c0, c1, r.take 3, (r.drop 3).take 22, cu, h1, h2, ?_⟩
    rw [← hcu, List.take_append_drop, List.take_append_drop]
theorem op10_of_raw {fuel : Nat} {cs : List Value} {x : DataW H × List MemPlace} (h : DataW.trod enc Tryz.prog w base spare held fuel 44 cs = some x) :
    ∃ (o : Shd.Op) (c1 c2 rt et sv dv u : Value), cs = (opCells10 o c1 c2 rt et sv dv u).toList ∧ IsOp10 w o c1 c2 rt et sv dv u ∧ Wf64 o.n := by
  obtain ⟨xs, n, _, rfl, hl, hlen, hf⟩ := DataW.trod_struct Tryz.underlying44 h
  have hc : Tryz.prog.cellsOf 44 = 28 := by kernel_rfl
  have hi : Tryz.prog.cellsOf 3 = 1 := by kernel_rfl
  have hg : Tryz.prog.cellsOf 34 = 3 := by kernel_rfl
  have hm : Tryz.prog.cellsOf 36 = 22 := by kernel_rfl
  have hu : Tryz.prog.cellsOf 25 = 1 := by kernel_rfl
  rw [hc] at hl
  obtain ⟨c0, c1, cc, cm, cu, h3, h22, rfl⟩ := take_of_28 hl
  obtain ⟨y0, y1, y2, y3, y4, rfl⟩ : ∃ a b c d e, xs = [a, b, c, d, e] := by
    match xs, hlen with
    | [a, b, c, d, e], _ => exact ⟨a, b, c, d, e, rfl⟩
  have f0 : DataW.trod enc Tryz.prog w base spare held n 3 (List.take (Tryz.prog.cellsOf 3) (List.drop 0 (c0 :: c1 :: (cc ++ (cm ++ [cu]))))) = some y0 := hf 0 _ rfl
  have f1 : DataW.trod enc Tryz.prog w base spare held n 3 (List.take (Tryz.prog.cellsOf 3) (List.drop 1 (c0 :: c1 :: (cc ++ (cm ++ [cu]))))) = some y1 := hf 1 _ rfl
  have f2 : DataW.trod enc Tryz.prog w base spare held n 34 (List.take (Tryz.prog.cellsOf 34) (List.drop 2 (c0 :: c1 :: (cc ++ (cm ++ [cu]))))) = some y2 := hf 2 _ rfl
  have f3 : DataW.trod enc Tryz.prog w base spare held n 36 (List.take (Tryz.prog.cellsOf 36) (List.drop 5 (c0 :: c1 :: (cc ++ (cm ++ [cu]))))) = some y3 := hf 3 _ rfl
  have f4 : DataW.trod enc Tryz.prog w base spare held n 25 (List.take (Tryz.prog.cellsOf 25) (List.drop 27 (c0 :: c1 :: (cc ++ (cm ++ [cu]))))) = some y4 := hf 4 _ rfl
  have q2 : ((c0 :: c1 :: (cc ++ (cm ++ [cu]))).drop 2).take 3 = cc := List.take_left' h3
  have q3 : ((c0 :: c1 :: (cc ++ (cm ++ [cu]))).drop 5).take 22 = cm := by
    show ((cc ++ (cm ++ [cu])).drop 3).take 22 = cm
    rw [List.drop_left' h3, List.take_left' h22]
  have q4 : ((c0 :: c1 :: (cc ++ (cm ++ [cu]))).drop 27).take 1 = [cu] := by
    show ((cc ++ (cm ++ [cu])).drop 25).take 1 = [cu]
    rw [← List.append_assoc, List.drop_left' (by rw [List.length_append, h3, h22])]
    rfl
  rw [hi] at f0 f1
  rw [hg, q2] at f2
  rw [hm, q3] at f3
  rw [hu, q4] at f4
  simp only [List.drop_zero, List.drop_succ_cons, List.take_succ_cons, List.take_zero] at f0 f1
  obtain ⟨n0, e0, _, _⟩ := DataW.trod_int Tryz.underlying3 f0
  obtain ⟨n1, e1, _, hw1⟩ := DataW.trod_int Tryz.underlying3 f1
  obtain ⟨sv0, dv0, c, e2, i1, i2, _⟩ := confFull f2
  obtain ⟨rt, et, sv, dv, m, e3, j1, j2, j3, j4⟩ := msgFull f3
  obtain ⟨u, l, e4, hl4⟩ := ints_of_raw Tryz.underlying25 Tryz.underlying3 hi f4
  injection e0 with e0 _
  injection e1 with e1 _
  injection e4 with e4 _
  subst e0 e1 e2 e3 e4
  exact ⟨⟨n0, n1, c, m, l⟩, _, _, _, _, _, _, _, rfl, ⟨i1, i2, j1, j2, j3, j4, hl4⟩, hw1⟩
theorem ops10_of_raw {fuel : Nat} {cs : List Value} {x : DataW H × List MemPlace} (h : DataW.trod enc Tryz.prog w base spare held fuel 22 cs = some x) :
    ∃ v l, cs = [v] ∧ Ops10 w v l ∧ ∀ o ∈ l, Wf64 o.n := by
  have hc : Tryz.prog.cellsOf 44 = 28 := by kernel_rfl
  rcases DataW.trod_slice Tryz.underlying22 h with ⟨rfl, _⟩ | ⟨a, len, cap, elems, rest, n, _, rfl, rfl, _, hl, hm, hlen, hel, _, _⟩
  · exact ⟨_, [], rfl, ⟨none, 0, rfl, Nat.le_refl _, by simp [maxLen], fun _ => rfl, fun i hi => absurd hi (by simp)⟩, fun o ho => absurd ho (by simp)⟩
  · rw [hc] at hel
    have each : ∀ i (hi : i < elems.length), ∃ o : Shd.Op, Wf64 o.n ∧ ∃ c1 c2 rt et sv dv u : Value, IsOp10 w o c1 c2 rt et sv dv u ∧ ∀ j, j < 28 → w.cell? ((a.add (i * 28)).add j) = (opCells10 o c1 c2 rt et sv dv u).toList[j]? := by
      intro i hi
      have h1 := hel i (by omega)
      rw [List.getElem?_eq_getElem hi, Option.bind_eq_some_iff] at h1
      obtain ⟨ds, hds, hy⟩ := h1
      obtain ⟨o, c1, c2, rt, et, sv, dv, u, rfl, ht, hf⟩ := op10_of_raw hy
      exact ⟨o, hf, c1, c2, rt, et, sv, dv, u, ht, (World.cells?_some hds).2.2⟩
    obtain ⟨f, hf⟩ : ∃ f : Nat → Shd.Op, ∀ i (hi : i < elems.length), Wf64 (f i).n ∧ ∃ c1 c2 rt et sv dv u : Value, IsOp10 w (f i) c1 c2 rt et sv dv u ∧ ∀ j, j < 28 → w.cell? ((a.add (i * 28)).add j) = (opCells10 (f i) c1 c2 rt et sv dv u).toList[j]? := by
      have : ∀ i, ∃ o : Shd.Op, ∀ (hi : i < elems.length), Wf64 o.n ∧ ∃ c1 c2 rt et sv dv u : Value, IsOp10 w o c1 c2 rt et sv dv u ∧ ∀ j, j < 28 → w.cell? ((a.add (i * 28)).add j) = (opCells10 o c1 c2 rt et sv dv u).toList[j]? := by
        intro i
        by_cases hi : i < elems.length
        · obtain ⟨o, h1⟩ := each i hi
          exact ⟨o, fun _ => h1⟩
        · exact ⟨⟨0, 0, Msg.conf0, Msg.none0, []⟩, fun h => absurd h hi⟩
      exact ⟨fun i => (this i).choose, fun i => (this i).choose_spec⟩
    refine ⟨_, (List.range elems.length).map f, rfl, ⟨some a, cap, by simp [hlen], by simp; omega, hm, fun e => by simp at e, fun i hi => ?_⟩, fun o ho => ?_⟩
    · have hi' : i < elems.length := by simpa using hi
      obtain ⟨_, c1, c2, rt, et, sv, dv, u, ht, hk⟩ := hf i hi'
      have hs : a.spot = none := by
        obtain ⟨_, c1, c2, rt, et, sv, dv, u, _, hk0⟩ := hf 0 (by omega)
        have h0 := hk0 0 (by omega)
        have e0 : (a.add (0 * 28)).add 0 = a := by simp [Addr.add]
        rw [e0] at h0
        unfold World.cell? at h0
        cases hsp : a.spot with
        | none => rfl
        | some s =>
          exfalso
          rw [hsp] at h0
          simp only [opCells10, List.getElem?_cons_zero] at h0
          split at h0 <;> simp at h0
      obtain ⟨b, off, spot⟩ := a
      simp only at hs
      subst hs
      simp only [List.getElem_map, List.getElem_range]
      refine ⟨b, off, rfl, c1, c2, rt, et, sv, dv, u, fun j v hj => ?_, ht⟩
      have hj28 : j < 28 := (List.getElem?_eq_some_iff.1 hj).1
      have := hk j hj28
      rw [hj] at this
      simpa only [Addr.add_lit] using this
    · obtain ⟨i, hi, rfl⟩ := List.mem_map.1 ho
      exact (hf i (List.mem_range.1 hi)).1
end

def op010 : Shd.Op := ⟨0, 0, Msg.conf0, Msg.none0, []⟩
theorem opThere {w : World} {b : Nat} {o : Shd.Op} {cs cd rt et sv dv u : Value} (h : OpAt10 w b o cs cd rt et sv dv u) (k n : Nat) (hn : k + n ≤ 28) : w.there b k n := fun j hj => by
  refine ⟨?_, frozen_of_heap h _⟩
  rw [cell_of_heap h]
  have : k + j < (opCells10 o cs cd rt et sv dv u).size := by show _ < 28; omega
  rw [Array.getElem?_eq_getElem this]
  rfl
section
variable {ops : Array Oper} {rest : List Oper} {op : Oper} {a : Act} {w : World} {Q : Exit → Act → World → Prop}
/-- A call's block, new. -/
theorem allocO (hw : Region.wanted op (yielded ops a.tmps) = true) (ho : op.op = .alloc 44)
    (h : ∀ W b, Hid (OpAt10 W b op010 (.slice none 0 0) (.slice none 0 0) (.slice none 0 0) (.slice none 0 0) (.slice none 0 0) (.slice none 0 0) (.slice none 0 0)) → Hid (Ext w W) → Hid (b = w.heap.size) → wpList Tryz.prog ops Q rest (a.put op.dst (.pointer (some ⟨b, 0, none⟩))) W) : wpList Tryz.prog ops Q (op :: rest) a w :=
  BigFrame.wpList_want hw fun K hK => by
    have hr : (execOp a.eval op).run Tryz.prog w = .ok (.value (.pointer (some ⟨w.heap.size, 0, none⟩))) (w.alloc (.cells (opCells10 op010 (.slice none 0 0) (.slice none 0 0) (.slice none 0 0) (.slice none 0 0) (.slice none 0 0) (.slice none 0 0) (.slice none 0 0)) 44)) := by
      unfold execOp
      simp only [ho]
      kernel_rfl
    unfold Oper.wp
    rw [hr]
    exact hK _ _ (h _ _ (Lib.hid (heap_alloc_new w _)) (Lib.hid (Ext.alloc _ _)) (Lib.hid rfl))
/-- A call stored whole. -/
theorem putO {q : Nat} {o o2 : Shd.Op} {cs cd rt et sv dv u c2 d2 r2 e2 s2 v2 u2 : Value} (hw : Region.wanted op (yielded ops a.tmps) = true) (x y : Operand) (ho : op.op = .store 44 x y)
    (hx : a.eval x = .pointer (some ⟨q, 0, none⟩)) (hy : a.eval y = .agg (opCells10 o2 c2 d2 r2 e2 s2 v2 u2)) (hat : OpAt10 w q o cs cd rt et sv dv u) (h1 : ∃ a n c, c2 = .slice a n c) (h2 : ∃ a n c, d2 = .slice a n c) (h3 : ∃ a n c, r2 = .slice a n c) (h4 : ∃ a n c, e2 = .slice a n c) (h5 : ∃ a n c, s2 = .slice a n c) (h6 : ∃ a n c, v2 = .slice a n c) (h7 : ∃ a n c, u2 = .slice a n c)
    (h : ∀ W, Hid (OpAt10 W q o2 c2 d2 r2 e2 s2 v2 u2) → Hid (But q w W) → wpList Tryz.prog ops Q rest (a.put op.dst undef) W) : wpList Tryz.prog ops Q (op :: rest) a w :=
  BigFrame.wpList_want hw fun K hK => by
    have hs : (Instr.storeAt 44 (.pointer (some ⟨q, 0, none⟩)) (.agg (opCells10 o2 c2 d2 r2 e2 s2 v2 u2))).run Tryz.prog w = .ok () (w.setCells q 0 (opCells10 o2 c2 d2 r2 e2 s2 v2 u2).toList) := by
      obtain ⟨_, _, _, rfl⟩ := h1
      obtain ⟨_, _, _, rfl⟩ := h2
      obtain ⟨_, _, _, rfl⟩ := h3
      obtain ⟨_, _, _, rfl⟩ := h4
      obtain ⟨_, _, _, rfl⟩ := h5
      obtain ⟨_, _, _, rfl⟩ := h6
      obtain ⟨_, _, _, rfl⟩ := h7
      exact run_storeAt_mid w q 0 44 _ (opThere hat 0 28 (by omega)) (by kernel_rfl) (by simp [opCells10, Value.oneCell'])
    have k1 : OpAt10 (w.setCells q 0 (opCells10 o2 c2 d2 r2 e2 s2 v2 u2).toList) q o2 c2 d2 r2 e2 s2 v2 u2 := heap_setCells q _ (0, 0) (opCells10 o2 c2 d2 r2 e2 s2 v2 u2).toList [] (opCells10 o cs cd rt et sv dv u).toList 0 w hat rfl rfl
    have k2 : But q w (w.setCells q 0 (opCells10 o2 c2 d2 r2 e2 s2 v2 u2).toList) := but_setCells q _ _ _
    unfold Oper.wp execOp
    simp only [ho, hx, hy]
    rw [Sem.run_bind, hs]
    exact hK _ _ (h _ (Lib.hid k1) (Lib.hid k2))
end
theorem OpAt10.ld {w : World} {b : Nat} {o : Shd.Op} {cs cd rt et sv dv u : Value} (h : OpAt10 w b o cs cd rt et sv dv u) : (Instr.loadAt 44 (.pointer (some ⟨b, 0, none⟩))).run Tryz.prog w = .ok (.agg (opCells10 o cs cd rt et sv dv u)) w :=
  OpHere10.ld (fun j v hj => by rw [cell_of_heap h, ← Array.getElem?_toList]; simpa using hj)
/-- The slices of a call. -/
theorem IsOp10.slices {w : World} {o : Shd.Op} {cs cd rt et sv dv u : Value} (h : IsOp10 w o cs cd rt et sv dv u) : (∃ a n c, cs = .slice a n c) ∧ (∃ a n c, cd = .slice a n c) ∧ (∃ a n c, rt = .slice a n c) ∧ (∃ a n c, et = .slice a n c) ∧ (∃ a n c, sv = .slice a n c) ∧ (∃ a n c, dv = .slice a n c) ∧ (∃ a n c, u = .slice a n c) :=
  ⟨intsSlice h.hcs, irowsSlice h.hcd, intsSlice h.hrt, intsSlice h.het, intsSlice h.hsv, irowsSlice h.hdv, intsSlice h.hu⟩

def TellsBool (e : Ending) : Prop := ∃ b, e = .returned (.bool b)
theorem IRows.rowAt {w : World} {a : Option Addr} {n c : Nat} {ls : List (List Int)} (h : IRows w (.slice a n c) ls) : n ≤ c ∧ c ≤ 9223372036854775807 ∧ ∀ j, j < n → ∃ b off a' n' c', a = some ⟨b, off, none⟩ ∧ w.cell? ⟨b, off + j, none⟩ = some (.slice a' n' c') := by
  obtain ⟨a', cap, e, h1, h2, h3⟩ := h.open
  injection e with e1 e2 e3
  subst e1 e2 e3
  unfold maxLen at h2
  refine ⟨h1, h2, fun j hj => ?_⟩
  obtain ⟨b, off, x, e, hc, hi⟩ := h3 j hj
  obtain ⟨a2, n2, c2, rfl⟩ := intsSlice hi
  exact ⟨b, off, a2, n2, c2, e, hc⟩
set_option maxHeartbeats 16000000 in
theorem few10_any (v : Value) (l : List Shd.Op) (w : World) (hv : Ops10 w v l) :
    Calls Tryz.prog 12 #[v] w fun e w' => TellsBool e ∧ Ext w w' := by
  have HV := Lib.hid hv
  obtain ⟨a, cap, rfl, hcap, hmax, _, _⟩ := hv
  unfold maxLen at hmax
  obtain ⟨n, hn⟩ : ∃ n, l.length = n := ⟨_, rfl⟩
  have HN := Lib.hid hn
  rw [hn] at HV hcap ⊢
  clear hn
  go_enter Tryz.func12, Tryz.ntmps12
  go_wp2_with fail
  go_loopw [3, 12] (fun s i wr => ∃ (k : Nat) (M : Int), k ≤ n ∧ s = .int .i64 M ∧ i = .int .i64 k ∧ Ext w wr) (fun _ i _ => n - (intOf i).toNat)
  case atStart => exact ⟨0, 0, by omega, rfl, rfl, Ext.refl _⟩
  case round =>
    obtain ⟨k, M, hk, rfl, rfl, hE⟩ := hrel
    by_cases hlt : k < n
    · have hkl : k < l.length := by rw [HN.out]; exact hlt
      obtain ⟨_, _, e', _, _, _, hc⟩ := HV.out.below hE
      obtain ⟨b, off, rfl, cs, cd, rt, et, sv, dv, u, hr, ho⟩ := hc k hkl
      injection e' with e1 e2 e3
      subst e1
      have hld := OpHere10.ld hr
      obtain ⟨⟨a1, n1, c1, rfl⟩, ⟨a2, n2, c2, rfl⟩, ⟨a3, n3, c3, rfl⟩, ⟨a4, n4, c4, rfl⟩, ⟨a5, n5, c5, rfl⟩, ⟨a6, n6, c6, rfl⟩, ⟨a7, n7, c7, rfl⟩⟩ := ho.slices
      obtain ⟨o, hO⟩ : ∃ o, l[k] = o := ⟨_, rfl⟩
      rw [hO] at ho hld
      have HO := Lib.hid ho
      have HE := Lib.hid hE
      clear hc hr ho hO e2 e3 hE
      go_upto_region 5 with (first
        | (refine ldAny (by rfl) _ rfl rfl hld ?_)
        | (refine allocO (by rfl) rfl ?_; intro W1 q hat1 hE1 hq1)
        | (refine putO (by rfl) _ _ rfl rfl rfl hat1.out ⟨_, _, _, rfl⟩ ⟨_, _, _, rfl⟩ ⟨_, _, _, rfl⟩ ⟨_, _, _, rfl⟩ ⟨_, _, _, rfl⟩ ⟨_, _, _, rfl⟩ ⟨_, _, _, rfl⟩ ?_; intro W2 hat2 hB2))
      have hE2 : Ext wr W2 := Below.trans (B := wr.heap.size) hE1.out (hB2.out.below (Nat.le_of_eq hq1.out.symm) hE1.out.size)
      have HE2 := Lib.hid (HE.out.trans hE2)
      have hcf : ∀ i x, (opCells10 o (.slice a1 n1 c1) (.slice a2 n2 c2) (.slice a3 n3 c3) (.slice a4 n4 c4) (.slice a5 n5 c5) (.slice a6 n6 c6) (.slice a7 n7 c7))[i]? = some x → W2.cell? ⟨q, i, none⟩ = some x := fun i x h => (cell_of_heap hat2.out i).trans h
      have p3 : W2.cell? ⟨q, 3, none⟩ = some (.slice a1 n1 c1) := hcf 3 _ rfl
      have p4 : W2.cell? ⟨q, 4, none⟩ = some (.slice a2 n2 c2) := hcf 4 _ rfl
      have p14 : W2.cell? ⟨q, 14, none⟩ = some (.slice a3 n3 c3) := hcf 14 _ rfl
      have p15 : W2.cell? ⟨q, 15, none⟩ = some (.string ⟨o.m.reco.data.toArray⟩) := hcf 15 _ rfl
      have p18 : W2.cell? ⟨q, 18, none⟩ = some (.slice a4 n4 c4) := hcf 18 _ rfl
      have p25 : W2.cell? ⟨q, 25, none⟩ = some (.slice a5 n5 c5) := hcf 25 _ rfl
      have p26 : W2.cell? ⟨q, 26, none⟩ = some (.slice a6 n6 c6) := hcf 26 _ rfl
      have p27 : W2.cell? ⟨q, 27, none⟩ = some (.slice a7 n7 c7) := hcf 27 _ rfl
      obtain ⟨d, hd⟩ : ∃ d : ByteArray, (⟨o.m.reco.data.toArray⟩ : ByteArray) = d := ⟨_, rfl⟩
      rw [hd] at p15
      have HR2 := Lib.hid (HO.out.hcd.below hE2)
      have HR6 := Lib.hid (HO.out.hdv.below hE2)
      clear hcf hd hE1 hq1 hat1 hat2 hB2 hld hE2
      obtain ⟨q1, q2, hrow2⟩ := HR2.out.rowAt
      obtain ⟨q3, q4, hrow6⟩ := HR6.out.rowAt
      have HROW2 := Lib.hid hrow2
      have HROW6 := Lib.hid hrow6
      clear hrow2 hrow6
      go_wp2_with fail
      go_loopw [3, 54] (fun s i wi => ∃ (j : Nat) (M : Int), j ≤ n2 ∧ s = .int .i64 M ∧ i = .int .i64 j ∧ wi = W2) (fun _ i _ => n2 - (intOf i).toNat)
      case atStart => exact ⟨0, _, by omega, rfl, rfl, rfl⟩
      case round =>
        obtain ⟨j, M2, hj, rfl, rfl, hw⟩ := hrel
        have hw := hw.symm
        subst hw
        by_cases hlj : j < n2
        · obtain ⟨bj, oj, aj, nj, cj, rfl, hcj⟩ := HROW2.out j hlj
          go_wp2_with fail
          exact ⟨⟨j + 1, _, by omega, rfl, by simp, by first | trivial | rfl⟩, by simp [intOf]; omega⟩
        · obtain rfl : j = n2 := by omega
          go_wp2_with fail
          go_loopw [3, 69] (fun s i wi => ∃ (j : Nat) (M : Int), j ≤ n6 ∧ s = .int .i64 M ∧ i = .int .i64 j ∧ wi = W2) (fun _ i _ => n6 - (intOf i).toNat)
          case atStart => exact ⟨0, _, by omega, rfl, rfl, rfl⟩
          case round =>
            obtain ⟨j, M3, hj, rfl, rfl, hw⟩ := hrel
            have hw := hw.symm
            subst hw
            by_cases hlj : j < n6
            · obtain ⟨bj, oj, aj, nj, cj, rfl, hcj⟩ := HROW6.out j hlj
              go_wp2_with fail
              exact ⟨⟨j + 1, _, by omega, rfl, by simp, by first | trivial | rfl⟩, by simp [intOf]; omega⟩
            · obtain rfl : j = n6 := by omega
              go_wp2_with fail
              exact ⟨⟨k + 1, _, by omega, rfl, by simp, HE2.out⟩, by simp [intOf]; omega⟩
    · obtain rfl : k = n := by omega
      by_cases h60 : k ≤ 60
      · go_wp2_with fail
        go_ret
        exact And.intro ⟨_, rfl⟩ hE
      · go_wp2_with fail
        go_ret
        exact And.intro ⟨_, rfl⟩ hE
end Go.Proofs.YtaijgpdlgcgfaaaGreat

namespace Go.Proofs.YtaijgpdlgcgfaaaGreat
set_option linter.unusedSimpArgs false
set_option linter.unusedVariables false
set_option maxRecDepth 100000
open Go.RowKit
/- Layer 10: how far a node is, is a vector. -/
theorem Shd.prog_right {n : Shd.Nd} (h : Shd.Good n) {t : Int} {v : List Int} (hv : n.progress t = some v) : Vec.right v = true := by
  unfold Shd.Nd.progress at hv
  cases hc : n.conf t with
  | none => rw [hc] at hv; cases hv
  | some c =>
    rw [hc] at hv
    injection hv with hv
    have hs := (rightSmall (h.conf hc)).2.1
    subst hv
    unfold Vec.right
    simp only [List.length_map, List.length_range]
    have h1 : 1 ≤ c.shards.length := by
      apply Classical.byContradiction
      intro hn
      have := rightNo (c := c) (.inr (.inr (.inl (by omega))))
      rw [h.conf hc] at this
      cases this
    rw [Bool.and_eq_true, decide_eq_true_eq]
    refine ⟨List.all_eq_true.2 fun x hx => ?_, h1, hs⟩
    obtain ⟨s, _, rfl⟩ := List.mem_map.1 hx
    unfold Vec.okOne
    cases hf : n.find t (s : Int) with
    | none => rfl
    | some G =>
      have h2 := (h.inv.find hf).1
      have h3 := h2.safe_le
      have h4 := Seg.Sg.Ok.count h2.ok
      simp
      omega
theorem Shd.rises {n n' : Shd.Nd} (h : Shd.Good n) (h' : Shd.Good n') (hl : Shd.Le n n') {t : Int} {v : List Int} (hv : n.progress t = some v) : ∃ v', n'.progress t = some v' ∧ v'.length = v.length ∧ Vec.covers v' v = true := by
  obtain ⟨v', h1, h2, h3⟩ := hl.progress hv
  refine ⟨v', h1, h2, ?_⟩
  have hk : Vec.kind v' v = true := by
    unfold Vec.kind
    rw [Shd.prog_right h' h1, Shd.prog_right h hv]
    simp [h2]
  unfold Vec.covers
  rw [hk, Vec.ge_all h2 (fun i hi h1 h2 => h3 i h2 h1)]
  rfl
theorem Ops10.at {W : World} {a : Option Addr} {n c : Nat} {l : List Shd.Op} (h : Ops10 W (.slice a n c) l) (k : Nat) (hk : k < l.length) : ∃ b off a1 n1 c1 a2 n2 c2 a3 n3 c3 a4 n4 c4 a5 n5 c5 a6 n6 c6 a7 n7 c7, a = some ⟨b, off, none⟩ ∧
    (∀ w', Below W.heap.size W w' → IsOp10 w' l[k] (.slice a1 n1 c1) (.slice a2 n2 c2) (.slice a3 n3 c3) (.slice a4 n4 c4) (.slice a5 n5 c5) (.slice a6 n6 c6) (.slice a7 n7 c7)) ∧
    ∀ w', Below W.heap.size W w' → (Instr.loadAt 44 (.pointer (some ⟨b, off + k * 28, none⟩))).run Tryz.prog w' = .ok (.agg (opCells10 l[k] (.slice a1 n1 c1) (.slice a2 n2 c2) (.slice a3 n3 c3) (.slice a4 n4 c4) (.slice a5 n5 c5) (.slice a6 n6 c6) (.slice a7 n7 c7))) w' := by
  obtain ⟨_, _, e', _, _, _, hc⟩ := h
  obtain ⟨b, off, rfl, cs, cd, rt, et, sv, dv, u, hr, ho⟩ := hc k hk
  injection e' with e1 e2 e3
  subst e1
  obtain ⟨⟨a1, n1, c1, rfl⟩, ⟨a2, n2, c2, rfl⟩, ⟨a3, n3, c3, rfl⟩, ⟨a4, n4, c4, rfl⟩, ⟨a5, n5, c5, rfl⟩, ⟨a6, n6, c6, rfl⟩, ⟨a7, n7, c7, rfl⟩⟩ := ho.slices
  exact ⟨b, off, a1, n1, c1, a2, n2, c2, a3, n3, c3, a4, n4, c4, a5, n5, c5, a6, n6, c6, a7, n7, c7, rfl, fun w' hb => ho.below hb, fun w' hb => OpHere10.ld fun j v hj => (hb.cell (p := ⟨b, off + k * 28 + j, none⟩) (World.block_lt_of_cell? W _ (hr j v hj))).trans (hr j v hj)⟩
theorem Below.ofTws {W w w' : World} (hE : Ext W w) (ht : TwS (fun k => W.heap.size ≤ k) w w') : Below W.heap.size W w' :=
  Below.trans (B := W.heap.size) hE ⟨ht.os, ht.tape, ht.output, ht.size, fun k hk => ht.block k (Nat.lt_of_lt_of_le hk hE.size) (by omega)⟩
theorem Shd.take_err {n : Shd.Nd} {m : Msg.M} (h : (n.take m).2.2 ≠ 0) : (n.take m).2.1 = Msg.none0 := by
  unfold Shd.Nd.take at h ⊢
  split at h
  · next h1 => rw [if_pos h1]
  · next h1 =>
    rw [if_neg h1]
    cases hf : n.find m.term m.shard with
    | none => rfl
    | some G =>
      rw [hf] at h
      simp only at h ⊢
      split at h
      · next h2 => rw [if_pos h2]
      · next h2 =>
        rw [if_neg h2]
        simp only at h ⊢
        rw [if_neg h]
theorem Shd.take_bounds {n : Shd.Nd} {m : Msg.M} (h : (n.take m).2.2 = 0) : Msg.right m = true := by
  unfold Shd.Nd.take at h
  split at h
  · cases h
  · next h1 =>
    cases hr : Msg.right m with
    | true => rfl
    | false => exact absurd (.inr (.inr hr)) h1
theorem OwnI.stay {w w' : World} {base : Nat} {v : Value} {l : List Int} {col : Nat → Nat} (h : OwnI w base v l) (hc : ∀ k, base ≤ k → col k = 0) (hst : ∀ k, k < w.heap.size → col k = 0 → w'.heap[k]? = w.heap[k]?) : OwnI w' base v l :=
  rowOwn h fun k hk => hst k (h.lt k hk).2 (hc k (h.lt k hk).1)
end Go.Proofs.YtaijgpdlgcgfaaaGreat

namespace Go.Proofs.YtaijgpdlgcgfaaaGreat
set_option linter.unusedSimpArgs false
set_option linter.unusedVariables false
set_option maxRecDepth 100000
open Go.RowKit Go.Shelf Go.Maps
/- Layer 10: Terms. -/
theorem sorts10 (m : Nat) : AnyZI.SortsIn Tryz.prog sortedIntsL_ren Fence.wide m :=
  ⟨fun blk off cap ss W hH hblk hsz => callsIn_wide.2 (AnyM.slices_Sort_int sortIntsL blk off cap ss W hH hblk hsz),
   fun p cap W => callsIn_wide.2 (AnyM.slices_Sort_int_none sortIntsL p cap W)⟩
theorem keys10_any (mb : Option Nat) (w : World) : Calls Tryz.prog 70 #[.map mb] w fun e w' => e = .returned (.func (.func 119) #[] #[.pointer (some ⟨w.heap.size, 0, none⟩)]) ∧ w' = w.alloc (.cells #[.map mb] 115) :=
  (callsIn_wide (n := 5)).1 (AnyZI.keys_in keysIntsL Fence.wide 5 trivial rfl mb w)
set_option maxHeartbeats 1000000 in
theorem sorted10_any (b nn : Nat) (D0 : DataW Unit) (R : Value → Option (DataW Unit × List MemPlace)) (w : World) (hown : w.ownsMap Tryz.prog 3 R b nn D0) (hmax : Maps.size D0 ≤ maxLen) (hbytes : Maps.size D0 * 8 ≤ 140737488355328) :
    Calls Tryz.prog 69 #[.func (.func 119) #[] #[.pointer (some ⟨w.heap.size, 0, none⟩)]] (w.alloc (.cells #[.map (some b)] 115)) fun e w' => ∃ (v : Value) (ss : List Int), e = .returned v ∧ ss.Perm (intKeys D0) ∧
      w'.ownsRow (w.alloc (.cells #[.map (some b)] 115)).heap.size 3 1 v ss.length ((ss.mergeSort (fun x y => decide (x ≤ y))).map encZ) ∧ (v = .slice none 0 0 ↔ ss = []) ∧ Below (w.alloc (.cells #[.map (some b)] 115)).heap.size (w.alloc (.cells #[.map (some b)] 115)) w' := by
  refine (callsIn_wide (n := 6)).1 ?_
  have hbl := hown.lt
  have hseq : SeqGives Fence.wide 3 Tryz.prog 119 #[.pointer (some ⟨w.heap.size, 0, none⟩)] encZ (fun ss => ss.Perm (intKeys D0)) (Maps.size D0) (w.alloc (.cells #[.map (some b)] 115)) :=
    AnyZI.keys_gives (ρ := keysIntsL_ren) { keysIntsL with } Fence.wide _ trivial rfl (by omega) w.heap.size b nn D0 _ (by simp) (by simp) (by
      obtain ⟨es, clock, hb, Ft, hs, hD⟩ := hown
      exact ⟨es, clock, (Below.heap_alloc _ _ b hbl).trans hb, Ft, hs, hD⟩)
  exact AnyZI.sorted_in sortedIntsL Fence.wide 6 trivial trivial trivial trivial rfl (by omega) (sorts10 _) (enters_of Tryz.func118 (by kernel_rfl) rfl) 119 #[.pointer (some ⟨w.heap.size, 0, none⟩)] trivial (enters_of Tryz.func119 (by kernel_rfl) rfl) _ _ hmax hbytes _ hseq
theorem MapB.ownsMap {P : Program} {k : TypeId} {w : World} {b : Nat} {m : List (Value × Value)} (h : MapB P k w b m) (hl : m.length ≤ 1) : ∃ D0 : DataW Unit, w.ownsMap P k (fun _ => some (.agg [], [])) b 1 D0 ∧ (intKeys D0).length = m.length ∧ Maps.size D0 = m.length := by
  obtain ⟨es, clock, hb, he, hborn, hnd⟩ := h.at'
  have hlen : es.toList.length = m.length := by rw [← he]; simp
  have hkeys : ∀ x ∈ es.toList, ∃ l, keyOf P k x.key = some l := fun x hx => h.keys (x.key, x.val) (by rw [← he]; exact List.mem_map_of_mem (f := fun e : MapEntry => (e.key, e.val)) hx)
  have honce : es.toList.Pairwise (fun x y => x.key ≠ y.key) := by
    have h1 := h.once
    rw [← he, List.map_map] at h1
    exact List.pairwise_map.1 h1
  have hlist : ((es.toList.map (Go.WideElems.rg P k (fun _ => some ((.agg [] : DataW Unit), ([] : List MemPlace))))).foldr DataW.insert []).length = es.toList.length := by
    match hes : es.toList with
    | [] => rfl
    | [x] => rfl
    | x :: y :: r => rw [hes] at hlen; simp at hlen; omega
  have hsz : es.size = m.length := by rw [← hlen]; simp
  have hmx : es.size ≤ maxLen := by unfold maxLen; omega
  have h1 : es.size ≤ 1 := by omega
  refine ⟨_, ⟨es, clock, hb, ⟨hmx, (Go.MapKept.stamped_iff es clock).2 ⟨hborn, hnd, honce⟩, fun x hx => ?_⟩, h1, rfl⟩, ?_, ?_⟩
  · obtain ⟨l, hk⟩ := hkeys x hx
    refine ⟨(l, .agg []), ?_⟩
    unfold Go.WideElems.rd
    rw [hk]
    rfl
  · show (List.map _ _).length = _
    rw [List.length_map, hlist, hlen]
  · show List.length _ = _
    rw [hlist, hlen]
theorem terms10_any {w : World} {B x M1 M2 o : Nat} {col : Nat → Nat} {cvs : List (Value × Term.C)} {gvs : List (Nat × (Int × Int) × Seg.Sg)} {n : Shd.Nd} (h : NodeC w B x M1 M2 o col cvs gvs n) (hl : n.cs.length ≤ 1) :
    Calls Tryz.prog 25 #[.pointer (some ⟨x, 0, none⟩)] w fun e w' => (∃ a c, e = .returned (.slice a n.cs.length c)) ∧ Ext w w' := by
  have hcl : (confsOf cvs).length = n.cs.length := by
    rw [← h.cs]
    simp [confsOf]
  obtain ⟨D0, ho, h1, h2⟩ := h.blk.confs.ownsMap (by rw [hcl]; exact hl)
  rw [hcl] at h1 h2
  have c1 : w.cell? ⟨x, 1, none⟩ = some (.map (some M1)) := cell_of_heap h.blk.heap 1
  have HS := Lib.hid (sorted10_any M1 1 D0 _ w ho (by unfold maxLen; omega) (by omega))
  obtain ⟨L, hL⟩ : ∃ z, n.cs.length = z := ⟨_, rfl⟩
  rw [hL] at h1 hl ⊢
  have HL := Lib.hid h1
  clear h ho hcl h1 h2 hL hl
  go_enter Tryz.func25, Tryz.ntmps25
  go_wp2_with fail
  refine (keys10_any (some M1) w).mono ?_
  rintro e w1 ⟨rfl, rfl⟩
  go_wp2_with fail
  refine HS.out.mono ?_
  rintro e w2 ⟨v, ss, rfl, hp, hrow, _, hB⟩
  have hE2 : Ext w w2 := (Ext.alloc w _).trans hB
  have hss : ss.length = L := by rw [hp.length_eq]; exact HL.out
  obtain ⟨a, nn, c, rfl⟩ := ownSlice hrow
  have hnn : nn = L := by
    rcases hrow.2 with ⟨e, e2⟩ | ⟨g, cap, cur, e, _⟩
    · injection e with _ e3 _
      omega
    · injection e with _ e3 _
      omega
  subst hnn
  have HE2 := Lib.hid hE2
  clear hE2 hss hrow hp hB
  go_wp2_with fail
  go_ret
  exact ⟨⟨_, _, rfl⟩, HE2.out⟩
end Go.Proofs.YtaijgpdlgcgfaaaGreat
