/-
  Merged: Layer 11: Take.
-/
import Derived.Test.YtckdofhcifdpmaaGreatBsRpH

namespace Go.Proofs.YtckdofhcifdpmaaGreat
set_option linter.unusedSimpArgs false
set_option linter.unusedVariables false
set_option maxRecDepth 100000
open Go.RowKit
/- Layer 11: Take. -/
theorem Msg.right_ent {m : Msg.M} (h : Msg.right m = true) (hk : m.kind = 3) : Ent.right m.ent = true := by
  unfold Msg.right Msg.kindOk at h
  rw [if_neg (by omega), if_neg (by omega), if_pos hk] at h
  simp only [Bool.and_eq_true] at h
  exact h.2.2.2.2.2
theorem Rep.take_bad {r : Rep.Rp} {m : Msg.M} (h : m.dst ≠ r.id ∨ m.term ≠ r.term ∨ Msg.right m = false) : r.take m = (r, Msg.none0, 1) := by
  unfold Rep.Rp.take
  rw [if_pos h]
theorem Rep.take_order {r : Rep.Rp} {m : Msg.M} (h : ¬(m.dst ≠ r.id ∨ m.term ≠ r.term ∨ Msg.right m = false)) (hk : m.kind = 3) : r.take m = Rep.tell (r.order m.ent) 4 m (r.orderErr m.ent) := by
  unfold Rep.Rp.take
  rw [if_neg h, if_pos hk]
theorem Rep.take_shut {r : Rep.Rp} {m : Msg.M} (h : ¬(m.dst ≠ r.id ∨ m.term ≠ r.term ∨ Msg.right m = false)) (hk : m.kind = 5) : r.take m = Rep.tell r.shut 6 m r.shutErr := by
  unfold Rep.Rp.take
  rw [if_neg h, if_neg (by omega), if_pos hk]
theorem Rep.take_none {r : Rep.Rp} {m : Msg.M} (h : ¬(m.dst ≠ r.id ∨ m.term ≠ r.term ∨ Msg.right m = false)) (h3 : m.kind ≠ 3) (h5 : m.kind ≠ 5) : r.take m = (r, Msg.none0, 1) := by
  unfold Rep.Rp.take
  rw [if_neg h, if_neg h3, if_neg h5]
theorem LeavesRep.fill {B x q : Nat} {S : Nat → Prop} {w W1 w3 W9 : World} {r : Rep.Rp} (hE : Ext w W1) (h : LeavesRep B S x W1 r w3) (hq : w.heap.size ≤ q) (hq1 : q < W1.heap.size) (hS : ¬ S q) (hb : But q w3 W9) : LeavesRep B S x w r W9 := by
  obtain ⟨⟨p, va, vp, ev, es, h1⟩, h2⟩ := h
  refine ⟨⟨p, va, vp, ev, es, (h1.keep fun k hk hs => hb.block k hk fun e => ?_).wider fun k hk hs => ?_⟩, ?_⟩
  · subst e
    rcases hs with hs | hs
    · exact hS hs
    · omega
  · rcases hs with hs | hs
    · exact .inl hs
    · exact .inr ⟨Nat.le_trans hE.size hs.1, hk⟩
  · exact ((TwS.ext hE).trans h2).andThen (TwS.but (S := fun k => k = q) hb rfl) fun i hi e => by omega
theorem IsMsg.cells11 {w : World} {m : Msg.M} {rt et sv dv : Value} (h : IsMsg w (.agg (msgCells m rt et sv dv)) m) : Ints w rt m.reco.tags ∧ Ints w et m.ent.cut ∧ Ints w sv m.conf.seqs ∧ IRows w dv m.conf.shards := by
  obtain ⟨a, b, c, d, e, h1, h2, h3, h4⟩ := h
  injection e with e
  simp [msgCells] at e
  obtain ⟨rfl, rfl, rfl, rfl⟩ := e
  exact ⟨h1, h2, h3, h4⟩
set_option maxHeartbeats 40000000 in
theorem take11_any {w : World} {B x p : Nat} {S : Nat → Prop} {va vp ev : Value} {es : List (Value × Ent.E)} {r : Rep.Rp} (h : IsRepS w B S x p va vp ev es r) (hsl : ∀ k, S k → k < w.heap.size) (v : Value) (m : Msg.M) (hv : ∀ w', TwS S w w' → IsMsg w' v m) :
    Calls Tryz.prog 26 #[.pointer (some ⟨x, 0, none⟩), v] w (GivesTold B S x w (r.take m)) := by
  have hbx := box_msg
  have hbd0 := build_msg0
  obtain ⟨a0, n0, k0, a1, n1, k1, a2, n2, k2, a3, n3, k3, rfl, _⟩ := (hv w (TwS.ext (Ext.refl w))).opened
  have HN := Lib.hid h
  have HV := Lib.hid hv
  have HSL := Lib.hid hsl
  obtain ⟨id, hid⟩ : ∃ i, r.id = i := ⟨_, rfl⟩
  obtain ⟨tr, htr⟩ : ∃ i, r.term = i := ⟨_, rfl⟩
  have hxh := h.at'.heap
  rw [hid, htr] at hxh
  have HX := Lib.hid hxh
  have HID := Lib.hid (And.intro hid htr)
  obtain ⟨wa, hwa⟩ : ∃ z, w.alloc (.cells #[.pointer (some ⟨x, 0, none⟩)] 34) = z := ⟨_, rfl⟩
  obtain ⟨q, hq⟩ : ∃ z, w.heap.size = z := ⟨_, rfl⟩
  have hEa : Ext w wa := by rw [← hwa]; exact Ext.alloc _ _
  have hza : wa.heap.size = q + 1 := by rw [← hwa, World.size_alloc, hq]
  have hb0 : wa.heap[q]? = some (.cells #[.pointer (some ⟨x, 0, none⟩)] 34 (0, 0)) := by rw [← hwa, ← hq]; exact heap_alloc_new _ _
  have HWA := Lib.hid (And.intro hwa hq)
  have HEA := Lib.hid (And.intro hEa (And.intro hza hb0))
  clear h hv hsl hid htr hxh hwa hq hEa hza hb0
  go_enter Tryz.func26, Tryz.ntmps26
  go_upto_region 1 with (refine allocM (by rfl) rfl ?_; intro W1 q2 hat1 hE1 hq2)
  have e1 := hE1.out
  have s2 := hq2.out
  rw [HWA.out.1] at e1 s2
  rw [World.size_alloc, HEA.out.2.1] at s2
  have hEw : Ext wa (wa.alloc (.cells (msgCells m (.slice a0 n0 k0) (.slice a1 n1 k1) (.slice a2 n2 k2) (.slice a3 n3 k3)) 79)) := Ext.alloc _ _
  have hm1 : MsgAt 79 W1 (q + 1) m (.slice a0 n0 k0) (.slice a1 n1 k1) (.slice a2 n2 k2) (.slice a3 n3 k3) := by
    rw [← HEA.out.2.1]
    exact (MsgAt.new 79 wa m (.slice a0 n0 k0) (.slice a1 n1 k1) (.slice a2 n2 k2) (.slice a3 n3 k3)).ext e1
  subst s2
  have hE01 := (HEA.out.1.trans hEw).trans e1
  have HE1 := Lib.hid hE01
  have HM1 := Lib.hid hm1
  have HB1 := Lib.hid (heap_ext HEA.out.2.2 (hEw.trans e1))
  have HX1 := Lib.hid (heap_ext HX.out hE01)
  have HN1 := Lib.hid (HN.out.ext hE01)
  have HAT := Lib.hid hat1.out
  obtain ⟨ds, hds⟩ : ∃ z, m.dst = z := ⟨_, rfl⟩
  obtain ⟨tm, htm⟩ : ∃ z, m.term = z := ⟨_, rfl⟩
  have hcc := fun w' (h : Ext W1 w') => (HM1.out.ext h).head
  rw [hds, htm] at hcc
  have HC := Lib.hid hcc
  have HDT := Lib.hid (And.intro hds htm)
  rw [HWA.out.2]
  clear e1 hEw hm1 hE01 hE1 hq2 hat1 hcc hds htm hbx
  by_cases hd : ds = id
  case neg =>
    have hb1 : (ds == id) = false := by simpa using hd
    have hb2 : (ds != id) = true := by simpa using hd
    obtain ⟨c0, c1, c2, c3, c4, c5, c6⟩ := HC.out W1.drew (Ext.drew _)
    have b0 : W1.drew.cell? ⟨q, 0, none⟩ = some (.pointer (some ⟨x, 0, none⟩)) := cell_of_heap (heap_ext HB1.out (Ext.drew _)) 0
    have x0 : W1.drew.cell? ⟨x, 0, none⟩ = some (.int .i64 id) := cell_of_heap (heap_ext HX1.out (Ext.drew _)) 0
    have HT := Lib.hid (Rep.take_bad (r := r) (m := m) (.inl (by rw [HDT.out.1, HID.out.1]; exact hd)))
    go_region
    clear c0 c1 c2 c3 c4 c5 c6 b0 x0
    have hat2 := Lib.hid (HAT.out.ext (Ext.drew W1))
    go_wp2_with (refine putM (m2 := Msg.none0) (r2 := .slice none 0 0) (e2 := .slice none 0 0) (s2 := .slice none 0 0) (d2 := .slice none 0 0) (by rfl) _ _ rfl rfl rfl hat2.out noSlice noSlice noSlice noSlice ?_; intro W9 hat9 hB9)
    have hld := run_loadVar_mid (P := Tryz.prog) W9 (q + 1 + 1) 0 79 _ _ (MsgAt.range hat9.out) Tryz.underlying79 rfl (by kernel_rfl)
    refine bodyPost_ret (v := .tuple #[.agg (msgCells Msg.none0 (.slice none 0 0) (.slice none 0 0) (.slice none 0 0) (.slice none 0 0)), .int .i64 1]) (by simp [results, Tryz.results26, hld, asAddr, Act.put]) rfl ?_
    rw [HT.out]
    exact ⟨rfl, LeavesRep.refl HN.out (Ext.newQ11 (HE1.out.trans (Ext.drew _)) (by have := HWA.out.2; omega) hB9.out)⟩
  subst hd
  by_cases ht : tm = tr
  case neg =>
    have hb1 : (tm == tr) = false := by simpa using ht
    have hb2 : (tm != tr) = true := by simpa using ht
    obtain ⟨c0, c1, c2, c3, c4, c5, c6⟩ := HC.out W1.drew (Ext.drew _)
    have b0 : W1.drew.cell? ⟨q, 0, none⟩ = some (.pointer (some ⟨x, 0, none⟩)) := cell_of_heap (heap_ext HB1.out (Ext.drew _)) 0
    have x0 : W1.drew.cell? ⟨x, 0, none⟩ = some (.int .i64 ds) := cell_of_heap (heap_ext HX1.out (Ext.drew _)) 0
    have x1 : W1.drew.cell? ⟨x, 1, none⟩ = some (.int .i64 tr) := cell_of_heap (heap_ext HX1.out (Ext.drew _)) 1
    have HT := Lib.hid (Rep.take_bad (r := r) (m := m) (.inr (.inl (by rw [HDT.out.2, HID.out.2]; exact ht))))
    go_region
    clear c0 c1 c2 c3 c4 c5 c6 b0 x0 x1
    have hat2 := Lib.hid (HAT.out.ext (Ext.drew W1))
    go_wp2_with (refine putM (m2 := Msg.none0) (r2 := .slice none 0 0) (e2 := .slice none 0 0) (s2 := .slice none 0 0) (d2 := .slice none 0 0) (by rfl) _ _ rfl rfl rfl hat2.out noSlice noSlice noSlice noSlice ?_; intro W9 hat9 hB9)
    have hld := run_loadVar_mid (P := Tryz.prog) W9 (q + 1 + 1) 0 79 _ _ (MsgAt.range hat9.out) Tryz.underlying79 rfl (by kernel_rfl)
    refine bodyPost_ret (v := .tuple #[.agg (msgCells Msg.none0 (.slice none 0 0) (.slice none 0 0) (.slice none 0 0) (.slice none 0 0)), .int .i64 1]) (by simp [results, Tryz.results26, hld, asAddr, Act.put]) rfl ?_
    rw [HT.out]
    exact ⟨rfl, LeavesRep.refl HN.out (Ext.newQ11 (HE1.out.trans (Ext.drew _)) (by have := HWA.out.2; omega) hB9.out)⟩
  subst ht
  have hrc := fun wy (h : Ext W1 wy) => right7_any (.agg (msgCells m (.slice a0 n0 k0) (.slice a1 n1 k1) (.slice a2 n2 k2) (.slice a3 n3 k3))) m wy (HV.out wy (TwS.ext (HE1.out.trans h)))
  obtain ⟨rb, hrb⟩ : ∃ z, Msg.right m = z := ⟨_, rfl⟩
  rw [hrb] at hrc
  have HRC := Lib.hid hrc
  have HRB := Lib.hid hrb
  clear hrc hrb
  have h7 := fun wy (h : Ext W1 wy) => (by
    have h1 := (HV.out wy (TwS.ext (HE1.out.trans h))).cells11
    exact (⟨HM1.out.ext h, h1.1, h1.2.1, h1.2.2.1, h1.2.2.2⟩ : Msg7 79 wy (q + 1) m (.slice a0 n0 k0) (.slice a1 n1 k1) (.slice a2 n2 k2) (.slice a3 n3 k3)))
  have H7 := Lib.hid h7
  clear h7
  refine wp_region_facts (by kernel_rfl) Ext (fun iop v w => match iop with
      | 0 => v = .pointer (some ⟨q + 1, 2, none⟩)
      | 1 => v = .int .i64 ds
      | 2 => v = .pointer (some ⟨x, 0, none⟩)
      | 3 => v = .pointer (some ⟨x, 0, none⟩)
      | 4 => v = .pointer (some ⟨x, 0, none⟩)
      | 5 => v = .int .i64 ds
      | 6 => v = .bool false
      | 7 => v = .bool false
      | 8 => v = .pointer (some ⟨q + 1, 3, none⟩)
      | 9 => v = .int .i64 tm
      | 10 => v = .pointer (some ⟨x, 0, none⟩)
      | 11 => v = .pointer (some ⟨x, 0, none⟩)
      | 12 => v = .pointer (some ⟨x, 1, none⟩)
      | 13 => v = .int .i64 tm
      | 14 => v = .bool false
      | 15 => v = .bool false
      | 16 => v = .bool false
      | 17 => v = .agg (msgCells m (.slice a0 n0 k0) (.slice a1 n1 k1) (.slice a2 n2 k2) (.slice a3 n3 k3))
      | 18 => v = .bool rb
      | 19 => v = .bool (!rb)
      | _ => v = .bool (!rb)
      ) (by kernel_rfl) (fun _ _ _ h k => Ext.trans h k) (fun a => Ext.refl a) (Ext.drew _) ?_ ?_ ?_
  · intro iop v wa wb hF hL
    iterate 20 (rcases iop with _ | iop; exact hF)
    exact hF
  · refine Obls.cons ?_ (Obls.cons ?_ (Obls.cons ?_ (Obls.cons ?_ (Obls.cons ?_ (Obls.cons ?_ (Obls.cons ?_ (Obls.cons ?_ (Obls.cons ?_ (Obls.cons ?_ (Obls.cons ?_ (Obls.cons ?_ (Obls.cons ?_ (Obls.cons ?_ (Obls.cons ?_ (Obls.cons ?_ (Obls.cons ?_ (Obls.cons ?_ (Obls.cons ?_ (Obls.cons ?_ (Obls.cons ?_ (Obls.nil)))))))))))))))))))))
    · intro ev wy hp hl hk hd
      have e3 : ev (.tmp 3) = .pointer (some ⟨q + 1, 0, none⟩) := hk 3 (by decide)
      clear hk hd
      exact Yield.op (v := .pointer (some ⟨q + 1, 2, none⟩)) (w' := wy) (by simp [execOp, go_sem, e3]) ⟨Ext.refl _, rfl⟩
    · intro ev wy hp hl hk hd
      have e7 : ev (.tmp 7) = .pointer (some ⟨q + 1, 2, none⟩) := hk 7 (by decide)
      clear hk hd
      exact Yield.load rfl e7 (by simp [go_sem, (HC.out wy hl).2.2.1]) ⟨Ext.refl _, rfl⟩
    · intro ev wy hp hl hk hd
      have e2 : ev (.tmp 2) = .pointer (some ⟨q, 0, none⟩) := hk 2 (by decide)
      clear hk hd
      exact Yield.load rfl e2 (by simp [go_sem, cell_of_heap (heap_ext HB1.out hl) 0]) ⟨Ext.refl _, rfl⟩
    · intro ev wy hp hl hk hd
      have e9 : ev (.tmp 9) = .pointer (some ⟨x, 0, none⟩) := hk 9 (by decide)
      clear hk hd
      exact Yield.op (v := .pointer (some ⟨x, 0, none⟩)) (w' := wy) (by simp [execOp, go_sem, e9]) ⟨Ext.refl _, rfl⟩
    · intro ev wy hp hl hk hd
      have e10 : ev (.tmp 10) = .pointer (some ⟨x, 0, none⟩) := hk 10 (by decide)
      clear hk hd
      exact Yield.op (v := .pointer (some ⟨x, 0, none⟩)) (w' := wy) (by simp [execOp, go_sem, e10]) ⟨Ext.refl _, rfl⟩
    · intro ev wy hp hl hk hd
      have e11 : ev (.tmp 11) = .pointer (some ⟨x, 0, none⟩) := hk 11 (by decide)
      clear hk hd
      exact Yield.load rfl e11 (by simp [go_sem, cell_of_heap (heap_ext HX1.out hl) 0]) ⟨Ext.refl _, rfl⟩
    · intro ev wy hp hl hk hd
      have e8 : ev (.tmp 8) = .int .i64 ds := hk 8 (by decide)
      have e12 : ev (.tmp 12) = .int .i64 ds := hk 12 (by decide)
      clear hk hd
      exact Yield.op (v := .bool false) (w' := wy) (by simp [execOp, go_sem, e8, e12]) ⟨Ext.refl _, rfl⟩
    · intro ev wy hp hl hk hd
      have e13 : ev (.tmp 13) = .bool false := hk 13 (by decide)
      clear hk hd
      exact Yield.mv rfl ⟨Ext.refl _, e13⟩
    · intro ev wy hp hl hk hd
      have e3 : ev (.tmp 3) = .pointer (some ⟨q + 1, 0, none⟩) := hk 3 (by decide)
      clear hk
      refine ⟨fun _ _ _ => ?_, fun _ hx hne => absurd hx hne⟩
      clear hd
      exact Yield.op (v := .pointer (some ⟨q + 1, 3, none⟩)) (w' := wy) (by simp [execOp, go_sem, e3]) ⟨Ext.refl _, rfl⟩
    · intro ev wy hp hl hk hd
      have e15 : ev (.tmp 15) = .pointer (some ⟨q + 1, 3, none⟩) := hk 15 (by decide)
      clear hk
      refine ⟨fun _ _ _ => ?_, fun _ hx hne => absurd hx hne⟩
      clear hd
      exact Yield.load rfl e15 (by simp [go_sem, (HC.out wy hl).2.2.2.1]) ⟨Ext.refl _, rfl⟩
    · intro ev wy hp hl hk hd
      have e2 : ev (.tmp 2) = .pointer (some ⟨q, 0, none⟩) := hk 2 (by decide)
      clear hk
      refine ⟨fun _ _ _ => ?_, fun _ hx hne => absurd hx hne⟩
      clear hd
      exact Yield.load rfl e2 (by simp [go_sem, cell_of_heap (heap_ext HB1.out hl) 0]) ⟨Ext.refl _, rfl⟩
    · intro ev wy hp hl hk hd
      have e17 : ev (.tmp 17) = .pointer (some ⟨x, 0, none⟩) := hk 17 (by decide)
      clear hk
      refine ⟨fun _ _ _ => ?_, fun _ hx hne => absurd hx hne⟩
      clear hd
      exact Yield.op (v := .pointer (some ⟨x, 0, none⟩)) (w' := wy) (by simp [execOp, go_sem, e17]) ⟨Ext.refl _, rfl⟩
    · intro ev wy hp hl hk hd
      have e18 : ev (.tmp 18) = .pointer (some ⟨x, 0, none⟩) := hk 18 (by decide)
      clear hk
      refine ⟨fun _ _ _ => ?_, fun _ hx hne => absurd hx hne⟩
      clear hd
      exact Yield.op (v := .pointer (some ⟨x, 1, none⟩)) (w' := wy) (by simp [execOp, go_sem, e18]) ⟨Ext.refl _, rfl⟩
    · intro ev wy hp hl hk hd
      have e19 : ev (.tmp 19) = .pointer (some ⟨x, 1, none⟩) := hk 19 (by decide)
      clear hk
      refine ⟨fun _ _ _ => ?_, fun _ hx hne => absurd hx hne⟩
      clear hd
      exact Yield.load rfl e19 (by simp [go_sem, cell_of_heap (heap_ext HX1.out hl) 1]) ⟨Ext.refl _, rfl⟩
    · intro ev wy hp hl hk hd
      have e16 : ev (.tmp 16) = .int .i64 tm := hk 16 (by decide)
      have e20 : ev (.tmp 20) = .int .i64 tm := hk 20 (by decide)
      clear hk
      refine ⟨fun _ _ _ => ?_, fun _ hx hne => absurd hx hne⟩
      clear hd
      exact Yield.op (v := .bool false) (w' := wy) (by simp [execOp, go_sem, e16, e20]) ⟨Ext.refl _, rfl⟩
    · intro ev wy hp hl hk hd
      have e14 : ev (.tmp 14) = .bool false := hk 14 (by decide)
      have e21 : ev (.tmp 21) = .bool false := hk 21 (by decide)
      clear hk hd
      exact Yield.pick (t := false) rfl e14 ⟨Ext.refl _, e21⟩
    · intro ev wy hp hl hk hd
      have e22 : ev (.tmp 22) = .bool false := hk 22 (by decide)
      clear hk hd
      exact Yield.mv rfl ⟨Ext.refl _, e22⟩
    · intro ev wy hp hl hk hd
      have e3 : ev (.tmp 3) = .pointer (some ⟨q + 1, 0, none⟩) := hk 3 (by decide)
      clear hk
      refine ⟨fun _ _ _ => ?_, fun _ hx hne => absurd hx hne⟩
      clear hd
      exact Yield.load rfl e3 ((H7.out wy hl).ld) ⟨Ext.refl _, rfl⟩
    · intro ev wy hp hl hk hd
      have e24 : ev (.tmp 24) = .agg (msgCells m (.slice a0 n0 k0) (.slice a1 n1 k1) (.slice a2 n2 k2) (.slice a3 n3 k3)) := hk 24 (by decide)
      clear hk
      refine ⟨fun _ _ _ => ?_, fun _ hx hne => absurd hx hne⟩
      clear hd
      refine Yield.call rfl hp Tryz.func67 rfl (by kernel_rfl) ?_
      simp only [List.map_toArray, List.map_cons, List.map_nil, e24]
      exact ((HRC.out wy hl)).mono fun _ _ ⟨he, hb⟩ => ⟨_, he, hb, by first | rfl | simp⟩
    · intro ev wy hp hl hk hd
      have e25 : ev (.tmp 25) = .bool rb := hk 25 (by decide)
      clear hk
      refine ⟨fun _ _ _ => ?_, fun _ hx hne => absurd hx hne⟩
      clear hd
      exact Yield.op (v := .bool (!rb)) (w' := wy) (by simp [execOp, go_sem, e25]) ⟨Ext.refl _, rfl⟩
    · intro ev wy hp hl hk hd
      have e23 : ev (.tmp 23) = .bool false := hk 23 (by decide)
      have e26 : ev (.tmp 26) = .bool (!rb) := hk 26 (by decide)
      clear hk hd
      exact Yield.pick (t := false) rfl e23 ⟨Ext.refl _, e26⟩
  · intro vals wz hz hv
    have g7 : vals 0 = .pointer (some ⟨q + 1, 2, none⟩) := hv 0 (by decide)
    have g8 : vals 1 = .int .i64 ds := hv 1 (by decide)
    have g9 : vals 2 = .pointer (some ⟨x, 0, none⟩) := hv 2 (by decide)
    have g10 : vals 3 = .pointer (some ⟨x, 0, none⟩) := hv 3 (by decide)
    have g11 : vals 4 = .pointer (some ⟨x, 0, none⟩) := hv 4 (by decide)
    have g12 : vals 5 = .int .i64 ds := hv 5 (by decide)
    have g13 : vals 6 = .bool false := hv 6 (by decide)
    have g14 : vals 7 = .bool false := hv 7 (by decide)
    have g15 : vals 8 = .pointer (some ⟨q + 1, 3, none⟩) := hv 8 (by decide)
    have g16 : vals 9 = .int .i64 tm := hv 9 (by decide)
    have g17 : vals 10 = .pointer (some ⟨x, 0, none⟩) := hv 10 (by decide)
    have g18 : vals 11 = .pointer (some ⟨x, 0, none⟩) := hv 11 (by decide)
    have g19 : vals 12 = .pointer (some ⟨x, 1, none⟩) := hv 12 (by decide)
    have g20 : vals 13 = .int .i64 tm := hv 13 (by decide)
    have g21 : vals 14 = .bool false := hv 14 (by decide)
    have g22 : vals 15 = .bool false := hv 15 (by decide)
    have g23 : vals 16 = .bool false := hv 16 (by decide)
    have g24 : vals 17 = .agg (msgCells m (.slice a0 n0 k0) (.slice a1 n1 k1) (.slice a2 n2 k2) (.slice a3 n3 k3)) := hv 17 (by decide)
    have g25 : vals 18 = .bool rb := hv 18 (by decide)
    have g26 : vals 19 = .bool (!rb) := hv 19 (by decide)
    have g27 : vals 20 = .bool (!rb) := hv 20 (by decide)
    clear hv
    simp only [putAll, Act.put, List.setIfInBounds_toArray, List.set_cons_zero, List.set_cons_succ, g7, g8, g9, g10, g11, g12, g13, g14, g15, g16, g17, g18, g19, g20, g21, g22, g23, g24, g25, g26, g27]
    clear g7
    clear g8
    clear g9
    clear g10
    clear g11
    clear g12
    clear g13
    clear g14
    clear g15
    clear g16
    clear g17
    clear g18
    clear g19
    clear g20
    clear g21
    clear g22
    clear g23
    clear g24
    clear g25
    clear g26
    clear g27
    have HE2 := Lib.hid (HE1.out.trans hz)
    have HM2 := Lib.hid (HM1.out.ext hz)
    have HB2 := Lib.hid (heap_ext HB1.out hz)
    have HN2 := Lib.hid (HN1.out.ext hz)
    have HAT2 := Lib.hid (HAT.out.ext hz)
    have H72 := Lib.hid (H7.out wz hz)
    clear hz
    cases rb with
    | false =>
      have HT := Lib.hid (Rep.take_bad (r := r) (m := m) (.inr (.inr HRB.out)))
      have hat9a := HAT2
      go_wp2_with (refine putM (m2 := Msg.none0) (r2 := .slice none 0 0) (e2 := .slice none 0 0) (s2 := .slice none 0 0) (d2 := .slice none 0 0) (by rfl) _ _ rfl rfl rfl hat9a.out noSlice noSlice noSlice noSlice ?_; intro W9 hat9 hB9)
      have hld := run_loadVar_mid (P := Tryz.prog) W9 (q + 1 + 1) 0 79 _ _ (MsgAt.range hat9.out) Tryz.underlying79 rfl (by kernel_rfl)
      refine bodyPost_ret (v := .tuple #[.agg (msgCells Msg.none0 (.slice none 0 0) (.slice none 0 0) (.slice none 0 0) (.slice none 0 0)), .int .i64 1]) (by simp [results, Tryz.results26, hld, asAddr, Act.put]) rfl ?_
      rw [HT.out]
      exact ⟨rfl, LeavesRep.refl HN.out (Ext.newQ11 HE2.out (by have := HWA.out.2; omega) hB9.out)⟩
    | true =>
      have HRT := Lib.hid (show ¬(m.dst ≠ r.id ∨ m.term ≠ r.term ∨ Msg.right m = false) by rw [HDT.out.1, HDT.out.2, HID.out.1, HID.out.2, HRB.out]; simp)
      obtain ⟨kd, hkd⟩ : ∃ z, m.kind = z := ⟨_, rfl⟩
      have c0 : wz.cell? ⟨q + 1, 0, none⟩ = some (.int .i64 kd) := by rw [← hkd]; exact HM2.out.head.1
      have b0 : wz.cell? ⟨q, 0, none⟩ = some (.pointer (some ⟨x, 0, none⟩)) := cell_of_heap HB2.out 0
      have HKD := Lib.hid hkd
      clear hkd
      by_cases hk3 : kd = 3
      · subst hk3
        have hle := H72.out.ldEnt 77 (.inl rfl)
        have hord := order11_any HN2.out (.slice a1 n1 k1) m.ent (Msg.right_ent HRB.out HKD.out) (fun w' ht => (HV.out w' ((TwS.ext HE2.out).trans ht)).cells11.2.1)
        unfold entV at hord
        have HORD := Lib.hid hord
        obtain ⟨eo, heo⟩ : ∃ z : Value, .agg #[.int .i64 m.ent.number, .int .i64 m.ent.kind, .slice a1 n1 k1, .int .i64 m.ent.tag, .int .i64 m.ent.term, .int .i64 m.ent.pos] = z := ⟨_, rfl⟩
        rw [heo] at hle HORD
        clear hord heo
        go_wp2_with (refine ldAny (by rfl) _ rfl rfl hle ?_)
        refine HORD.out.mono ?_
        unfold GivesOrder
        rintro e' w3 ⟨rfl, hLV⟩
        obtain ⟨⟨p3, va3, vp3, ev3, es3, hr3⟩, hT3⟩ := hLV
        have hns : ∀ j, False ∨ (q ≤ j ∧ j < wz.heap.size) → ¬ S j := fun j hj hs => by
          have h1 := HSL.out j hs
          have h2 := HWA.out.2
          have h3 := HE2.out.size
          rcases hj with h | h <;> omega
        have hb3 : w3.heap[q]? = some (.cells #[.pointer (some ⟨x, 0, none⟩)] 34 (0, 0)) := (hT3.block q (Array.getElem?_eq_some_iff.1 HB2.out).1 (hns q (.inr ⟨Nat.le_refl _, (Array.getElem?_eq_some_iff.1 HB2.out).1⟩))).trans HB2.out
        have hm3 : MsgAt 79 w3 (q + 1) m (.slice a0 n0 k0) (.slice a1 n1 k1) (.slice a2 n2 k2) (.slice a3 n3 k3) := (hT3.block (q + 1) HM2.out.lt (hns _ (.inr ⟨by omega, HM2.out.lt⟩))).trans HM2.out
        have ha3 : MsgAt 79 w3 (q + 1 + 1) Msg.none0 (.slice none 0 0) (.slice none 0 0) (.slice none 0 0) (.slice none 0 0) := (hT3.block (q + 1 + 1) HAT2.out.lt (hns _ (.inr ⟨by omega, HAT2.out.lt⟩))).trans HAT2.out
        have hnl : ∀ j, q ≤ j → j < wz.heap.size → ¬ Later S wz w3 j := fun j h1 h2 h => h.elim (hns j (.inr ⟨h1, h2⟩)) (fun e => by omega)
        have htl := tell11_any (S := Later S wz w3) (m := m) hr3 4 (r.orderErr m.ent) hb3 hm3 (hnl _ (by omega) HM2.out.lt) (hnl _ (Nat.le_refl _) (Array.getElem?_eq_some_iff.1 HB2.out).1) (fun j hj => hj.elim (fun h => by have h1 := HSL.out j h; have h2 := HE2.out.size; have h3 := hT3.size; omega) (fun e => e.2))
        have HTL := Lib.hid htl
        have HT3 := Lib.hid hT3
        have HA3 := Lib.hid ha3
        have HLV := Lib.hid (show LeavesRep B S x wz (r.order m.ent) w3 from ⟨⟨p3, va3, vp3, ev3, es3, hr3⟩, hT3⟩)
        have HNL := Lib.hid hnl
        have HNS := Lib.hid hns
        obtain ⟨er, her⟩ : ∃ z, (r.orderErr m.ent) = z := ⟨_, rfl⟩
        rw [her] at HTL
        have HER := Lib.hid her
        rw [her]
        clear hr3 hT3 hb3 hm3 ha3 hnl hns htl her
        go_wp2_with fail
        refine HTL.out.mono ?_
        unfold GivesTold
        rintro e' w4 ⟨rfl, hl4⟩
        have hTK := Rep.take_order HRT.out HKD.out
        rw [HER.out] at hTK
        rw [← hTK] at hl4 ⊢
        have HL4 := Lib.hid (HLV.out.then hl4)
        have hat9a := Lib.hid (show MsgAt 79 w4 (q + 1 + 1) Msg.none0 (.slice none 0 0) (.slice none 0 0) (.slice none 0 0) (.slice none 0 0) from (hl4.2.block (q + 1 + 1) HA3.out.lt (HNL.out _ (by omega) HAT2.out.lt)).trans HA3.out)
        obtain ⟨mr, hmr⟩ : ∃ z, (r.take m).2.1 = z := ⟨_, rfl⟩
        obtain ⟨ee, hee⟩ : ∃ z, (r.take m).2.2 = z := ⟨_, rfl⟩
        rw [hmr, hee]
        have HMR := Lib.hid (And.intro hmr hee)
        clear hl4 hTK hmr hee
        go_wp2_with (refine putM (m2 := mr) (r2 := .slice none 0 0) (e2 := .slice none 0 0) (s2 := .slice none 0 0) (d2 := .slice none 0 0) (by rfl) _ _ rfl rfl rfl hat9a.out noSlice noSlice noSlice noSlice ?_; intro W9 hat9 hB9)
        have hld := run_loadVar_mid (P := Tryz.prog) W9 (q + 1 + 1) 0 79 _ _ (MsgAt.range hat9.out) Tryz.underlying79 rfl (by kernel_rfl)
        refine bodyPost_ret (v := .tuple #[.agg (msgCells mr (.slice none 0 0) (.slice none 0 0) (.slice none 0 0) (.slice none 0 0)), .int .i64 ee]) (by simp [results, Tryz.results26, hld, asAddr, Act.put]) rfl ?_
        refine ⟨by rw [HMR.out.1, HMR.out.2], ?_⟩
        exact LeavesRep.fill HE2.out HL4.out (by have := HWA.out.2; omega) HAT2.out.lt (HNS.out _ (.inr ⟨by omega, HAT2.out.lt⟩)) hB9.out
      by_cases hk5 : kd = 5
      · subst hk5
        have HSH := Lib.hid (shut11_any HN2.out)
        go_wp2_with fail
        refine HSH.out.mono ?_
        unfold GivesOrder
        rintro e' w3 ⟨rfl, hLV⟩
        obtain ⟨⟨p3, va3, vp3, ev3, es3, hr3⟩, hT3⟩ := hLV
        have hns : ∀ j, False ∨ (q ≤ j ∧ j < wz.heap.size) → ¬ S j := fun j hj hs => by
          have h1 := HSL.out j hs
          have h2 := HWA.out.2
          have h3 := HE2.out.size
          rcases hj with h | h <;> omega
        have hb3 : w3.heap[q]? = some (.cells #[.pointer (some ⟨x, 0, none⟩)] 34 (0, 0)) := (hT3.block q (Array.getElem?_eq_some_iff.1 HB2.out).1 (hns q (.inr ⟨Nat.le_refl _, (Array.getElem?_eq_some_iff.1 HB2.out).1⟩))).trans HB2.out
        have hm3 : MsgAt 79 w3 (q + 1) m (.slice a0 n0 k0) (.slice a1 n1 k1) (.slice a2 n2 k2) (.slice a3 n3 k3) := (hT3.block (q + 1) HM2.out.lt (hns _ (.inr ⟨by omega, HM2.out.lt⟩))).trans HM2.out
        have ha3 : MsgAt 79 w3 (q + 1 + 1) Msg.none0 (.slice none 0 0) (.slice none 0 0) (.slice none 0 0) (.slice none 0 0) := (hT3.block (q + 1 + 1) HAT2.out.lt (hns _ (.inr ⟨by omega, HAT2.out.lt⟩))).trans HAT2.out
        have hnl : ∀ j, q ≤ j → j < wz.heap.size → ¬ Later S wz w3 j := fun j h1 h2 h => h.elim (hns j (.inr ⟨h1, h2⟩)) (fun e => by omega)
        have htl := tell11_any (S := Later S wz w3) (m := m) hr3 6 r.shutErr hb3 hm3 (hnl _ (by omega) HM2.out.lt) (hnl _ (Nat.le_refl _) (Array.getElem?_eq_some_iff.1 HB2.out).1) (fun j hj => hj.elim (fun h => by have h1 := HSL.out j h; have h2 := HE2.out.size; have h3 := hT3.size; omega) (fun e => e.2))
        have HTL := Lib.hid htl
        have HT3 := Lib.hid hT3
        have HA3 := Lib.hid ha3
        have HLV := Lib.hid (show LeavesRep B S x wz r.shut w3 from ⟨⟨p3, va3, vp3, ev3, es3, hr3⟩, hT3⟩)
        have HNL := Lib.hid hnl
        have HNS := Lib.hid hns
        obtain ⟨er, her⟩ : ∃ z, r.shutErr = z := ⟨_, rfl⟩
        rw [her] at HTL
        have HER := Lib.hid her
        rw [her]
        clear hr3 hT3 hb3 hm3 ha3 hnl hns htl her
        go_wp2_with fail
        refine HTL.out.mono ?_
        unfold GivesTold
        rintro e' w4 ⟨rfl, hl4⟩
        have hTK := Rep.take_shut HRT.out HKD.out
        rw [HER.out] at hTK
        rw [← hTK] at hl4 ⊢
        have HL4 := Lib.hid (HLV.out.then hl4)
        have hat9a := Lib.hid (show MsgAt 79 w4 (q + 1 + 1) Msg.none0 (.slice none 0 0) (.slice none 0 0) (.slice none 0 0) (.slice none 0 0) from (hl4.2.block (q + 1 + 1) HA3.out.lt (HNL.out _ (by omega) HAT2.out.lt)).trans HA3.out)
        obtain ⟨mr, hmr⟩ : ∃ z, (r.take m).2.1 = z := ⟨_, rfl⟩
        obtain ⟨ee, hee⟩ : ∃ z, (r.take m).2.2 = z := ⟨_, rfl⟩
        rw [hmr, hee]
        have HMR := Lib.hid (And.intro hmr hee)
        clear hl4 hTK hmr hee
        go_wp2_with (refine putM (m2 := mr) (r2 := .slice none 0 0) (e2 := .slice none 0 0) (s2 := .slice none 0 0) (d2 := .slice none 0 0) (by rfl) _ _ rfl rfl rfl hat9a.out noSlice noSlice noSlice noSlice ?_; intro W9 hat9 hB9)
        have hld := run_loadVar_mid (P := Tryz.prog) W9 (q + 1 + 1) 0 79 _ _ (MsgAt.range hat9.out) Tryz.underlying79 rfl (by kernel_rfl)
        refine bodyPost_ret (v := .tuple #[.agg (msgCells mr (.slice none 0 0) (.slice none 0 0) (.slice none 0 0) (.slice none 0 0)), .int .i64 ee]) (by simp [results, Tryz.results26, hld, asAddr, Act.put]) rfl ?_
        refine ⟨by rw [HMR.out.1, HMR.out.2], ?_⟩
        exact LeavesRep.fill HE2.out HL4.out (by have := HWA.out.2; omega) HAT2.out.lt (HNS.out _ (.inr ⟨by omega, HAT2.out.lt⟩)) hB9.out
      have HT := Lib.hid (Rep.take_none HRT.out (by rw [HKD.out]; exact hk3) (by rw [HKD.out]; exact hk5))
      have hat9a := HAT2
      go_wp2_with (refine putM (m2 := Msg.none0) (r2 := .slice none 0 0) (e2 := .slice none 0 0) (s2 := .slice none 0 0) (d2 := .slice none 0 0) (by rfl) _ _ rfl rfl rfl hat9a.out noSlice noSlice noSlice noSlice ?_; intro W9 hat9 hB9)
      have hld := run_loadVar_mid (P := Tryz.prog) W9 (q + 1 + 1) 0 79 _ _ (MsgAt.range hat9.out) Tryz.underlying79 rfl (by kernel_rfl)
      refine bodyPost_ret (v := .tuple #[.agg (msgCells Msg.none0 (.slice none 0 0) (.slice none 0 0) (.slice none 0 0) (.slice none 0 0)), .int .i64 1]) (by simp [results, Tryz.results26, hld, asAddr, Act.put]) rfl ?_
      rw [HT.out]
      exact ⟨rfl, LeavesRep.refl HN.out (Ext.newQ11 HE2.out (by have := HWA.out.2; omega) hB9.out)⟩
end Go.Proofs.YtckdofhcifdpmaaGreat
