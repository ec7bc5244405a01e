/-
  Merged: Layer 11: what Take tells.
-/
import Derived.Test.YtckdofhcifdpmaaGreatBsMsg
import Derived.Test.YtckdofhcifdpmaaGreatBsRpG
import Derived.Test.YtckdofhcifdpmaaGreatBsRpJ

namespace Go.Proofs.YtckdofhcifdpmaaGreat
set_option linter.unusedSimpArgs false
set_option linter.unusedVariables false
set_option maxRecDepth 100000
open Go.RowKit
/- Layer 11: what Take tells. -/
theorem IsRepS.synced {w w' : World} {B x p : Nat} {S : Nat → Prop} {va vp ev : Value} {es : List (Value × Ent.E)} {r : Rep.Rp} (h : IsRepS w B S x p va vp ev es r) (hb : But p w w') (hs : IsSto w' B p va vp r.s.sync) : IsRepS w' B S x p va vp ev es r.sync :=
  ⟨h.x1, h.x2, h.p1, h.p2, h.ua, h.up, h.ue, h.tags, hs, h.at'.butT h.sto.heap (by decide) (by decide) (by decide) hb, h.ok.sync⟩
theorem build_told (w : World) (k a b c : Int) (n : Int) (i : Bool) : (Instr.build 79 #[(0, .int .i64 k), (1, .int .i64 a), (2, .int .i64 b), (3, .int .i64 c), (5, .int .i64 n), (6, .bool i)]).run Tryz.prog w = .ok (.agg (msgCells ⟨k, a, b, c, 0, n, i, Msg.rec0, Msg.ent0, 0, 0, Msg.conf0⟩ (.slice none 0 0) (.slice none 0 0) (.slice none 0 0) (.slice none 0 0))) w := by kernel_rfl
def GivesTold (B : Nat) (S : Nat → Prop) (x : Nat) (w : World) (t : Rep.Rp × Msg.M × Int) (e : Ending) (w' : World) : Prop :=
  e = .returned (.tuple #[.agg (msgCells t.2.1 (.slice none 0 0) (.slice none 0 0) (.slice none 0 0) (.slice none 0 0)), .int .i64 t.2.2]) ∧ LeavesRep B S x w t.1 w'
set_option maxHeartbeats 16000000 in
theorem tell11_any {w : World} {B x p q0 q1 : Nat} {S : Nat → Prop} {va vp ev rt et sv dv : Value} {es : List (Value × Ent.E)} {r : Rep.Rp} {m : Msg.M} (h : IsRepS w B S x p va vp ev es r) (k err : Int) (h0 : w.heap[q0]? = some (.cells #[.pointer (some ⟨x, 0, none⟩)] 34 (0, 0))) (h1 : MsgAt 79 w q1 m rt et sv dv) (hq1 : ¬ S q1) (hq0 : ¬ S q0) (hsl : ∀ k, S k → k < w.heap.size) :
    Calls Tryz.prog 68 #[.int .i64 k, .int .i64 err, .pointer (some ⟨q0, 0, none⟩), .pointer (some ⟨q1, 0, none⟩)] w (GivesTold B S x w (Rep.tell r k m err)) := by
  have hb0 := build_msg0
  have H := Lib.hid h
  have H0 := Lib.hid h0
  have H1 := Lib.hid h1
  have HQ := Lib.hid (And.intro hq0 hq1)
  clear h h0 h1 hq0 hq1
  go_enter Tryz.func68, Tryz.ntmps68
  go_upto_region 1 with (refine allocM (by rfl) rfl ?_; intro W1 q hat1 hE1 hq)
  by_cases he : err = 0
  · subst he
    have HR1 := Lib.hid (H.out.ext hE1.out)
    have b0 : W1.cell? ⟨q0, 0, none⟩ = some (.pointer (some ⟨x, 0, none⟩)) := cell_of_heap (heap_ext H0.out hE1.out) 0
    have c2 : W1.cell? ⟨x, 2, none⟩ = some (.pointer (some ⟨p, 0, none⟩)) := cell_of_heap HR1.out.at'.heap 2
    have HSY := Lib.hid (sync8_any HR1.out.sto)
    go_wp2_with fail
    refine HSY.out.mono ?_
    rintro e w2 ⟨rfl, hb2, hs2⟩
    have HR2 := Lib.hid (HR1.out.synced hb2 hs2)
    have hsp : ∀ k, ¬ S k → k ≠ p := fun k hk e => hk (e ▸ HR1.out.p2)
    have HM2 := Lib.hid (show MsgAt 79 w2 q1 m rt et sv dv from (hb2.block q1 (Nat.lt_of_lt_of_le H1.out.lt hE1.out.size) (hsp q1 HQ.out.2)).trans (H1.out.ext hE1.out))
    have HB2 := Lib.hid (show w2.heap[q0]? = _ from (hb2.block q0 (Array.getElem?_eq_some_iff.1 (heap_ext H0.out hE1.out)).1 (hsp q0 HQ.out.1)).trans (heap_ext H0.out hE1.out))
    have hqn : ¬ S q := fun hq' => by have := hsl q hq'; have := hq.out; omega
    have hat2 := Lib.hid (show MsgAt 79 w2 q Msg.none0 (.slice none 0 0) (.slice none 0 0) (.slice none 0 0) (.slice none 0 0) from (hb2.block q hat1.out.lt (hsp q hqn)).trans hat1.out)
    have HT2 := Lib.hid (show TwS S w w2 from (TwS.ext hE1.out).trans (TwS.but hb2 HR1.out.p2))
    obtain ⟨sr, hsr⟩ : ∃ z, m.src = z := ⟨_, rfl⟩
    obtain ⟨ri, hri⟩ : ∃ z, r.id = z := ⟨_, rfl⟩
    obtain ⟨tm, htm⟩ : ∃ z, r.term = z := ⟨_, rfl⟩
    obtain ⟨sb, hsb⟩ : ∃ z, r.w.sealed = z := ⟨_, rfl⟩
    obtain ⟨n, hn⟩ : ∃ z, r.w.l.length = z := ⟨_, rfl⟩
    have hxh : w2.heap[x]? = some (.cells #[.int .i64 ri, .int .i64 tm, .pointer (some ⟨p, 0, none⟩), ev, .bool sb] 135 (0, 0)) := by
      have := HR2.out.at'.heap
      rw [← hri, ← htm, ← hsb]
      exact this
    have HXH := Lib.hid hxh
    have hlen := fun wy (hl : Ext w2 wy) => len11_any (HR2.out.at'.ext hl)
    have HLEN := Lib.hid (fun wy (hl : Ext w2 wy) => ((hlen wy hl).mono fun e w' (h : _ ∧ wy = w') => (⟨h.1, h.2 ▸ Ext.refl _⟩ : _ ∧ Ext wy w')))
    have hrl : r.sync.w.l.length = n := hn
    rw [hrl] at HLEN
    have HTOLD := Lib.hid (show Rep.tell r k m 0 = (r.sync, ⟨k, ri, sr, tm, 0, (n : Int), sb, Msg.rec0, Msg.ent0, 0, 0, Msg.conf0⟩, 0) by
      unfold Rep.tell Rep.told Rep.Rp.len
      rw [if_pos rfl, hsr, hri, htm, hsb, hn])
    have HSR := Lib.hid hsr
    have hbt := build_told
    clear hb2 hs2 hsp hqn b0 c2 hsr hri htm hsb hn hxh hlen hrl
    go_wp2_with fail
    refine wp_region_tail (by kernel_rfl) 18 Ext (fun iop v w => match iop with
        | 0 => v = .int .i64 k
        | 1 => v = .pointer (some ⟨x, 0, none⟩)
        | 2 => v = .pointer (some ⟨x, 0, none⟩)
        | 3 => v = .pointer (some ⟨x, 0, none⟩)
        | 4 => v = .int .i64 ri
        | 5 => v = .pointer (some ⟨q1, 1, none⟩)
        | 6 => v = .int .i64 sr
        | 7 => v = .pointer (some ⟨x, 0, none⟩)
        | 8 => v = .pointer (some ⟨x, 0, none⟩)
        | 9 => v = .pointer (some ⟨x, 1, none⟩)
        | 10 => v = .int .i64 tm
        | 11 => v = .pointer (some ⟨x, 0, none⟩)
        | 12 => v = .int .i64 (n : Nat)
        | 13 => v = .pointer (some ⟨x, 0, none⟩)
        | 14 => v = .pointer (some ⟨x, 0, none⟩)
        | 15 => v = .pointer (some ⟨x, 4, none⟩)
        | 16 => v = .bool sb
        | _ => v = .agg (msgCells ⟨k, ri, sr, tm, 0, (n : Int), sb, Msg.rec0, Msg.ent0, 0, 0, Msg.conf0⟩ (.slice none 0 0) (.slice none 0 0) (.slice none 0 0) (.slice none 0 0))
        ) (by kernel_rfl) (by kernel_rfl) (by decide) (fun _ _ _ h k => Ext.trans h k) (fun a => Ext.refl a) (Ext.drew _) ?_ ?_ ?_
    · intro iop v wa wb hF hL
      iterate 17 (rcases iop with _ | iop; exact hF)
      exact hF
    · refine Obls.cons ?_ (Obls.cons ?_ (Obls.cons ?_ (Obls.cons ?_ (Obls.cons ?_ (Obls.cons ?_ (Obls.cons ?_ (Obls.cons ?_ (Obls.cons ?_ (Obls.cons ?_ (Obls.cons ?_ (Obls.cons ?_ (Obls.cons ?_ (Obls.cons ?_ (Obls.cons ?_ (Obls.cons ?_ (Obls.cons ?_ (Obls.cons ?_ (Obls.nil))))))))))))))))))
      · intro ev wy hp hl hk hd
        have e0 : ev (.tmp 0) = .int .i64 k := hk 0 (by decide)
        clear hk hd
        exact Yield.mv rfl ⟨Ext.refl _, e0⟩
      · intro ev wy hp hl hk hd
        have e2 : ev (.tmp 2) = .pointer (some ⟨q0, 0, none⟩) := hk 2 (by decide)
        clear hk hd
        exact Yield.load rfl e2 (by simp [go_sem, cell_of_heap (heap_ext HB2.out hl) 0]) ⟨Ext.refl _, rfl⟩
      · intro ev wy hp hl hk hd
        have e18 : ev (.tmp 18) = .pointer (some ⟨x, 0, none⟩) := hk 18 (by decide)
        clear hk hd
        exact Yield.op (v := .pointer (some ⟨x, 0, none⟩)) (w' := wy) (by simp [execOp, go_sem, e18]) ⟨Ext.refl _, rfl⟩
      · intro ev wy hp hl hk hd
        have e19 : ev (.tmp 19) = .pointer (some ⟨x, 0, none⟩) := hk 19 (by decide)
        clear hk hd
        exact Yield.op (v := .pointer (some ⟨x, 0, none⟩)) (w' := wy) (by simp [execOp, go_sem, e19]) ⟨Ext.refl _, rfl⟩
      · intro ev wy hp hl hk hd
        have e20 : ev (.tmp 20) = .pointer (some ⟨x, 0, none⟩) := hk 20 (by decide)
        clear hk hd
        exact Yield.load rfl e20 (by simp [go_sem, cell_of_heap (heap_ext HXH.out hl) 0]) ⟨Ext.refl _, rfl⟩
      · intro ev wy hp hl hk hd
        have e3 : ev (.tmp 3) = .pointer (some ⟨q1, 0, none⟩) := hk 3 (by decide)
        clear hk hd
        exact Yield.op (v := .pointer (some ⟨q1, 1, none⟩)) (w' := wy) (by simp [execOp, go_sem, e3]) ⟨Ext.refl _, rfl⟩
      · intro ev wy hp hl hk hd
        have e22 : ev (.tmp 22) = .pointer (some ⟨q1, 1, none⟩) := hk 22 (by decide)
        clear hk hd
        have hmh := (HM2.out.ext hl).head.2.1
        rw [HSR.out] at hmh
        exact Yield.load rfl e22 (by simp [go_sem, hmh]) ⟨Ext.refl _, rfl⟩
      · intro ev wy hp hl hk hd
        have e2 : ev (.tmp 2) = .pointer (some ⟨q0, 0, none⟩) := hk 2 (by decide)
        clear hk hd
        exact Yield.load rfl e2 (by simp [go_sem, cell_of_heap (heap_ext HB2.out hl) 0]) ⟨Ext.refl _, rfl⟩
      · intro ev wy hp hl hk hd
        have e24 : ev (.tmp 24) = .pointer (some ⟨x, 0, none⟩) := hk 24 (by decide)
        clear hk hd
        exact Yield.op (v := .pointer (some ⟨x, 0, none⟩)) (w' := wy) (by simp [execOp, go_sem, e24]) ⟨Ext.refl _, rfl⟩
      · intro ev wy hp hl hk hd
        have e25 : ev (.tmp 25) = .pointer (some ⟨x, 0, none⟩) := hk 25 (by decide)
        clear hk hd
        exact Yield.op (v := .pointer (some ⟨x, 1, none⟩)) (w' := wy) (by simp [execOp, go_sem, e25]) ⟨Ext.refl _, rfl⟩
      · intro ev wy hp hl hk hd
        have e26 : ev (.tmp 26) = .pointer (some ⟨x, 1, none⟩) := hk 26 (by decide)
        clear hk hd
        exact Yield.load rfl e26 (by simp [go_sem, cell_of_heap (heap_ext HXH.out hl) 1]) ⟨Ext.refl _, rfl⟩
      · intro ev wy hp hl hk hd
        have e2 : ev (.tmp 2) = .pointer (some ⟨q0, 0, none⟩) := hk 2 (by decide)
        clear hk hd
        exact Yield.load rfl e2 (by simp [go_sem, cell_of_heap (heap_ext HB2.out hl) 0]) ⟨Ext.refl _, rfl⟩
      · intro ev wy hp hl hk hd
        have e28 : ev (.tmp 28) = .pointer (some ⟨x, 0, none⟩) := hk 28 (by decide)
        clear hk hd
        refine Yield.call rfl hp Tryz.func20 rfl (by kernel_rfl) ?_
        simp only [List.map_toArray, List.map_cons, List.map_nil, e28]
        exact ((HLEN.out wy hl)).mono fun _ _ ⟨he, hb⟩ => ⟨_, he, hb, by first | rfl | simp⟩
      · intro ev wy hp hl hk hd
        have e2 : ev (.tmp 2) = .pointer (some ⟨q0, 0, none⟩) := hk 2 (by decide)
        clear hk hd
        exact Yield.load rfl e2 (by simp [go_sem, cell_of_heap (heap_ext HB2.out hl) 0]) ⟨Ext.refl _, rfl⟩
      · intro ev wy hp hl hk hd
        have e30 : ev (.tmp 30) = .pointer (some ⟨x, 0, none⟩) := hk 30 (by decide)
        clear hk hd
        exact Yield.op (v := .pointer (some ⟨x, 0, none⟩)) (w' := wy) (by simp [execOp, go_sem, e30]) ⟨Ext.refl _, rfl⟩
      · intro ev wy hp hl hk hd
        have e31 : ev (.tmp 31) = .pointer (some ⟨x, 0, none⟩) := hk 31 (by decide)
        clear hk hd
        exact Yield.op (v := .pointer (some ⟨x, 4, none⟩)) (w' := wy) (by simp [execOp, go_sem, e31]) ⟨Ext.refl _, rfl⟩
      · intro ev wy hp hl hk hd
        have e32 : ev (.tmp 32) = .pointer (some ⟨x, 4, none⟩) := hk 32 (by decide)
        clear hk hd
        exact Yield.load rfl e32 (by simp [go_sem, cell_of_heap (heap_ext HXH.out hl) 4]) ⟨Ext.refl _, rfl⟩
      · intro ev wy hp hl hk hd
        have e17 : ev (.tmp 17) = .int .i64 k := hk 17 (by decide)
        have e21 : ev (.tmp 21) = .int .i64 ri := hk 21 (by decide)
        have e23 : ev (.tmp 23) = .int .i64 sr := hk 23 (by decide)
        have e27 : ev (.tmp 27) = .int .i64 tm := hk 27 (by decide)
        have e29 : ev (.tmp 29) = .int .i64 (n : Nat) := hk 29 (by decide)
        have e33 : ev (.tmp 33) = .bool sb := hk 33 (by decide)
        clear hk hd
        exact Yield.op (w' := wy) (by simp [execOp, go_sem, hp.const, e17, e21, e23, e27, e29, e33, hbt]; rfl) ⟨Ext.refl _, rfl⟩
    · intro vals wz hz hv
      have g17 : vals 0 = .int .i64 k := hv 0 (by decide)
      have g18 : vals 1 = .pointer (some ⟨x, 0, none⟩) := hv 1 (by decide)
      have g19 : vals 2 = .pointer (some ⟨x, 0, none⟩) := hv 2 (by decide)
      have g20 : vals 3 = .pointer (some ⟨x, 0, none⟩) := hv 3 (by decide)
      have g21 : vals 4 = .int .i64 ri := hv 4 (by decide)
      have g22 : vals 5 = .pointer (some ⟨q1, 1, none⟩) := hv 5 (by decide)
      have g23 : vals 6 = .int .i64 sr := hv 6 (by decide)
      have g24 : vals 7 = .pointer (some ⟨x, 0, none⟩) := hv 7 (by decide)
      have g25 : vals 8 = .pointer (some ⟨x, 0, none⟩) := hv 8 (by decide)
      have g26 : vals 9 = .pointer (some ⟨x, 1, none⟩) := hv 9 (by decide)
      have g27 : vals 10 = .int .i64 tm := hv 10 (by decide)
      have g28 : vals 11 = .pointer (some ⟨x, 0, none⟩) := hv 11 (by decide)
      have g29 : vals 12 = .int .i64 (n : Nat) := hv 12 (by decide)
      have g30 : vals 13 = .pointer (some ⟨x, 0, none⟩) := hv 13 (by decide)
      have g31 : vals 14 = .pointer (some ⟨x, 0, none⟩) := hv 14 (by decide)
      have g32 : vals 15 = .pointer (some ⟨x, 4, none⟩) := hv 15 (by decide)
      have g33 : vals 16 = .bool sb := hv 16 (by decide)
      have g34 : vals 17 = .agg (msgCells ⟨k, ri, sr, tm, 0, (n : Int), sb, Msg.rec0, Msg.ent0, 0, 0, Msg.conf0⟩ (.slice none 0 0) (.slice none 0 0) (.slice none 0 0) (.slice none 0 0)) := hv 17 (by decide)
      clear hv
      simp only [List.take_succ_cons, List.take_zero, List.drop_succ_cons, List.drop_zero]
      simp only [putAll, Act.put, List.setIfInBounds_toArray, List.set_cons_zero, List.set_cons_succ, g17, g18, g19, g20, g21, g22, g23, g24, g25, g26, g27, g28, g29, g30, g31, g32, g33, g34]
      clear g17
      clear g18
      clear g19
      clear g20
      clear g21
      clear g22
      clear g23
      clear g24
      clear g25
      clear g26
      clear g27
      clear g28
      clear g29
      clear g30
      clear g31
      clear g32
      clear g33
      clear g34
      have hat3 := Lib.hid (hat2.out.ext hz)
      have HZ := Lib.hid hz
      clear hz hat2
      go_wp2_with (refine putM (m2 := ⟨k, ri, sr, tm, 0, (n : Int), sb, Msg.rec0, Msg.ent0, 0, 0, Msg.conf0⟩) (r2 := .slice none 0 0) (e2 := .slice none 0 0) (s2 := .slice none 0 0) (d2 := .slice none 0 0) (by rfl) _ _ rfl rfl rfl hat3.out noSlice noSlice noSlice noSlice ?_; intro W9 hat9 hB9)
      have hld := run_loadVar_mid (P := Tryz.prog) W9 q 0 79 _ _ (MsgAt.range hat9.out) Tryz.underlying79 rfl (by kernel_rfl)
      refine bodyPost_ret (v := .tuple #[.agg (msgCells ⟨k, ri, sr, tm, 0, (n : Int), sb, Msg.rec0, Msg.ent0, 0, 0, Msg.conf0⟩ (.slice none 0 0) (.slice none 0 0) (.slice none 0 0) (.slice none 0 0)), .int .i64 0]) (by simp [results, Tryz.results68, hld, asAddr, Act.put]) rfl ?_
      rw [HTOLD.out]
      refine ⟨rfl, ?_, ?_⟩
      · refine ⟨p, va, vp, ev, es, ((HR2.out.ext HZ.out).keep fun k hk hs => hB9.out.block k hk (fun e => ?_)).wider fun k _ hk => .inl hk⟩
        have := hsl k hs
        have := hq.out
        omega
      · exact (HT2.out.trans (TwS.ext HZ.out)).andThen (TwS.but (S := fun k => k = q) hB9.out rfl) fun i hi e => by have := hq.out; omega
  · have heb : (err != 0) = true := by simpa using he
    have HTOLD := Lib.hid (show Rep.tell r k m err = (r, Msg.none0, err) by unfold Rep.tell; rw [if_neg he])
    go_wp2_with (refine putM (m2 := Msg.none0) (r2 := .slice none 0 0) (e2 := .slice none 0 0) (s2 := .slice none 0 0) (d2 := .slice none 0 0) (by rfl) _ _ rfl rfl rfl hat1.out noSlice noSlice noSlice noSlice ?_; intro W9 hat9 hB9)
    have hld := run_loadVar_mid (P := Tryz.prog) W9 q 0 79 _ _ (MsgAt.range hat9.out) Tryz.underlying79 rfl (by kernel_rfl)
    refine bodyPost_ret (v := .tuple #[.agg (msgCells Msg.none0 (.slice none 0 0) (.slice none 0 0) (.slice none 0 0) (.slice none 0 0)), .int .i64 err]) (by simp [results, Tryz.results68, hld, asAddr, Act.put]) rfl ?_
    rw [HTOLD.out]
    exact ⟨rfl, LeavesRep.refl H.out (Ext.newQ11 hE1.out (Nat.le_of_eq hq.out.symm) hB9.out)⟩
end Go.Proofs.YtckdofhcifdpmaaGreat
