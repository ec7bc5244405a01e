/-
  Merged: Layer 12: a primary and a sealer side by side.
-/
import Derived.Test.YtnoeconcpgdjlaaBsMath2
import Derived.Test.YtnoeconcpgdjlaaBsQuN

namespace Go.Proofs.Ytnoeconcpgdjlaa
set_option linter.unusedSimpArgs false
set_option linter.unusedVariables false
set_option maxRecDepth 100000
open Go.RowKit
/- Layer 12: a primary and a sealer side by side; the statements' alive. -/
theorem IsPr.lower12 {w : World} {B B' x : Nat} {S K : Nat → Prop} {p : Quo.Pr} (h : IsPr w B S K x p) (hB : B' ≤ B) : IsPr w B' S K x p := by
  obtain ⟨kb, ev, es, h⟩ := h
  exact ⟨kb, ev, es, h.lower hB⟩
theorem IsSe.lower12 {w : World} {B B' x : Nat} {S : Nat → Prop} {s : Quo.Se} (h : IsSe w B S x s) (hB : B' ≤ B) : IsSe w B' S x s := by
  obtain ⟨kb, sv, ev, es, h⟩ := h
  exact ⟨kb, sv, ev, es, h.sub, fun k hk => ⟨Nat.le_trans hB (h.lt k hk).1, (h.lt k hk).2⟩, h.at'.lower hB, h.ok, h.short⟩
/-- A primary, a sealer, and blocks F of the caller's, each out of the others' way. -/
structure Al12 (W : World) (SP KP SS F : Nat → Prop) (xp xs : Nat) (p : Quo.Pr) (s : Quo.Se) (w : World) : Prop where
  pr : IsPr w W.heap.size SP KP xp p
  se : IsSe w W.heap.size SS xs s
  ext : Ext W w
  dis : ∀ k, SS k → ¬ SP k ∧ ¬ KP k
  fre : ∀ k, F k → (W.heap.size ≤ k ∧ k < w.heap.size) ∧ ¬ SP k ∧ ¬ KP k ∧ ¬ SS k
def Fix12 (F : Nat → Prop) (w w' : World) : Prop := ∀ k, F k → w'.heap[k]? = w.heap[k]?
section
variable {W w w' : World} {SP KP SS F : Nat → Prop} {xp xs : Nat} {p p' : Quo.Pr} {s s' : Quo.Se}
theorem extOf12 (hE : Ext W w) (ht : TwS SP w w') (hl : ∀ k, SP k → W.heap.size ≤ k) : Ext W w' :=
  ⟨ht.os.trans hE.os, ht.tape.trans hE.tape, ht.output.trans hE.output, Nat.le_trans hE.size ht.size, fun k hk => (ht.block k (Nat.lt_of_lt_of_le hk hE.size) (fun hs => by have := hl k hs; omega)).trans (hE.block k hk)⟩
theorem Al12.grow (h : Al12 W SP KP SS F xp xs p s w) (hE : Ext w w') : Al12 W SP KP SS (fun k => F k ∨ (w.heap.size ≤ k ∧ k < w'.heap.size)) xp xs p s w' :=
  ⟨h.pr.ext hE, h.se.ext hE, h.ext.trans hE, h.dis, fun k hk => by
    rcases hk with hk | hk
    · have := h.fre k hk
      exact ⟨⟨this.1.1, Nat.lt_of_lt_of_le this.1.2 hE.size⟩, this.2⟩
    · exact ⟨⟨Nat.le_trans h.ext.size hk.1, hk.2⟩, fun e => by have := (h.pr.lt e).2; omega, fun e => by have := (h.pr.ltK e).2; omega, fun e => by have := (h.se.lt k e).2; omega⟩⟩
theorem Al12.extend (h : Al12 W SP KP SS F xp xs p s w) (hE : Ext w w') : Al12 W SP KP SS F xp xs p s w' :=
  ⟨h.pr.ext hE, h.se.ext hE, h.ext.trans hE, h.dis, fun k hk => ⟨⟨(h.fre k hk).1.1, Nat.lt_of_lt_of_le (h.fre k hk).1.2 hE.size⟩, (h.fre k hk).2⟩⟩
theorem Al12.but {q : Nat} (h : Al12 W SP KP SS F xp xs p s w) (hq : F q) (hb : But q w w') : Al12 W SP KP SS F xp xs p s w' := by
  have hf := h.fre q hq
  refine ⟨h.pr.keep fun k hk hs => hb.block k hk (fun e => ?_), h.se.keep hb.size fun k hk hs => hb.block k hk (fun e => hf.2.2.2 (e ▸ hs)), Ext.newQ11 h.ext hf.1.1 hb, h.dis, fun k hk => ⟨⟨(h.fre k hk).1.1, Nat.lt_of_lt_of_le (h.fre k hk).1.2 hb.size⟩, (h.fre k hk).2⟩⟩
  subst e
  rcases hs with hs | hs
  · exact hf.2.1 hs
  · exact hf.2.2.1 hs
theorem Al12.stepP (h : Al12 W SP KP SS F xp xs p s w) (hl : LeavesPr W.heap.size SP KP xp w p' w') : ∃ SP' KP', Al12 W SP' KP' SS F xp xs p' s w' ∧ TwS SP w w' ∧ Fix12 F w w' := by
  obtain ⟨SP', KP', h1, h2, h3, h4⟩ := hl
  refine ⟨SP', KP', ⟨h1, h.se.tws h2 (fun k hk => (h.dis k hk).1), extOf12 h.ext h2 (fun k hk => (h.pr.lt hk).1), fun k hk => ⟨fun e => (h.dis k hk).1 (h3 k (h.se.lt k hk).2 e), fun e => (h.dis k hk).2 (h4 k (h.se.lt k hk).2 e)⟩, fun k hk => ?_⟩, h2, fun k hk => h2.block k (h.fre k hk).1.2 (h.fre k hk).2.1⟩
  have := h.fre k hk
  exact ⟨⟨this.1.1, Nat.lt_of_lt_of_le this.1.2 h2.size⟩, fun e => this.2.1 (h3 k this.1.2 e), fun e => this.2.2.1 (h4 k this.1.2 e), this.2.2.2⟩
theorem Al12.stepS (h : Al12 W SP KP SS F xp xs p s w) (hl : LeavesSe W.heap.size SS xs w s' w') : ∃ SS', Al12 W SP KP SS' F xp xs p s' w' ∧ Fix12 F w w' := by
  obtain ⟨SS', h1, h2, h3⟩ := hl
  refine ⟨SS', ⟨h.pr.keep fun k hk hs => h2.block k hk (fun e => ?_), h1, extOf12 h.ext h2 (fun k hk => (h.se.lt k hk).1), fun k hk => ⟨fun e => ?_, fun e => ?_⟩, fun k hk => ?_⟩, fun k hk => h2.block k (h.fre k hk).1.2 (h.fre k hk).2.2.2⟩
  · rcases hs with hs | hs
    · exact (h.dis k e).1 hs
    · exact (h.dis k e).2 hs
  · have hlt := (h.pr.lt e).2
    exact (h.dis k (h3 k hlt hk)).1 e
  · have hlt := (h.pr.ltK e).2
    exact (h.dis k (h3 k hlt hk)).2 e
  · have := h.fre k hk
    exact ⟨⟨this.1.1, Nat.lt_of_lt_of_le this.1.2 h2.size⟩, this.2.1, this.2.2.1, fun e => this.2.2.2 (h3 k this.1.2 e)⟩
end
theorem RowN.pr12 {B : Nat} {w w' : World} {v : Value} {l : List Int} {C x : Nat} {S K : Nat → Prop} {p : Quo.Pr} (h : RowN B w v l) (hp : IsPr w C S K x p) (ht : TwS S w w') : RowN B w' v l := by
  obtain ⟨b, n, hb, ho⟩ := id h
  exact h.blocks fun g hg => ht.block g (h.lt g hg).2 (by obtain ⟨cur, hc⟩ := ownAt ho hg; exact hp.ints hc)
def al12 (w : World) : World := (((w.alloc (.cells #[.int .i64 0, .int .i64 1, .int .i64 2] 3)).alloc (.cells #[.int .i64 3] 3)).alloc (.cells #[.int .i64 4] 3)).alloc (.cells #[.slice (some ⟨w.heap.size + 1, 0, none⟩) 1 1, .slice (some ⟨w.heap.size + 1 + 1, 0, none⟩) 1 1] 22)
theorem ownNew12 (w : World) (cs : List Value) (e : TypeId) (hm : cs.length ≤ maxLen) : (w.alloc (.cells cs.toArray e)).ownsRow w.heap.size e 1 (.slice (some ⟨w.heap.size, 0, none⟩) cs.length cs.length) cs.length cs :=
  ⟨by simp, .inr ⟨_, cs.length, cs.toArray, rfl, Nat.le_refl _, heap_alloc_new w _, Nat.le_refl _, hm, by simp, by simp⟩⟩
theorem al12_conf (w : World) : IsConf (al12 w) (confV 1 (.slice (some ⟨w.heap.size, 0, none⟩) 3 3) (.slice (some ⟨w.heap.size + 1 + 1 + 1, 0, none⟩) 2 2)) Quo.exC := by
  obtain ⟨w1, h1⟩ : ∃ z, w.alloc (.cells #[.int .i64 0, .int .i64 1, .int .i64 2] 3) = z := ⟨_, rfl⟩
  obtain ⟨w2, h2⟩ : ∃ z, w1.alloc (.cells #[.int .i64 3] 3) = z := ⟨_, rfl⟩
  obtain ⟨w3, h3⟩ : ∃ z, w2.alloc (.cells #[.int .i64 4] 3) = z := ⟨_, rfl⟩
  have r1 := ownNew12 w [.int .i64 0, .int .i64 1, .int .i64 2] 3 (by simp [maxLen])
  have r2 := ownNew12 w1 [.int .i64 3] 3 (by simp [maxLen])
  have r3 := ownNew12 w2 [.int .i64 4] 3 (by simp [maxLen])
  have r4 := ownNew12 w3 [.slice (some ⟨w.heap.size + 1, 0, none⟩) 1 1, .slice (some ⟨w.heap.size + 1 + 1, 0, none⟩) 1 1] 22 (by simp [maxLen])
  have z1 : w1.heap.size = w.heap.size + 1 := by rw [← h1, World.size_alloc]
  have z2 : w2.heap.size = w.heap.size + 1 + 1 := by rw [← h2, World.size_alloc, z1]
  have z3 : w3.heap.size = w.heap.size + 1 + 1 + 1 := by rw [← h3, World.size_alloc, z2]
  have hal : al12 w = w3.alloc (.cells #[.slice (some ⟨w.heap.size + 1, 0, none⟩) 1 1, .slice (some ⟨w.heap.size + 1 + 1, 0, none⟩) 1 1] 22) := by unfold al12; rw [h1, h2, h3]
  have e2 : Ext w1 w2 := by rw [← h2]; exact Ext.alloc _ _
  have e3 : Ext w2 w3 := by rw [← h3]; exact Ext.alloc _ _
  have e4 : Ext w3 (al12 w) := by rw [hal]; exact Ext.alloc _ _
  simp only [List.length_cons, List.length_nil] at r1 r2 r3 r4
  rw [show w.alloc (.cells [Value.int .i64 0, Value.int .i64 1, Value.int .i64 2].toArray 3) = w1 from h1] at r1
  rw [show w1.alloc (.cells [Value.int .i64 3].toArray 3) = w2 from h2, z1] at r2
  rw [show w2.alloc (.cells [Value.int .i64 4].toArray 3) = w3 from h3, z2] at r3
  rw [show w3.alloc (.cells [Value.slice (some ⟨w.heap.size + 1, 0, none⟩) 1 1, .slice (some ⟨w.heap.size + 1 + 1, 0, none⟩) 1 1].toArray 22) = al12 w from hal.symm, z3] at r4
  refine ⟨_, _, rfl, (show OwnI (al12 w) w.heap.size _ [0, 1, 2] from rowExt r1 ((e2.trans e3).trans e4)).ints, (show OwnRR (al12 w) w.heap.size (.slice (some ⟨w.heap.size + 1 + 1 + 1, 0, none⟩) 2 2) [[3], [4]] from ⟨[.slice (some ⟨w.heap.size + 1, 0, none⟩) 1 1, .slice (some ⟨w.heap.size + 1 + 1, 0, none⟩) 1 1], rowLower r4 (by omega), rfl, fun i h h' => ?_⟩).rows⟩
  match i, h with
  | 0, _ => exact rowLower (rowExt r2 (e3.trans e4)) (by omega)
  | 1, _ => exact rowLower (rowExt r3 e4) (by omega)
theorem build_exM0 (w : World) : (Instr.build 77 #[(0, .int .i64 4), (3, .int .i64 1), (5, .int .i64 1)]).run Try.prog w = .ok (.agg (msgCells Quo.exM0 (.slice none 0 0) (.slice none 0 0) (.slice none 0 0) (.slice none 0 0))) w := by kernel_rfl
theorem build_exM1 (w : World) : (Instr.build 77 #[(0, .int .i64 6), (1, .int .i64 1), (3, .int .i64 1), (5, .int .i64 1), (6, .bool true)]).run Try.prog w = .ok (.agg (msgCells Quo.exM1 (.slice none 0 0) (.slice none 0 0) (.slice none 0 0) (.slice none 0 0))) w := by kernel_rfl
theorem freeMsg12 (w : World) {m : Msg.M} (h1 : m.reco.tags = []) (h2 : m.ent.cut = []) (h3 : m.conf.seqs = []) (h4 : m.conf.shards = []) : IsMsg w (.agg (msgCells m (.slice none 0 0) (.slice none 0 0) (.slice none 0 0) (.slice none 0 0))) m := ⟨_, _, _, _, rfl, by rw [h1]; exact ints0 w, by rw [h2]; exact ints0 w, by rw [h3]; exact ints0 w, by rw [h4]; exact irows0 w⟩
set_option maxHeartbeats 40000000 in
theorem alive12_any (w : World) : Calls Try.prog 9 #[] w fun e w' => e = .returned (.bool true) ∧ Ext w w' := by
  go_enter Try.func9, Try.ntmps9
  go_upto_region 2 with fail
  have hal := al12_conf w
  have hE0 : Ext w (al12 w) := (((Ext.alloc _ _).trans (Ext.alloc _ _)).trans (Ext.alloc _ _)).trans (Ext.alloc _ _)
  have hz0 : (al12 w).heap.size = w.heap.size + 1 + 1 + 1 + 1 := by unfold al12; simp [World.size_alloc]
  obtain ⟨w0, hw0⟩ : ∃ z, al12 w = z := ⟨_, rfl⟩
  rw [hw0] at hal hE0 hz0
  unfold al12 at hw0
  rw [hw0]
  obtain ⟨g, hg⟩ : ∃ z, w.heap.size = z := ⟨_, rfl⟩
  rw [hg] at hal hz0 ⊢
  have hE1 : Ext w0 (w0.alloc (.cells #[.int .i64 1, .slice (some ⟨g, 0, none⟩) 3 3, .slice (some ⟨g + 1 + 1 + 1, 0, none⟩) 2 2] 36)) := Ext.alloc _ _
  have hc1 := heap_alloc_new w0 (.cells #[.int .i64 1, .slice (some ⟨g, 0, none⟩) 3 3, .slice (some ⟨g + 1 + 1 + 1, 0, none⟩) 2 2] 36)
  rw [hz0] at hc1
  obtain ⟨w1, hw1⟩ : ∃ z, w0.alloc (.cells #[.int .i64 1, .slice (some ⟨g, 0, none⟩) 3 3, .slice (some ⟨g + 1 + 1 + 1, 0, none⟩) 2 2] 36) = z := ⟨_, rfl⟩
  rw [hw1] at hE1 hc1 ⊢
  have HCF := Lib.hid (show ∀ w', Ext w1 w' → IsConf w' (.agg #[.int .i64 1, .slice (some ⟨g, 0, none⟩) 3 3, .slice (some ⟨g + 1 + 1 + 1, 0, none⟩) 2 2]) Quo.exC from fun w' h => by
    obtain ⟨s, d, e, h1, h2⟩ := hal
    exact ⟨s, d, e, h1.below (hE1.trans h), h2.below (hE1.trans h)⟩)
  have HC1 := Lib.hid (And.intro hc1 (hE0.trans hE1))
  have y0 := cell_of_heap hc1 0
  have y1 := cell_of_heap hc1 1
  have y2 := cell_of_heap hc1 2
  simp at y0 y1 y2
  clear hal hE0 hz0 hw0 hg hE1 hc1 hw1
  go_wp2_with fail
  refine (new12_any w1 _ Quo.exC (HCF.out w1 (Ext.refl _))).mono ?_
  rintro e w2 ⟨h, hE2⟩
  rcases h with ⟨x, _, rfl, SP0, KP0, hpr⟩ | ⟨h, _⟩
  case inr => exact absurd Quo.exC_right (by rw [h]; decide)
  have HPR := Lib.hid (hpr.lower12 HC1.out.2.size)
  have HC2 := Lib.hid (And.intro (heap_ext HC1.out.1 hE2) (HC1.out.2.trans hE2))
  have HCF2 := Lib.hid (HCF.out w2 hE2)
  have z0 := cell_of_heap HC2.out.1 0
  have z1 := cell_of_heap HC2.out.1 1
  have z2 := cell_of_heap HC2.out.1 2
  simp at z0 z1 z2
  clear hpr hE2 y0 y1 y2 HCF HC1
  go_wp2_with fail
  refine (newS12_any w2 _ Quo.exC HCF2.out).mono ?_
  rintro e w3 ⟨h, hE3⟩
  rcases h with ⟨xs, _, rfl, SS0, hse⟩ | ⟨h, _⟩
  case inr => exact absurd Quo.exC_right (by rw [h]; decide)
  have hA3 : Al12 w SP0 KP0 SS0 (fun _ => False) x xs (Quo.new Quo.exC) Quo.exS0 w3 := ⟨HPR.out.ext hE3, hse.lower12 HC2.out.2.size, HC2.out.2.trans hE3, fun k hk => ⟨fun e => by have := (HPR.out.lt e).2; have := (hse.lt k hk).1; omega, fun e => by have := (HPR.out.ltK e).2; have := (hse.lt k hk).1; omega⟩, fun k hk => hk.elim⟩
  have HA3 := Lib.hid hA3
  clear hA3 hse hE3 HPR HC2 HCF2 z0 z1 z2
  go_upto_region 6 with fail
  have hE4 : Ext w3 (w3.alloc (.cells #[.int .i64 1, .int .i64 0] 3)) := Ext.alloc _ _
  have how4 := ownNew12 w3 [.int .i64 1, .int .i64 0] 3 (by simp [maxLen])
  simp only [List.length_cons, List.length_nil] at how4
  go_wp2_with fail
  obtain ⟨w4, hw4⟩ : ∃ z, w3.alloc (.cells #[.int .i64 1, .int .i64 0] 3) = z := ⟨_, rfl⟩
  rw [hw4] at hE4 ⊢
  rw [show w3.alloc (.cells [Value.int .i64 1, Value.int .i64 0].toArray 3) = w4 from hw4] at how4
  refine (cut12_any (HA3.out.extend hE4).pr (.slice (some ⟨w3.heap.size, 0, none⟩) 2 2) [1, 0] (show OwnI w4 w3.heap.size _ [1, 0] from how4).ints).mono ?_
  rw [Quo.ex_cut1.1, Quo.ex_cut1.2.1, Quo.ex_cut1.2.2]
  rintro e w5 ⟨u, rfl, hu, hl⟩
  obtain ⟨ua, un, uc, rfl⟩ := intsSlice hu.row.ints
  obtain ⟨SP5, KP5, hA5, _, _⟩ := (HA3.out.extend hE4).stepP hl
  have HA5 := Lib.hid hA5
  have HU5 := Lib.hid (show RowN w3.heap.size w5 (.slice ua un uc) Quo.exE.cut from hu.lower hE4.size)
  have HSS := Lib.hid (show ∀ k, SS0 k → k < w3.heap.size from fun k hk => (HA3.out.se.lt k hk).2)
  clear hE4 how4 hw4 hu hl hA5 HA3
  go_upto_region 7 with (first
    | (refine allocE12 (by rfl) rfl ?_; intro W6 q6 hat6 hE6 hq6)
    | (refine putE12 (t2 := .slice ua un uc) (e2 := Quo.exE) (by rfl) _ _ rfl rfl rfl hat6.out ⟨_, _, _, rfl⟩ ?_; intro W7 hat7 hB7))
  have hE7 : Ext w5 W7 := Ext.newQ11 hE6.out (Nat.le_of_eq hq6.out.symm) hB7.out
  have HA7 := Lib.hid (HA5.out.grow hE7)
  have HU7 := Lib.hid (HU5.out.ext hE7)
  have HAT7 := Lib.hid hat7.out
  have HF7 := Lib.hid (show (fun k => False ∨ (w5.heap.size ≤ k ∧ k < W7.heap.size)) q6 from .inr ⟨Nat.le_of_eq hq6.out.symm, hat7.out.lt⟩)
  obtain ⟨F, hF⟩ : ∃ F : Nat → Prop, F = fun k => False ∨ (w5.heap.size ≤ k ∧ k < W7.heap.size) := ⟨_, rfl⟩
  rw [← hF] at HA7 HF7
  clear hE7 hF hat6 hE6 hq6 hat7 hB7 HA5 HU5
  have hE8 : Ext W7 (W7.alloc (.cells #[.int .i64 1, .int .i64 0] 3)) := Ext.alloc _ _
  have how8 := ownNew12 W7 [.int .i64 1, .int .i64 0] 3 (by simp [maxLen])
  simp only [List.length_cons, List.length_nil] at how8
  go_wp2_with fail
  obtain ⟨w8, hw8⟩ : ∃ z, W7.alloc (.cells #[.int .i64 1, .int .i64 0] 3) = z := ⟨_, rfl⟩
  rw [hw8] at hE8 ⊢
  rw [show W7.alloc (.cells [Value.int .i64 1, Value.int .i64 0].toArray 3) = w8 from hw8] at how8
  refine (cut12_any (HA7.out.extend hE8).pr (.slice (some ⟨W7.heap.size, 0, none⟩) 2 2) [1, 0] (show OwnI w8 W7.heap.size _ [1, 0] from how8).ints).mono ?_
  rw [Quo.ex_cut2.1, Quo.ex_cut2.2.1, Quo.ex_cut2.2.2]
  rintro e w9 ⟨u9, rfl, hu9, hl9⟩
  obtain ⟨u9a, u9n, u9c, rfl⟩ := intsSlice hu9.row.ints
  obtain ⟨SP9, KP9, hA9, ht9, hf9⟩ := (HA7.out.extend hE8).stepP hl9
  have HA9 := Lib.hid hA9
  have HU9 := Lib.hid ((HU7.out.ext hE8).pr12 (HA7.out.extend hE8).pr ht9)
  have HAT9 := Lib.hid ((HAT7.out.ext hE8).block (hf9 q6 HF7.out))
  clear hE8 how8 hw8 hu9 hl9 hA9 ht9 hf9 HA7 HU7 HAT7
  have hb0 := build_exM0
  have hb1 := build_exM1
  go_upto_region 8 with (first
    | (refine allocE12 (by rfl) rfl ?_; intro W10 q10 hat10 hE10 hq10)
    | (refine putE12 (t2 := .slice u9a u9n u9c) (e2 := Msg.ent0) (by rfl) _ _ rfl rfl rfl hat10.out ⟨_, _, _, rfl⟩ ?_; intro W11 hat11 hB11))
  have hE11 : Ext w9 W11 := Ext.newQ11 hE10.out (Nat.le_of_eq hq10.out.symm) hB11.out
  have HA11 := Lib.hid (HA9.out.extend hE11)
  have HU11 := Lib.hid (HU9.out.ext hE11)
  have HAT11 := Lib.hid (HAT9.out.ext hE11)
  clear hE11 hat10 hE10 hq10 hat11 hB11 HA9 HU9 HAT9
  go_wp2_with fail
  refine (heard12_any HA11.out.pr _ Quo.exM0 (freeMsg12 _ rfl rfl rfl rfl) (show Wf64 _ from rfl)).mono ?_
  rw [Quo.ex_hear1]
  rintro e w12 ⟨rfl, hl12⟩
  obtain ⟨SP12, KP12, hA12, ht12, hf12⟩ := HA11.out.stepP hl12
  have HA12 := Lib.hid (show Al12 w SP12 KP12 SS0 F x xs Quo.exP2 Quo.exS0 w12 from hA12)
  have HU12 := Lib.hid (HU11.out.pr12 HA11.out.pr ht12)
  have HAT12 := Lib.hid (HAT11.out.block (hf12 q6 HF7.out))
  clear hl12 hA12 ht12 hf12 HA11 HU11 HAT11
  go_wp2_with fail
  refine (heard12_any HA12.out.pr _ Quo.exM1 (freeMsg12 _ rfl rfl rfl rfl) (show Wf64 _ from rfl)).mono ?_
  rw [Quo.ex_hear2]
  rintro e w13 ⟨rfl, hl13⟩
  obtain ⟨SP13, KP13, hA13, ht13, hf13⟩ := HA12.out.stepP hl13
  have HA13 := Lib.hid (show Al12 w SP13 KP13 SS0 F x xs Quo.exP3 Quo.exS0 w13 from hA13)
  have HU13 := Lib.hid (HU12.out.pr12 HA12.out.pr ht13)
  have HAT13 := Lib.hid (HAT12.out.block (hf13 q6 HF7.out))
  clear hl13 hA13 ht13 hf13 HA12 HU12 HAT12 hb0 hb1
  have hE14 : Ext w13 (w13.alloc (.cells #[.int .i64 2, .int .i64 0] 3)) := Ext.alloc _ _
  have how14 := ownNew12 w13 [.int .i64 2, .int .i64 0] 3 (by simp [maxLen])
  simp only [List.length_cons, List.length_nil] at how14
  go_wp2_with fail
  obtain ⟨w14, hw14⟩ : ∃ z, w13.alloc (.cells #[.int .i64 2, .int .i64 0] 3) = z := ⟨_, rfl⟩
  rw [hw14] at hE14 ⊢
  rw [show w13.alloc (.cells [Value.int .i64 2, Value.int .i64 0].toArray 3) = w14 from hw14] at how14
  refine (cut12_any (HA13.out.extend hE14).pr (.slice (some ⟨w13.heap.size, 0, none⟩) 2 2) [2, 0] (show OwnI w14 w13.heap.size _ [2, 0] from how14).ints).mono ?_
  rw [Quo.ex_cut3.1, Quo.ex_cut3.2.1, Quo.ex_cut3.2.2]
  rintro e w15 ⟨u15, rfl, hu15, hl15⟩
  obtain ⟨u15a, u15n, u15c, rfl⟩ := intsSlice hu15.row.ints
  obtain ⟨SP15, KP15, hA15, ht15, hf15⟩ := (HA13.out.extend hE14).stepP hl15
  have HA15 := Lib.hid hA15
  have HU15 := Lib.hid ((HU13.out.ext hE14).pr12 (HA13.out.extend hE14).pr ht15)
  have HAT15 := Lib.hid ((HAT13.out.ext hE14).block (hf15 q6 HF7.out))
  clear hE14 how14 hw14 hu15 hl15 hA15 ht15 hf15 HA13 HU13 HAT13
  go_upto_region 11 with (first
    | (refine allocE12 (by rfl) rfl ?_; intro W16 q16 hat16 hE16 hq16)
    | (refine putE12 (t2 := .slice u15a u15n u15c) (e2 := Msg.ent0) (by rfl) _ _ rfl rfl rfl hat16.out ⟨_, _, _, rfl⟩ ?_; intro W17 hat17 hB17))
  have hE17 : Ext w15 W17 := Ext.newQ11 hE16.out (Nat.le_of_eq hq16.out.symm) hB17.out
  have HA17 := Lib.hid (HA15.out.extend hE17)
  have HU17 := Lib.hid (HU15.out.ext hE17)
  have HAT17 := Lib.hid (HAT15.out.ext hE17)
  clear hE17 hat16 hE16 hq16 hat17 hB17 HA15 HU15 HAT15
  have hle := HAT17.out.ld ⟨_, _, _, rfl⟩
  have hE18 : Ext W17 (W17.alloc (.cells (entCells12 (.slice ua un uc) Quo.exE) 74)) := Ext.alloc _ _
  have hrow18 : (W17.alloc (.cells (entCells12 (.slice ua un uc) Quo.exE) 74)).ownsRow W17.heap.size 74 6 (.slice (some ⟨W17.heap.size, 0, none⟩) 1 1) 1 (entFlat [(.slice ua un uc, Quo.exE)]) := ⟨by simp [entFlat], .inr ⟨_, 1, _, rfl, Nat.le_refl _, heap_alloc_new W17 _, Nat.le_refl _, by simp [maxLen], by simp [entCells12], by rfl⟩⟩
  go_wp2_with (first
    | (refine ldAny (by rfl) _ rfl rfl hle ?_)
    | (refine opAny12 (.slice (some ⟨W17.heap.size, 0, none⟩) 1 1) (o := .buildSlice 43 _ _) rfl (by kernel_rfl) (w' := W17.alloc (.cells (entCells12 (.slice ua un uc) Quo.exE) 74)) (by kernel_rfl) ?_))
  obtain ⟨w18, hw18⟩ : ∃ z, W17.alloc (.cells (entCells12 (.slice ua un uc) Quo.exE) 74) = z := ⟨_, rfl⟩
  rw [hw18] at hE18 hrow18 ⊢
  have hA18 := HA17.out.extend hE18
  have hnS : ∀ k, SS0 k → k < w3.heap.size := HSS.out
  refine (heardS12_any hA18.se 0 rfl (.slice (some ⟨W17.heap.size, 0, none⟩) 1 1) [(.slice ua un uc, Quo.exE)] (by simp) (fun w' ht => ⟨SlN.ofOwn (rowOwn hrow18 fun k hk => ht.block k (hrow18.lt k hk).2 (fun hs => by have h1 := HA17.out.se.lt k hs; have h2 := (hrow18.lt k hk).1; omega)), fun q hq => by
    obtain rfl := List.mem_singleton.1 hq
    have hu := HU17.out.ext hE18
    exact (hu.blocks fun k hk => ht.block k (hu.lt k hk).2 (fun hs => by have h1 := hnS k hs; have h2 := (hu.lt k hk).1; omega)).row.ints⟩)).mono ?_
  rintro e w19 ⟨rfl, hl19⟩
  obtain ⟨SS19, hA19, hf19⟩ := hA18.stepS hl19
  have HAT19 := Lib.hid ((HAT17.out.ext hE18).block (hf19 q6 HF7.out))
  have HA19 := Lib.hid (show Al12 w SP15 KP15 SS19 F x xs Quo.exP3 Quo.exS1 w19 from hA19)
  rw [show Quo.exS0.hears 0 ([(Value.slice ua un uc, Quo.exE)].map (·.2)) = true from Quo.ex_s1h]
  clear hle hE18 hrow18 hw18 hA18 hnS hl19 hA19 hf19 HA17 HU17 HAT17
  go_wp2_with fail
  refine (heardS12_any HA19.out.se 1 rfl (.slice none 0 0) [] (by simp) (fun w' ht => ⟨SlN.ofOwn (World.ownsRow_nil w' w'.heap.size 74 6), fun q hq => by cases hq⟩)).mono ?_
  rintro e w20 ⟨rfl, hl20⟩
  obtain ⟨SS20, hA20, hf20⟩ := HA19.out.stepS hl20
  have HAT20 := Lib.hid (HAT19.out.block (hf20 q6 HF7.out))
  have HA20 := Lib.hid (show Al12 w SP15 KP15 SS20 F x xs Quo.exP3 Quo.exS2 w20 from hA20)
  rw [show Quo.exS1.hears 1 (([] : List (Value × Ent.E)).map (·.2)) = true from Quo.ex_s2h]
  clear hl20 hA20 hf20 HA19 HAT19
  go_wp2_with fail
  refine (tail12_any HA20.out.se).mono ?_
  rw [Quo.ex_done, Quo.ex_long]
  rintro e w21 ⟨ut, qt, rfl, hE21, hrow21, hqs21, _⟩
  obtain ⟨ta, tn, tc, rfl⟩ := ownSlice hrow21
  have htn : tn = 1 := by
    have h1 := ownLen hrow21
    have h2 := congrArg List.length hqs21
    simp [orNil12] at h2
    omega
  subst htn
  have HA21 := Lib.hid (HA20.out.extend hE21)
  have y0 : w21.cell? ⟨q6, 0, none⟩ = some (.int .i64 1) := cell_of_heap (HAT20.out.ext hE21) 0
  clear hE21 hrow21 hqs21 HA20 HAT20
  go_wp2_with fail
  refine (committed12_any HA21.out.pr).mono ?_
  rw [Quo.ex_committed]
  rintro e w22 ⟨rfl, hE22⟩
  have HA22 := Lib.hid (HA21.out.extend hE22)
  clear hE22 HA21 y0
  go_wp2_with fail
  refine (missing12_any HA22.out.pr 2 rfl).mono ?_
  rw [Quo.ex_missing]
  rintro e w23 ⟨um, qm, rfl, hE23, hrow23, hqs23, _⟩
  obtain ⟨ma, mn, mc, rfl⟩ := ownSlice hrow23
  have hmn : mn = 1 := by
    have h1 := ownLen hrow23
    have h2 := congrArg List.length hqs23
    simp at h2
    omega
  subst hmn
  have HA23 := Lib.hid (HA22.out.extend hE23)
  clear hE23 hrow23 hqs23 HA22
  go_wp2_with fail
  go_ret
  exact ⟨rfl, HA23.out.ext⟩
end Go.Proofs.Ytnoeconcpgdjlaa
