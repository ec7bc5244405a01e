/-
  Merged: Layer 11: the statements' alive.
-/
import Derived.Test.YtckdofhcifdpmaaGreatBsMath2
import Derived.Test.YtckdofhcifdpmaaGreatBsRpN

namespace Go.Proofs.YtckdofhcifdpmaaGreat
set_option linter.unusedSimpArgs false
set_option linter.unusedVariables false
set_option maxRecDepth 100000
open Go.RowKit
/- Layer 11: the statements' alive. -/
theorem ownNew11 (w : World) (cs : List Value) (e : TypeId) (hm : cs.length ≤ maxLen) : (w.alloc (.cells cs.toArray e)).ownsRow w.heap.size e 1 (.slice (some ⟨w.heap.size, 0, none⟩) cs.length cs.length) cs.length cs :=
  ⟨by simp, .inr ⟨_, cs.length, cs.toArray, rfl, Nat.le_refl _, heap_alloc_new w _, Nat.le_refl _, hm, by simp, by simp⟩⟩
def al11 (w : World) : World := ((w.alloc (.cells #[.int .i64 0, .int .i64 1, .int .i64 2] 3)).alloc (.cells #[.int .i64 3] 3)).alloc (.cells #[.slice (some ⟨w.heap.size + 1, 0, none⟩) 1 1] 22)
def alC11 : Term.C := ⟨1, [0, 1, 2], [[3]]⟩
theorem al11_conf (w : World) : IsConf (al11 w) (confV 1 (.slice (some ⟨w.heap.size, 0, none⟩) 3 3) (.slice (some ⟨w.heap.size + 1 + 1, 0, none⟩) 1 1)) alC11 := by
  have h1 := ownNew11 w [.int .i64 0, .int .i64 1, .int .i64 2] 3 (by simp [maxLen])
  have h2 := ownNew11 (w.alloc (.cells #[.int .i64 0, .int .i64 1, .int .i64 2] 3)) [.int .i64 3] 3 (by simp [maxLen])
  have h3 := ownNew11 ((w.alloc (.cells #[.int .i64 0, .int .i64 1, .int .i64 2] 3)).alloc (.cells #[.int .i64 3] 3)) [.slice (some ⟨w.heap.size + 1, 0, none⟩) 1 1] 22 (by simp [maxLen])
  simp only [World.size_alloc, List.length_cons, List.length_nil] at h1 h2 h3
  refine ⟨_, _, rfl, (show OwnI (al11 w) w.heap.size _ [0, 1, 2] from rowExt h1 ((Ext.alloc _ _).trans (Ext.alloc _ _))).ints, (show OwnRR (al11 w) w.heap.size (.slice (some ⟨w.heap.size + 1 + 1, 0, none⟩) 1 1) [[3]] from ⟨[.slice (some ⟨w.heap.size + 1, 0, none⟩) 1 1], rowLower h3 (by omega), rfl, fun i h h' => ?_⟩).rows⟩
  match i, h with
  | 0, _ => exact rowLower (rowExt h2 (Ext.alloc _ _)) (by omega)
theorem al11_may : May11 0 alC11 := ⟨by decide, by decide⟩
theorem build_exE (w : World) (v : Value) (hv : ∃ a n c, v = .slice a n c) : (Instr.build 77 #[(0, .int .i64 1), (1, .int .i64 1), (2, v)]).run Tryz.prog w = .ok (.agg #[.int .i64 1, .int .i64 1, v, .int .i64 0, .int .i64 0, .int .i64 0]) w := by
  obtain ⟨a, n, c, rfl⟩ := hv
  kernel_rfl
theorem build_exO (w : World) (v : Value) (hv : ∃ a n c, v = .slice a n c) : (Instr.build 79 #[(0, .int .i64 3), (3, .int .i64 1), (8, .agg #[.int .i64 1, .int .i64 1, v, .int .i64 0, .int .i64 0, .int .i64 0])]).run Tryz.prog w = .ok (.agg (msgCells (Rep.exO 1) (.slice none 0 0) v (.slice none 0 0) (.slice none 0 0))) w := by
  obtain ⟨a, n, c, rfl⟩ := hv
  kernel_rfl
theorem build_exS (w : World) : (Instr.build 79 #[(0, .int .i64 5), (3, .int .i64 1)]).run Tryz.prog w = .ok (.agg (msgCells Rep.exS (.slice none 0 0) (.slice none 0 0) (.slice none 0 0) (.slice none 0 0))) w := by kernel_rfl
theorem exO_is {w : World} {b B : Nat} (n : Int) (h : OwnI w B (.slice (some ⟨b, 0, none⟩) 1 1) [1]) : IsMsg w (.agg (msgCells (Rep.exO n) (.slice none 0 0) (.slice (some ⟨b, 0, none⟩) 1 1) (.slice none 0 0) (.slice none 0 0))) (Rep.exO n) := ⟨_, _, _, _, rfl, ints0 w, h.ints, ints0 w, irows0 w⟩
theorem exS_is (w : World) : IsMsg w (.agg (msgCells Rep.exS (.slice none 0 0) (.slice none 0 0) (.slice none 0 0) (.slice none 0 0))) Rep.exS := ⟨_, _, _, _, rfl, ints0 w, ints0 w, ints0 w, irows0 w⟩

/-- A replica that is new in a statement. -/
theorem Seat11.begun {W w1 w2 : World} {x : Nat} {r : Rep.Rp} (hE0 : Ext W w1) (hR : IsRep w2 w1.heap.size (fun k => w1.heap.size ≤ k) x r) (hE2 : Ext w1 w2) : Seat11 W (fun k => w1.heap.size ≤ k ∧ k < w2.heap.size) x r w2 := by
  obtain ⟨p, va, vp, ev, es, h⟩ := hR
  exact ⟨⟨p, va, vp, ev, es, (h.wider fun k hk hs => ⟨hs, hk⟩).lower hE0.size⟩, hE0.trans hE2, fun k hk => ⟨Nat.le_trans hE0.size hk.1, hk.2⟩⟩
theorem MsgAt.tws {T : TypeId} {w w' : World} {q : Nat} {S : Nat → Prop} {m : Msg.M} {rt et sv dv : Value} (h : MsgAt T w q m rt et sv dv) (ht : TwS S w w') (hq : ¬ S q) : MsgAt T w' q m rt et sv dv := (ht.block q h.lt hq).trans h
theorem Seat11.keepOwn {W w w' : World} {S : Nat → Prop} {b B x : Nat} {r : Rep.Rp} {n c : Nat} {l : List Int} (hr : OwnI w B (.slice (some ⟨b, 0, none⟩) n c) l) (ht : TwS S w w') (hb : b < w.heap.size) (hq : ¬ S b) : OwnI w' B (.slice (some ⟨b, 0, none⟩) n c) l := rowOwn hr fun k hk => by
  have hkb : k = b := (show some b = some k → k = b from fun e => by injection e with e; exact e.symm) hk
  subst hkb
  exact ht.block _ hb hq

set_option maxHeartbeats 40000000 in
theorem alive11_any (w : World) : Calls Tryz.prog 12 #[] w fun e w' => e = .returned (.bool true) ∧ Ext w w' := by
  go_enter Tryz.func12, Tryz.ntmps12
  go_wp2_with fail
  have hal := al11_conf w
  have hE0 : Ext w (al11 w) := ((Ext.alloc _ _).trans (Ext.alloc _ _)).trans (Ext.alloc _ _)
  unfold al11 at hal hE0
  obtain ⟨w1, hw1⟩ : ∃ z, ((w.alloc (.cells #[.int .i64 0, .int .i64 1, .int .i64 2] 3)).alloc (.cells #[.int .i64 3] 3)).alloc (.cells #[.slice (some ⟨w.heap.size + 1, 0, none⟩) 1 1] 22) = z := ⟨_, rfl⟩
  rw [hw1] at hal hE0
  rw [hw1]
  clear hw1
  refine (new11_any w1 0 _ alC11 hal).mono ?_
  rintro e w2 ⟨h, hE2⟩
  rcases h with ⟨x, _, rfl, hR⟩ | ⟨h, _⟩
  case inr => exact absurd al11_may h
  have hs2 := Seat11.begun hE0 hR hE2
  obtain ⟨S, hS⟩ : ∃ S : Nat → Prop, S = fun k => w1.heap.size ≤ k ∧ k < w2.heap.size := ⟨_, rfl⟩
  rw [← hS] at hs2
  have HS2 := Lib.hid (show Seat11 w S x Rep.exR0 w2 from hs2)
  clear hal hE0 hR hE2 hs2 hS
  have hbe := build_exE
  have hbo := build_exO
  have hbs := build_exS
  go_wp2_with (first
    | (refine allocM (by rfl) rfl ?_; intro W4 q4 hat4 hE4 hq4)
    | (refine putM (m2 := Rep.exO 1) (r2 := .slice none 0 0) (s2 := .slice none 0 0) (d2 := .slice none 0 0) (by rfl) _ _ rfl rfl rfl hat4.out noSlice ⟨_, _, _, rfl⟩ noSlice noSlice ?_; intro W5 hat5 hB5)
    | (refine ldA (by rfl) _ rfl rfl hat5.out ?_))
  have hb : w2.heap.size ≤ w2.heap.size := Nat.le_refl _
  obtain ⟨b, hbq⟩ : ∃ z, w2.heap.size = z := ⟨_, rfl⟩
  have how := ownNew11 w2 [.int .i64 1] 3 (by simp [maxLen])
  obtain ⟨w3, hw3⟩ : ∃ z, w2.alloc (.cells #[.int .i64 1] 3) = z := ⟨_, rfl⟩
  have hE3 : Ext w2 w3 := by rw [← hw3]; exact Ext.alloc _ _
  have hz3 : w3.heap.size = b + 1 := by rw [← hw3, World.size_alloc, hbq]
  rw [hbq] at how
  have hE4' := hE4.out
  have hq4' := hq4.out
  rw [hw3] at how
  simp only [hw3] at hE4' hq4'
  have hB5' := hB5.out
  have hat5' := hat5.out
  rw [hbq] at hat5' ⊢
  have how5 : OwnI W5 w2.heap.size (.slice (some ⟨b, 0, none⟩) 1 1) [1] := by
    rw [hbq]
    exact rowOwn (rowExt how hE4') fun k hk => by
      have hkb : k = b := (show some b = some k → k = b from fun e => by injection e with e; exact e.symm) hk
      subst hkb
      exact hB5'.block _ (by have := hE4'.size; omega) (by omega)
  have hq3 := HS2.out.new (q := q4) (by omega)
  have hnb : ¬ S b := (HS2.out.new (q := b) (by omega)).1
  have hs5 : Seat11 w S x Rep.exR0 W5 := (HS2.out.extend (hE3.trans hE4')).but hB5' hq3.1 hq3.2
  have hlt5 : b < W5.heap.size ∧ q4 < W5.heap.size := ⟨by have := hE4'.size; have := hB5'.size; omega, hat5'.lt⟩
  have hne5 : b ≠ q4 := by omega
  clear how hE3 hz3 hw3 hE4' hq4' hB5' hb hat4 hE4 hq4 hat5 hB5
  obtain ⟨p, va, vp, ev, es, hrep⟩ := hs5.rep
  refine (take11_any hrep (fun k hk => (hs5.low k hk).2) _ (Rep.exO 1) (fun w' ht => exO_is 1 (Seat11.keepOwn (W := w) (x := x) (r := Rep.exR0) how5 ht hlt5.1 hnb))).mono ?_
  unfold GivesTold
  rw [Rep.ex_take1]
  rintro e w6 ⟨rfl, hl6⟩
  obtain ⟨S6, hs6, ht6, hk6⟩ := hs5.step hl6
  have HS6 := Lib.hid hs6
  have HQ6 := Lib.hid (And.intro (show ¬ S6 q4 from fun h => hq3.1 (hk6 _ hlt5.2 h)) hq3.2)
  have HAT6 := Lib.hid (hat5'.tws ht6 hq3.1)
  have HB6 := Lib.hid (show b < w6.heap.size ∧ ¬ S6 b ∧ b ≠ q4 from ⟨Nat.lt_of_lt_of_le hlt5.1 ht6.size, fun h => hnb (hk6 _ hlt5.1 h), hne5⟩)
  have HOW6 := Lib.hid (Seat11.keepOwn (W := w) (x := x) (r := Rep.exR0) how5 ht6 hlt5.1 hnb)
  clear hbe hbo hs6 ht6 hk6 hl6 how5 hq3 hnb hs5 hlt5 hne5 hat5' hrep hbq
  obtain ⟨m1, hm1⟩ : ∃ mm, mm = (⟨4, 0, 0, 1, 0, 1, false, Msg.rec0, Msg.ent0, 0, 0, Msg.conf0⟩ : Msg.M) := ⟨_, rfl⟩
  simp only
  rw [← hm1]
  have HM1 := Lib.hid hm1
  clear hm1
  go_wp2_with (first
    | (refine allocM (by rfl) rfl ?_; intro W7 q7 hat7 hE7 hq7)
    | (refine putM (m2 := m1) (r2 := .slice none 0 0) (e2 := .slice none 0 0) (s2 := .slice none 0 0) (d2 := .slice none 0 0) (by rfl) _ _ rfl rfl rfl hat7.out noSlice noSlice noSlice noSlice ?_; intro W8 hat8 hB8))
  have hq7b := HS6.out.new (q := q7) (Nat.le_of_eq hq7.out.symm)
  have hs8 : Seat11 w S6 x Rep.exR1 W8 := (HS6.out.extend hE7.out).but hB8.out hq7b.1 hq7b.2
  have hat8b : MsgAt 79 W8 q4 (Rep.exO 1) (.slice none 0 0) (.slice (some ⟨b, 0, none⟩) 1 1) (.slice none 0 0) (.slice none 0 0) := (HAT6.out.ext hE7.out).but hB8.out (by have h1 := HAT6.out.lt; have h2 := hq7.out; omega)
  have how8 : OwnI W8 w2.heap.size (.slice (some ⟨b, 0, none⟩) 1 1) [1] := rowOwn (rowExt HOW6.out hE7.out) fun k hk => by
    have hkb : k = b := (show some b = some k → k = b from fun e => by injection e with e; exact e.symm) hk
    subst hkb
    exact hB8.out.block _ (by have h1 := HB6.out.1; have := hE7.out.size; omega) (by have h1 := HB6.out.1; have h2 := hq7.out; omega)
  obtain ⟨p, va, vp, ev, es, hrep⟩ := hs8.rep
  refine (take11_any hrep (fun k hk => (hs8.low k hk).2) _ Rep.exS (fun w' ht => exS_is w')).mono ?_
  unfold GivesTold
  rw [Rep.ex_take2]
  rintro e w9 ⟨rfl, hl9⟩
  obtain ⟨S9, hs9, ht9, hk9⟩ := hs8.step hl9
  have h8lt : q4 < W8.heap.size ∧ q7 < W8.heap.size ∧ b < W8.heap.size ∧ b ≠ q7 ∧ q4 ≠ q7 := ⟨hat8b.lt, hat8.out.lt, by have h1 := HB6.out.1; have h2 := hE7.out.size; have h3 := hB8.out.size; omega, by have h1 := HB6.out.1; have h2 := hq7.out; omega, by have h1 := HAT6.out.lt; have h2 := hq7.out; omega⟩
  have HS9 := Lib.hid hs9
  have HQ9 := Lib.hid (show (¬ S9 q4 ∧ w.heap.size ≤ q4) ∧ (¬ S9 q7 ∧ w.heap.size ≤ q7) from ⟨⟨fun h => HQ6.out.1 (hk9 _ h8lt.1 h), HQ6.out.2⟩, fun h => hq7b.1 (hk9 _ h8lt.2.1 h), hq7b.2⟩)
  have HAT9 := Lib.hid (And.intro (hat8b.tws ht9 HQ6.out.1) (hat8.out.tws ht9 hq7b.1))
  have HB9 := Lib.hid (show b < w9.heap.size ∧ ¬ S9 b ∧ b ≠ q4 ∧ b ≠ q7 ∧ q4 ≠ q7 from ⟨Nat.lt_of_lt_of_le h8lt.2.2.1 ht9.size, fun h => HB6.out.2.1 (hk9 _ h8lt.2.2.1 h), HB6.out.2.2, h8lt.2.2.2⟩)
  have HOW9 := Lib.hid (Seat11.keepOwn (W := w) (x := x) (r := Rep.exR0) how8 ht9 h8lt.2.2.1 HB6.out.2.1)
  clear hbs hs9 ht9 hk9 hl9 how8 hq7b hs8 h8lt hat8b hrep hat7 hE7 hq7 hat8 hB8 HQ6 HAT6 HB6 HOW6 HS6
  obtain ⟨m2, hm2⟩ : ∃ mm, mm = (⟨6, 0, 0, 1, 0, 1, true, Msg.rec0, Msg.ent0, 0, 0, Msg.conf0⟩ : Msg.M) := ⟨_, rfl⟩
  simp only
  rw [← hm2]
  have HM2 := Lib.hid hm2
  clear hm2
  go_upto_region 7 with (first
    | (refine allocM (by rfl) rfl ?_; intro W10 q10 hat10 hE10 hq10)
    | (refine putM (m2 := m2) (r2 := .slice none 0 0) (e2 := .slice none 0 0) (s2 := .slice none 0 0) (d2 := .slice none 0 0) (by rfl) _ _ rfl rfl rfl hat10.out noSlice noSlice noSlice noSlice ?_; intro W11 hat11 hB11))
  have hqe := hq10.out
  have hq10b := HS9.out.new (q := q10) (Nat.le_of_eq hqe.symm)
  have hlt9 : q4 < w9.heap.size ∧ q7 < w9.heap.size ∧ q10 = w9.heap.size := ⟨HAT9.out.1.lt, HAT9.out.2.lt, hqe⟩
  have hs11 : Seat11 w S9 x Rep.exR2 W11 := (HS9.out.extend hE10.out).but hB11.out hq10b.1 hq10b.2
  have hx11 : MsgAt 79 W11 q4 (Rep.exO 1) (.slice none 0 0) (.slice (some ⟨b, 0, none⟩) 1 1) (.slice none 0 0) (.slice none 0 0) := (HAT9.out.1.ext hE10.out).but hB11.out (by omega)
  have hm11 : MsgAt 79 W11 q7 m1 (.slice none 0 0) (.slice none 0 0) (.slice none 0 0) (.slice none 0 0) := (HAT9.out.2.ext hE10.out).but hB11.out (by omega)
  have how11 : OwnI W11 w2.heap.size (.slice (some ⟨b, 0, none⟩) 1 1) [1] := rowOwn (rowExt HOW9.out hE10.out) fun k hk => by
    have hkb : k = b := (show some b = some k → k = b from fun e => by injection e with e; exact e.symm) hk
    subst hkb
    exact hB11.out.block _ (by have h1 := HB9.out.1; have := hE10.out.size; omega) (by have h1 := HB9.out.1; omega)
  have hn11 := hat11.out
  have c11 := hx11.ent.1
  have f11 := frozen_of_heap hx11 11
  have hat12 : MsgAt 79 (W11.setCell ⟨q4, 11, none⟩ (.int .i64 2)) q4 (Rep.exO 2) (.slice none 0 0) (.slice (some ⟨b, 0, none⟩) 1 1) (.slice none 0 0) (.slice none 0 0) := heap_setCell hx11 11 (.int .i64 2)
  have HS11 := Lib.hid hs11
  have HM11 := Lib.hid (And.intro hm11 hn11)
  have HO11 := Lib.hid how11
  have HL11 := Lib.hid (show q4 < q10 ∧ q7 < q10 ∧ b < q10 ∧ q10 < W11.heap.size from ⟨by omega, by omega, by have h1 := HB9.out.1; omega, hn11.lt⟩)
  have HQ10 := Lib.hid hq10b
  clear hs11 hm11 how11 hn11 hqe hq10b hlt9 hx11 hat10 hE10 hq10 hat11 hB11 HS9 HAT9 HOW9
  go_wp2_with (refine ldA (by rfl) _ rfl rfl hat12 ?_)
  obtain ⟨w12, hw12⟩ : ∃ z, W11.setCell ⟨q4, 11, none⟩ (.int .i64 2) = z := ⟨_, rfl⟩
  have hB12 : But q4 W11 w12 := by rw [← hw12]; exact butSet _ _ _ _
  rw [hw12] at hat12 ⊢
  have hs12 : Seat11 w S9 x Rep.exR2 w12 := HS11.out.but hB12 HQ9.out.1.1 HQ9.out.1.2
  have how12 : OwnI w12 w2.heap.size (.slice (some ⟨b, 0, none⟩) 1 1) [1] := rowOwn HO11.out fun k hk => by
    have hkb : k = b := (show some b = some k → k = b from fun e => by injection e with e; exact e.symm) hk
    subst hkb
    exact hB12.block _ (by have := HL11.out; omega) HB9.out.2.2.1
  have hm12 := HM11.out.1.but hB12 (fun e => HB9.out.2.2.2.2 e.symm)
  have hn12 := HM11.out.2.but hB12 (by have := HL11.out; omega)
  have hlt12 : b < w12.heap.size := by have := HL11.out; have := hB12.size; omega
  obtain ⟨p, va, vp, ev, es, hrep⟩ := hs12.rep
  refine (take11_any hrep (fun k hk => (hs12.low k hk).2) _ (Rep.exO 2) (fun w' ht => exO_is 2 (Seat11.keepOwn (W := w) (x := x) (r := Rep.exR0) how12 ht hlt12 HB9.out.2.1))).mono ?_
  unfold GivesTold
  rw [Rep.ex_take3]
  rintro e w13 ⟨rfl, hl13⟩
  obtain ⟨S13, hs13, ht13, hk13⟩ := hs12.step hl13
  have HS13 := Lib.hid (show Seat11 w S13 x Rep.exR2 w13 from hs13)
  have HM13 := Lib.hid (And.intro (hm12.tws ht13 HQ9.out.2.1) (hn12.tws ht13 HQ10.out.1))
  clear c11 f11 hat12 hw12 hB12 hs12 how12 hm12 hn12 hlt12 hrep hl13 hs13 ht13 hk13 HS11 HM11 HO11
  simp only
  go_upto_region 9 with (first
    | (refine allocM (by rfl) rfl ?_; intro W14 q14 hat14 hE14 hq14)
    | (refine putM (m2 := Msg.none0) (r2 := .slice none 0 0) (e2 := .slice none 0 0) (s2 := .slice none 0 0) (d2 := .slice none 0 0) (by rfl) _ _ rfl rfl rfl hat14.out noSlice noSlice noSlice noSlice ?_; intro W15 hat15 hB15))
  have hq14b := HS13.out.new (q := q14) (Nat.le_of_eq hq14.out.symm)
  have hs15 : Seat11 w S13 x Rep.exR2 W15 := (HS13.out.extend hE14.out).but hB15.out hq14b.1 hq14b.2
  have hm15 := (HM13.out.1.ext hE14.out).but hB15.out (by have h1 := HM13.out.1.lt; have h2 := hq14.out; omega)
  have hn15 := (HM13.out.2.ext hE14.out).but hB15.out (by have h1 := HM13.out.2.lt; have h2 := hq14.out; omega)
  have c0 := hm15.head.1
  have c5 := hm15.head.2.2.2.2.2.1
  have d0 := hn15.head.1
  have d5 := hn15.head.2.2.2.2.2.1
  rw [HM1.out] at c0 c5
  rw [HM2.out] at d0 d5
  simp at c0 c5 d0 d5
  obtain ⟨p, va, vp, ev, es, hrep⟩ := hs15.rep
  have HS15 := Lib.hid hs15
  have HR15 := Lib.hid hrep
  clear hq14b hs15 hm15 hn15 hrep hat14 hE14 hq14 hat15 hB15
  go_wp2_with fail
  refine (sealed11_any HR15.out.at').mono ?_
  rintro e w16 ⟨rfl, rfl⟩
  simp only [Rep.exR2]
  go_wp2_with fail
  refine (len11_any HR15.out.at').mono ?_
  rintro e w17 ⟨rfl, rfl⟩
  simp only [Rep.exR2, List.length_cons, List.length_nil]
  go_wp2_with fail
  go_ret
  exact ⟨rfl, HS15.out.ext⟩
end Go.Proofs.YtckdofhcifdpmaaGreat
