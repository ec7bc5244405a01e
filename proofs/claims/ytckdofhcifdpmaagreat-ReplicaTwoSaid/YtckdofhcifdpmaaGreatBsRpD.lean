/-
  Merged: Layer 11: Reopen, New.
-/
import Derived.Test.YtckdofhcifdpmaaGreatBsLib
import Derived.Test.YtckdofhcifdpmaaGreatBsMsg
import Derived.Test.YtckdofhcifdpmaaGreatBsRpC
import Derived.Test.YtckdofhcifdpmaaGreatBsTerm

namespace Go.Proofs.YtckdofhcifdpmaaGreat
set_option linter.unusedSimpArgs false
set_option linter.unusedVariables false
set_option maxRecDepth 100000
open Go.RowKit
/- Layer 11: Reopen, New. -/
def May11 (id : Int) (c : Term.C) : Prop := Term.right c = true ∧ hasI c.seqs id = true
def GivesReopen (B : Nat) (T : Nat → Prop) (w : World) (S : Page.St) (id : Int) (c : Term.C) (e : Ending) (w' : World) : Prop :=
  ((∃ W x, May11 id c ∧ Rep.readF S.l = some W ∧ e = .returned (.tuple #[.pointer (some ⟨x, 0, none⟩), .int .i64 0]) ∧ w.heap.size ≤ x ∧ IsRep w' B (Later T w w') x ⟨id, c.term, S, W⟩) ∨
   (¬(May11 id c ∧ (Rep.readF S.l).isSome = true) ∧ e = .returned (.tuple #[.pointer none, .int .i64 1]))) ∧ Ext w w'
theorem build_rep (w : World) (id t : Int) (p : Nat) (a : Option Addr) (n c : Nat) (b : Bool) : (Instr.build 135 #[(0, .int .i64 id), (1, .int .i64 t), (2, .pointer (some ⟨p, 0, none⟩)), (3, .slice a n c), (4, .bool b)]).run Tryz.prog w = .ok (.agg #[.int .i64 id, .int .i64 t, .pointer (some ⟨p, 0, none⟩), .slice a n c, .bool b]) w := by kernel_rfl
theorem box_rep (w : World) (id t : Int) (p : Nat) (a : Option Addr) (n c : Nat) (b : Bool) : (Instr.box 135 (.agg #[.int .i64 id, .int .i64 t, .pointer (some ⟨p, 0, none⟩), .slice a n c, .bool b])).run Tryz.prog w = .ok (.pointer (some ⟨w.heap.size, 0, none⟩)) (w.alloc (.cells #[.int .i64 id, .int .i64 t, .pointer (some ⟨p, 0, none⟩), .slice a n c, .bool b] 135)) := by kernel_rfl
theorem ldConf11 {w : World} {q : Nat} {n : Int} {a b : Option Addr} {m k i j : Nat} (h : ConfAt 38 w q n (.slice a m k) (.slice b i j)) : (Instr.loadAt 38 (.pointer (some ⟨q, 0, none⟩))).run Tryz.prog w = .ok (.agg #[.int .i64 n, .slice a m k, .slice b i j]) w := by
  obtain ⟨c0, c1, c2⟩ := h.cells
  simp [go_sem, c0, c1, c2]
set_option maxHeartbeats 8000000 in
theorem reopen11_any {w : World} {B p : Nat} {va vp : Value} {S : Page.St} (h : IsSto w B p va vp S) (hB : B ≤ w.heap.size) (T : Nat → Prop) (hp1 : B ≤ p) (hp : T p) (ha : ∀ k, va.ownBlock = some k → T k) (hq : ∀ k, vp.ownBlock = some k → T k) (id : Int) (v : Value) (c : Term.C) (hv : IsConf w v c) :
    Calls Tryz.prog 13 #[.int .i64 id, v, .pointer (some ⟨p, 0, none⟩)] w (GivesReopen B T w S id c) := by
  have hbx := box_conf
  have hb1 := build_rep
  have hb2 := box_rep
  obtain ⟨s, d, rfl, hs, hd⟩ := hv
  obtain ⟨a0, n0, k0, rfl⟩ := intsSlice hs
  obtain ⟨a1, n1, k1, rfl⟩ := irowsSlice hd
  unfold confV
  obtain ⟨tm, htm⟩ : ∃ z, c.term = z := ⟨_, rfl⟩
  obtain ⟨w1, hw1⟩ : ∃ w1, w.alloc (.cells #[.int .i64 tm, .slice a0 n0 k0, .slice a1 n1 k1] 38) = w1 := ⟨_, rfl⟩
  obtain ⟨q, hqq⟩ : ∃ q, w.heap.size = q := ⟨_, rfl⟩
  have hE1 : Ext w w1 := by rw [← hw1]; exact Ext.alloc _ _
  have hc1 : ConfAt 38 w1 q tm (.slice a0 n0 k0) (.slice a1 n1 k1) := by rw [← hw1, ← hqq]; exact ConfAt.new _ _ _ _ _
  have hl1 := ldConf11 hc1
  have HC1 := Lib.hid hc1
  have HE1 := Lib.hid hE1
  have HW1 := Lib.hid (And.intro hw1 hqq)
  have HIC := Lib.hid (show IsConf w1 (.agg #[.int .i64 tm, .slice a0 n0 k0, .slice a1 n1 k1]) c from ⟨_, _, by rw [htm]; rfl, hs.below hE1, hd.below hE1⟩)
  have HS := Lib.hid (And.intro h (And.intro hs (And.intro hB (And.intro hp1 (And.intro hp (And.intro ha hq))))))
  have HTM := Lib.hid htm
  rw [htm]
  clear h hs hd hw1 hE1 hc1 hqq htm hB hp1 hp ha hq
  go_enter Tryz.func13, Tryz.ntmps13
  go_wp2_with fail
  rw [HW1.out.1, HW1.out.2]
  go_wp2_with (refine ldAny (by rfl) _ rfl rfl hl1 ?_)
  refine (right6_any _ c w1 HIC.out).mono ?_
  rintro e w2 ⟨rfl, hE2⟩
  have HE2 := Lib.hid (HE1.out.trans hE2)
  have HC2 := Lib.hid (HC1.out.ext hE2)
  clear hE2 hl1
  obtain ⟨c0, c1, c2⟩ := HC2.out.cells
  have hno : ¬(May11 id c ∧ (Rep.readF S.l).isSome = true) → ∀ w', Ext w2 w' → GivesReopen B T w S id c (.returned (.tuple #[.pointer none, .int .i64 1])) w' := fun h w' hE => ⟨.inr ⟨h, rfl⟩, HE2.out.trans hE⟩
  have HNO := Lib.hid hno
  clear hno
  cases hr : Term.right c with
  | false =>
    have HR := Lib.hid hr
    clear hr
    go_wp2_with fail
    go_ret2
    exact HNO.out (fun h => by have := h.1.1; rw [HR.out] at this; cases this) _ (Ext.refl _)
  | true =>
    have HR := Lib.hid hr
    clear hr
    go_wp2_with fail
    refine (has6_any _ c.seqs id w2 (HS.out.2.1.below HE2.out)).mono ?_
    rintro e w3 ⟨rfl, rfl⟩
    cases hh : hasI c.seqs id with
    | false =>
      have HH := Lib.hid hh
      clear hh
      go_wp2_with fail
      go_ret2
      exact HNO.out (fun h => by have := h.1.2; rw [HH.out] at this; cases this) _ (Ext.refl _)
    | true =>
      have HH := Lib.hid hh
      clear hh
      go_wp2_with fail
      refine (read11_any (HS.out.1.ext HE2.out)).mono ?_
      rintro e w4 ⟨u, es, sl, is, rfl, hE4, ho4, hq4, his, hW⟩
      obtain ⟨ua, un, uc, rfl⟩ := ownSlice ho4
      have HR4 := Lib.hid (And.intro hE4 (And.intro ho4 hq4))
      have HIS := Lib.hid his
      have HWW := Lib.hid hW
      have HC4 := Lib.hid (HC2.out.ext hE4)
      clear hE4 ho4 hq4 his hW c0 c1 c2
      cases is with
      | false =>
        go_wp2_with fail
        go_ret2
        exact HNO.out (fun h => by have := h.2; rw [← HIS.out] at this; cases this) _ HR4.out.1
      | true =>
        obtain ⟨Wt, hWt⟩ : ∃ Wt, Rep.readF S.l = some Wt := Option.isSome_iff_exists.1 HIS.out.symm
        obtain ⟨hl1, rfl⟩ := HWW.out Wt hWt
        obtain ⟨c0, c1, c2⟩ := HC4.out.cells
        have HWT := Lib.hid (And.intro hWt hl1)
        obtain ⟨bs, hbs⟩ : ∃ b, Wt.sealed = b := ⟨_, rfl⟩
        rw [hbs]
        have HBS := Lib.hid hbs
        clear hWt hl1 hbs
        go_wp2_with fail
        go_ret2
        obtain ⟨w5, hw5⟩ : ∃ z, w4.alloc (.cells #[.int .i64 id, .int .i64 tm, .pointer (some ⟨p, 0, none⟩), .slice ua un uc, .bool bs] 135) = z := ⟨_, rfl⟩
        have hE5 : Ext w4 w5 := by rw [← hw5]; exact Ext.alloc _ _
        have hx5 : w5.heap[w4.heap.size]? = some (.cells #[.int .i64 id, .int .i64 tm, .pointer (some ⟨p, 0, none⟩), .slice ua un uc, .bool bs] 135 (0, 0)) := by rw [← hw5]; exact heap_alloc_new _ _
        rw [hw5]
        have hE24 : Ext w w4 := HE2.out.trans HR4.out.1
        have hE25 : Ext w w5 := hE24.trans hE5
        obtain ⟨hsto, _, hB, hp1, hp, ha, hq⟩ := HS.out
        have h2 : w.heap.size ≤ w2.heap.size := HE2.out.size
        refine ⟨.inl ⟨Wt, w4.heap.size, ⟨HR.out, HH.out⟩, HWT.out.1, rfl, hE24.size, p, va, vp, .slice ua un uc, es, ?_⟩, hE25⟩
        have hlow : ∀ q ∈ es, ∀ k, q.1.ownBlock = some k → w2.heap.size ≤ k := fun q hq k hk => (HR4.out.2.2 q hq).low (Nat.le_refl _) k hk
        have hlt : ∀ q ∈ es, ∀ k, q.1.ownBlock = some k → k < w4.heap.size := fun q hq k hk => by
          obtain ⟨cur, hc⟩ := (HR4.out.2.2 q hq).row.at hk
          exact (Array.getElem?_eq_some_iff.1 hc).1
        have hs5 : w4.heap.size < w5.heap.size := (Array.getElem?_eq_some_iff.1 hx5).1
        refine ⟨Nat.le_trans hB hE24.size, .inr ⟨hE24.size, hs5⟩, hp1, .inl hp, fun k hk => .inl (ha k hk), fun k hk => .inl (hq k hk), fun k hk => .inr ⟨Nat.le_trans h2 (HR4.out.2.1.lt k hk).1, Nat.lt_trans (HR4.out.2.1.lt k hk).2 hs5⟩, fun q' hq' k hk => .inr ⟨Nat.le_trans h2 (hlow q' hq' k hk), Nat.lt_trans (hlt q' hq' k hk) hs5⟩, hsto.ext hE25, ⟨?_, rowLower (rowExt HR4.out.2.1 hE5) (Nat.le_trans hB h2), HWT.out.2, fun q' hq' => ?_, fun q' hq' k hk => Nat.le_trans hB (Nat.le_trans h2 (hlow q' hq' k hk))⟩, ⟨hsto.ok, HWT.out.1⟩⟩
        · show w5.heap[w4.heap.size]? = _
          rw [hx5, HTM.out, HBS.out]
        · exact ((HR4.out.2.2 q' hq').ext hE5).tag fun k hk => Nat.lt_of_lt_of_le (hsto.places.lt k hk).2 h2
end Go.Proofs.YtckdofhcifdpmaaGreat
