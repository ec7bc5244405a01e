/-
  Merged: Layer 11: Crash.
-/
import Derived.Test.YtckdofhcifdpmaaGreatBsRpF

namespace Go.Proofs.YtckdofhcifdpmaaGreat
set_option linter.unusedSimpArgs false
set_option linter.unusedVariables false
set_option maxRecDepth 100000
open Go.RowKit
/- Layer 11: Crash. -/
theorem IsSto.butT {w w' : World} {B p q : Nat} {va vp : Value} {St : Page.St} {cs : Array Value} {t : TypeId} {fr : Nat × Nat} (h : IsSto w B p va vp St) (hq : w.heap[q]? = some (.cells cs t fr)) (h1 : t ≠ 128) (h2 : t ≠ 5) (h3 : t ≠ 3) (hb : But q w w') : IsSto w' B p va vp St :=
  ⟨(hb.block p h.lt (fun e => by subst e; rw [h.heap] at hq; injection hq with hq; injection hq with _ e _; exact h1 e.symm)).trans h.heap, rowBut h.all (rowBeside h.all hq h2) hb, rowBut h.places (rowBeside h.places hq h3) hb, h.ok⟩
set_option maxHeartbeats 8000000 in
theorem crash11_any {w : World} {B x p : Nat} {S : Nat → Prop} {va vp ev : Value} {es : List (Value × Ent.E)} {r : Rep.Rp} (h : IsRepS w B S x p va vp ev es r) (keep : Int) (hk : -9223372036854775808 ≤ keep ∧ keep ≤ 9223372036854775807) :
    Calls Tryz.prog 29 #[.pointer (some ⟨x, 0, none⟩), .int .i64 keep] w fun e w' => e = .returned (.tuple #[]) ∧ LeavesRep B S x w (r.crash keep) w' := by
  have c2 : w.cell? ⟨x, 2, none⟩ = some (.pointer (some ⟨p, 0, none⟩)) := cell_of_heap h.at'.heap 2
  have HCR := Lib.hid (crash8_any h.sto keep hk)
  have H := Lib.hid h
  have hxp : x ≠ p := fun e => by
    have h1 := h.at'.heap
    rw [e, h.sto.heap] at h1
    injection h1 with h1
    injection h1 with _ e _
    exact absurd e (by decide)
  have HXP := Lib.hid hxp
  clear h hxp
  go_enter Tryz.func29, Tryz.ntmps29
  go_wp2_with fail
  refine HCR.out.mono ?_
  unfold GivesCrash
  rintro e w2 ⟨rfl, hb2, va2, vp2, hs2⟩
  have hx2 := (hb2.block x H.out.at'.lt HXP.out).trans H.out.at'.heap
  have d2 : w2.cell? ⟨x, 2, none⟩ = some (.pointer (some ⟨p, 0, none⟩)) := cell_of_heap hx2 2
  have HS2 := Lib.hid (And.intro hs2 hb2)
  have HX2 := Lib.hid hx2
  clear hb2 hs2 hx2 c2 HCR
  go_wp2_with fail
  refine (read11_any HS2.out.1).mono ?_
  rintro e w3 ⟨u, es3, sl, is, rfl, hE3, ho3, hq3, his, hW⟩
  have hok := H.out.ok.crash keep
  have hV : Rep.readF (r.s.crash keep).l = some (r.crash keep).w := hok.is
  obtain ⟨hes, hsl⟩ := hW _ hV
  have hit : is = true := by rw [his, hV]; rfl
  subst hit hsl
  obtain ⟨ua, un, uc, rfl⟩ := ownSlice ho3
  have hx3 := heap_ext HX2.out hE3
  have g3 : w3.cell? ⟨x, 3, none⟩ = some ev := cell_of_heap hx3 3
  have g4 : w3.cell? ⟨x, 4, none⟩ = some (.bool r.w.sealed) := cell_of_heap hx3 4
  have z3 := frozen_of_heap hx3 3
  have z4 := frozen_of_heap hx3 4
  obtain ⟨sb, hsb⟩ : ∃ z, (r.crash keep).w.sealed = z := ⟨_, rfl⟩
  rw [hsb]
  have HSB := Lib.hid hsb
  have HX3 := Lib.hid hx3
  have H3 := Lib.hid (And.intro hE3 (And.intro ho3 (And.intro hq3 (And.intro hes hok))))
  clear hok hV hes his hW hE3 ho3 hq3 hx3 hsb d2
  go_wp2_with fail
  go_end0
  obtain ⟨w4, hw4⟩ : ∃ z, w3.setCell ⟨x, 3, none⟩ (.slice ua un uc) = z := ⟨_, rfl⟩
  obtain ⟨w5, hw5⟩ : ∃ z, w4.setCell ⟨x, 4, none⟩ (.bool sb) = z := ⟨_, rfl⟩
  have hb4 : But x w3 w4 := by rw [← hw4]; exact butSet _ _ _ _
  have hb5 : But x w4 w5 := by rw [← hw5]; exact butSet _ _ _ _
  have hx4 := heap_setCell HX3.out 3 (.slice ua un uc)
  rw [hw4] at hx4 ⊢
  have hx5 := heap_setCell hx4 4 (.bool sb)
  rw [hw5] at hx5 ⊢
  have hb : But x w3 w5 := hb4.trans hb5
  obtain ⟨hE3, ho3, hq3, hes, hok⟩ := H3.out
  have hsz2 := HS2.out.2.size
  have hsz3 := hE3.size
  have hsz5 := hb.size
  have hs3 := (HS2.out.1.ext hE3).butT HX3.out (by decide) (by decide) (by decide) hb
  have hrn : ∀ q ∈ es3, RowN w2.heap.size w5 q.1 q.2.cut := fun q hq => by
    obtain ⟨b, m, hb', ho⟩ := hq3 q hq
    exact ⟨b, m, hb', rowBut ho (rowBeside ho HX3.out (by decide)) hb⟩
  have hro : w5.ownsRow w2.heap.size 77 6 (.slice ua un uc) es3.length (entFlat es3) := rowBut ho3 (rowBeside ho3 HX3.out (by decide)) hb
  have hBw := H.out.base
  refine ⟨rfl, ⟨p, va2, vp2, .slice ua un uc, es3, H.out.x1, .inl H.out.x2, H.out.p1, .inl H.out.p2, fun k hk => .inr ⟨(hs3.all.lt k hk).1, (hs3.all.lt k hk).2⟩, fun k hk => .inr ⟨(hs3.places.lt k hk).1, (hs3.places.lt k hk).2⟩, fun k hk => .inr ⟨Nat.le_trans hsz2 (hro.lt k hk).1, (hro.lt k hk).2⟩, fun q hq k hk => .inr ⟨Nat.le_trans hsz2 ((hrn q hq).low (Nat.le_refl _) k hk), ?_⟩, hs3.lower hBw, ⟨?_, rowLower hro (Nat.le_trans hBw hsz2), hes, fun q hq => (hrn q hq).tag fun k hk => (HS2.out.1.places.lt k hk).2, fun q hq k hk => Nat.le_trans hBw (Nat.le_trans hsz2 ((hrn q hq).low (Nat.le_refl _) k hk))⟩, hok⟩, ?_⟩
  · obtain ⟨cur, hc⟩ := (hrn q hq).row.at hk
    exact (Array.getElem?_eq_some_iff.1 hc).1
  · rw [hx5, ← HSB.out]
    rfl
  · exact (TwS.but HS2.out.2 H.out.p2).trans ((TwS.ext hE3).trans (TwS.but hb H.out.x2))
end Go.Proofs.YtckdofhcifdpmaaGreat
