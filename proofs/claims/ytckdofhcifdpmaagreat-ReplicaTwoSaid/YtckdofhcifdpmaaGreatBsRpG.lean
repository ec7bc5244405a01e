/-
  Merged: Layer 11: the seal.
-/
import Derived.Test.YtckdofhcifdpmaaGreatBsRpF

namespace Go.Proofs.YtckdofhcifdpmaaGreat
set_option linter.unusedSimpArgs false
set_option linter.unusedVariables false
set_option maxRecDepth 100000
open Go.RowKit
/- Layer 11: the seal. -/
/-- The replica's own block is turned: whether it is sealed. -/
theorem IsRepS.shut {w w1 w2 : World} {B x p : Nat} {S : Nat → Prop} {va vp va' vp' ev : Value} {es : List (Value × Ent.E)} {r : Rep.Rp} (h : IsRepS w1 B S x p va vp ev es r) (hT : TwS S w w1) (hA : Appended w1 B p va vp r.s [0] w2 va' vp')
    (hs : r.w.sealed = false) (b : Bool) (hb : b = decide (r.s.appendErr [0] = 0)) : LeavesRep B S x w r.shut (w2.setCell ⟨x, 4, none⟩ (.bool b)) := by
  have hat := h.at'.app h.sto hA
  have hbx : But x w2 (w2.setCell ⟨x, 4, none⟩ (.bool b)) := butSet _ _ _ _
  have hT3 : TwS S w (w2.setCell ⟨x, 4, none⟩ (.bool b)) := (hT.trans (h.appended hA)).trans (TwS.but hbx h.x2)
  have hx := heap_setCell hat.heap 4 (.bool b)
  have hnx : ∀ {k : Nat} {cs : Array Value} {T : TypeId} {fr : Nat × Nat}, w2.heap[k]? = some (.cells cs T fr) → T ≠ 135 → (w2.setCell ⟨x, 4, none⟩ (.bool b)).heap[k]? = w2.heap[k]? := fun hk hT => hbx.block _ (Array.getElem?_eq_some_iff.1 hk).1 (fun e => by subst e; rw [hat.heap] at hk; injection hk with hk; injection hk with _ e _; exact hT e.symm)
  have hszx : (w2.setCell ⟨x, 4, none⟩ (.bool b)).heap.size = w2.heap.size := by simp
  have hS' : ∀ (v v' : Value), (∀ k, v.ownBlock = some k → S k) → (v' = v ∨ v'.ownBlock = v.ownBlock ∨ ∀ k, v'.ownBlock = some k → w1.heap.size ≤ k) → (∀ k, v'.ownBlock = some k → k < w2.heap.size) → ∀ k, v'.ownBlock = some k → Later S w (w2.setCell ⟨x, 4, none⟩ (.bool b)) k := fun v v' hv hn hlt k hk => by
    rcases hn with e | e | e
    · exact .inl (hv k (e ▸ hk))
    · exact .inl (hv k (e ▸ hk))
    · exact .inr ⟨Nat.le_trans hT.size (e k hk), by rw [hszx]; exact hlt k hk⟩
  have hsto : IsSto (w2.setCell ⟨x, 4, none⟩ (.bool b)) B p va' vp' (r.s.append [0]) := ⟨(hnx hA.sto.heap (by decide)).trans hA.sto.heap, rowOwn hA.sto.all fun k hk => by
      obtain ⟨cur, hcur⟩ := ownAt hA.sto.all hk
      exact hnx hcur (by decide), rowOwn hA.sto.places fun k hk => by
      obtain ⟨cur, hcur⟩ := ownAt hA.sto.places hk
      exact hnx hcur (by decide), hA.sto.ok⟩
  have hrep : RepAt (w2.setCell ⟨x, 4, none⟩ (.bool b)) B x p vp' ev es r.id r.term ⟨r.w.l, b⟩ := ⟨hx, rowOwn hat.row fun k hk => by
      obtain ⟨cur, hcur⟩ := ownAt hat.row hk
      exact hnx hcur (by decide), hat.ents, fun q hq => ⟨(hat.cuts q hq).1.same fun k hk => by
      obtain ⟨cur, hcur⟩ := (hat.cuts q hq).1.at hk
      exact hnx hcur (by decide), (hat.cuts q hq).2⟩, hat.low⟩
  have hok := h.ok.shut
  have hw : r.shut = ⟨r.id, r.term, r.s.append [0], ⟨r.w.l, b⟩⟩ := by
    unfold Rep.Rp.shut
    rw [if_neg (by rw [hs]; simp)]
    by_cases h0 : r.s.appendErr [0] = 0
    · rw [if_pos h0, hb, decide_eq_true h0]
    · rw [if_neg h0, hb, decide_eq_false h0, Seg.same_w h0, ← hs]
  rw [hw] at hok ⊢
  exact ⟨⟨p, va', vp', ev, es, h.x1, .inl h.x2, h.p1, .inl h.p2, hS' va va' h.ua hA.newA (fun k hk => (hA.sto.all.lt k hk).2), hS' vp vp' h.up hA.newP (fun k hk => (hA.sto.places.lt k hk).2), fun k hk => .inl (h.ue k hk), fun q hq k hk => .inl (h.tags q hq k hk), hsto, hrep, hok⟩, hT3⟩
set_option maxHeartbeats 8000000 in
theorem shut11_any {w : World} {B x p : Nat} {S : Nat → Prop} {va vp ev : Value} {es : List (Value × Ent.E)} {r : Rep.Rp} (h : IsRepS w B S x p va vp ev es r) :
    Calls Tryz.prog 71 #[.pointer (some ⟨x, 0, none⟩)] w (GivesOrder B S x w r.shut r.shutErr) := by
  have c4 : w.cell? ⟨x, 4, none⟩ = some (.bool r.w.sealed) := cell_of_heap h.at'.heap 4
  have c2 : w.cell? ⟨x, 2, none⟩ = some (.pointer (some ⟨p, 0, none⟩)) := cell_of_heap h.at'.heap 2
  obtain ⟨sb, hsb⟩ : ∃ z, r.w.sealed = z := ⟨_, rfl⟩
  rw [hsb] at c4
  have HSB := Lib.hid hsb
  have H := Lib.hid h
  clear h hsb
  cases sb with
  | true =>
    go_enter Tryz.func71, Tryz.ntmps71
    go_wp2_with fail
    go_ret
    refine ⟨?_, ?_⟩
    · unfold Rep.Rp.shutErr
      rw [if_pos HSB.out]
      rfl
    · unfold Rep.Rp.shut
      rw [if_pos HSB.out]
      exact LeavesRep.refl H.out (Ext.refl _)
  | false =>
    have kc := fun (w : World) (C : Array Value) (n c : Nat) => Lib.run_convert_bytes_const (P := Tryz.prog) w 28 5 C n c Tryz.underlying28 Tryz.underlying5
    have hal := Ext.alloc w (.cells #[.int .u8 0] 5 (1, 2))
    have hbs : Bytes (w.alloc (.cells #[.int .u8 0] 5 (1, 2))) (.slice (some ⟨w.heap.size, 0, none⟩) 1 1) [0] := Sl.made w (u8s [0]) 5 1 (by simp) (by simp [maxLen]) (fr := (1, 2))
    have H1 := Lib.hid (H.out.ext hal)
    have HT1 := Lib.hid (TwS.ext (S := S) hal)
    have HAP := Lib.hid (append8_any H1.out.sto H1.out.base _ [0] hbs (by simp))
    clear hal hbs
    go_enter Tryz.func71, Tryz.ntmps71
    go_wp2_with fail
    refine HAP.out.mono ?_
    unfold GivesAppend
    rintro e' w2 ⟨rfl, va', vp', hA⟩
    obtain ⟨y, hy⟩ : ∃ z, r.s.appendErr [0] = z := ⟨_, rfl⟩
    rw [hy]
    have HFIN := Lib.hid (fun b hb => H1.out.shut HT1.out hA HSB.out b hb)
    rw [hy] at HFIN
    have HERR := Lib.hid (show r.shutErr = y by
      unfold Rep.Rp.shutErr
      rw [if_neg (by rw [HSB.out]; simp), hy])
    obtain ⟨aw, haw⟩ : ∃ z : Int, ((r.s.appendAt [0] : Nat) : Int) = z := ⟨_, rfl⟩
    rw [haw]
    have hat := H1.out.at'.app H1.out.sto hA
    have g4 : w2.cell? ⟨x, 4, none⟩ = some (.bool r.w.sealed) := cell_of_heap hat.heap 4
    have fr4 := frozen_of_heap hat.heap 4
    clear hA hy haw hat c2 c4
    by_cases hy0 : y = 0
    · subst hy0
      have HF := Lib.hid (HFIN.out true (by simp))
      go_wp2_with fail
      go_ret
      exact ⟨by rw [HERR.out]; rfl, HF.out⟩
    · have HF := Lib.hid (HFIN.out false (by simp [hy0]))
      have hyb : (y == 0) = false := by simpa using hy0
      go_wp2_with fail
      go_ret
      exact ⟨by rw [HERR.out]; rfl, HF.out⟩
end Go.Proofs.YtckdofhcifdpmaaGreat
