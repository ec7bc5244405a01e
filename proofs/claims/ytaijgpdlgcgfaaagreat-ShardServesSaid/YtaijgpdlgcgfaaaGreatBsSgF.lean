/-
  Merged: Layer 9: Open.
-/
import Derived.Test.YtaijgpdlgcgfaaaGreatBsPgV
import Derived.Test.YtaijgpdlgcgfaaaGreatBsSgE

namespace Go.Proofs.YtaijgpdlgcgfaaaGreat
set_option linter.unusedSimpArgs false
set_option linter.unusedVariables false
set_option maxRecDepth 100000
open Go.RowKit
/- Layer 9: Open. -/
theorem build_seg (w : World) (p : Nat) : (Instr.build 177 #[(0, .pointer (some ⟨p, 0, none⟩))]).run Tryz.prog w = .ok (.agg #[.pointer (some ⟨p, 0, none⟩), .int .i64 0, .slice none 0 0, .int .i64 0, .bool false]) w := by kernel_rfl
theorem box_seg (w : World) (p : Nat) : (Instr.box 177 (.agg #[.pointer (some ⟨p, 0, none⟩), .int .i64 0, .slice none 0 0, .int .i64 0, .bool false])).run Tryz.prog w = .ok (.pointer (some ⟨w.heap.size, 0, none⟩)) (w.alloc (.cells #[.pointer (some ⟨p, 0, none⟩), .int .i64 0, .slice none 0 0, .int .i64 0, .bool false] 177)) := by kernel_rfl
section
variable {w w' : World} {B g p : Nat} {vp lv : Value} {ps : List (Value × Rec.R)} {W : Seg.What} {safe : Nat} {br : Bool}
theorem SegAt.turn {safe' : Nat} {br' : Bool} (h : SegAt w B g p vp lv ps W safe br) (hb : But g w w') (hh : w'.heap[g]? = some (.cells #[.pointer (some ⟨p, 0, none⟩), .int .i64 (W.trimmed : Nat), lv, .int .i64 (safe' : Nat), .bool br'] 177 (0, 0))) : SegAt w' B g p vp lv ps W safe' br' :=
  ⟨hh, rowBut h.row (rowBeside h.row h.heap (by decide)) hb, h.recs, fun q hq => (h.tags q hq).butT h.heap (by decide) hb, h.low⟩
theorem SegAt.setBr (h : SegAt w B g p vp lv ps W safe br) (b : Bool) : SegAt (w.setCell ⟨g, 4, none⟩ (.bool b)) B g p vp lv ps W safe b := h.turn (butSet _ _ _ _) (heap_setCell h.heap 4 _)
theorem SegAt.setSafe (h : SegAt w B g p vp lv ps W safe br) (n : Nat) : SegAt (w.setCell ⟨g, 3, none⟩ (.int .i64 (n : Nat))) B g p vp lv ps W n br := h.turn (butSet _ _ _ _) (heap_setCell h.heap 3 _)
theorem SegAt.asBroken (h : SegAt w B g p vp lv ps ⟨W.l, W.trimmed, false⟩ safe br) : SegAt w B g p vp lv ps W safe br := ⟨h.heap, h.row, h.recs, h.tags, h.low⟩
end
theorem Keep9.u8 {a b : World} (h : Keep9 a b) : KeepU a b := fun k cs fr hk => h.2 k cs _ fr hk (by decide) (by decide)
theorem Keep9.row {a b : World} {B size n : Nat} {e : TypeId} {v : Value} {xs : List Value} (h : Keep9 a b) (hr : a.ownsRow B e size v n xs) (h1 : e ≠ 177) (h2 : e ≠ 27) : b.ownsRow B e size v n xs := rowOwn hr fun k hk => by
  obtain ⟨cur, hc⟩ := ownAt hr hk
  exact h.2 k _ _ _ hc h1 h2
theorem Keep9.r8 {a b : World} (h : Keep9 a b) : KeepR a b := fun k cs fr hk => h.2 k cs _ fr hk (by decide) (by decide)
theorem extSet {w a : World} {k o : Nat} {v : Value} (h : Ext w a) (hk : w.heap.size ≤ k) : Ext w (a.setCell ⟨k, o, none⟩ v) := Below.setCell (p := ⟨k, o, none⟩) h hk v

set_option maxHeartbeats 2000000 in
theorem open9_any {w : World} {B p : Nat} {va vp : Value} {S : Page.St} (h : IsSto w B p va vp S) :
    Calls Tryz.prog 67 #[.pointer (some ⟨p, 0, none⟩)] w fun e w' => e = .returned (.pointer (some ⟨w.heap.size, 0, none⟩)) ∧ (∃ lv ps, SegAt w' w.heap.size w.heap.size p vp lv ps (Seg.readF S.l) (Seg.readF S.l).l.length (Seg.readF S.l).broken) ∧ Ext w w' := by
  have hvp0 : ∀ k, vp.ownBlock = some k → k < w.heap.size := fun k hk => (h.places.lt k hk).2
  have hsm := h.ok.small
  have hcount : ∀ k, (Seg.readF (S.l.take k)).l.length ≤ 13107 := by
    intro k
    have h1 := Seg.readF_count (S.l.take k)
    have h2 := Page.count_le S.l
    have h3 := h.ok.max
    have h4 : (S.l.take k).length ≤ S.l.length := by simp; omega
    omega
  have hun0 : S.l.length ≤ 13107 := by
    have h2 := Page.count_le S.l
    have h3 := h.ok.max
    omega
  have HSM := Lib.hid hsm
  have HCNT := Lib.hid hcount
  have hb1 := build_seg w p
  have hb2 := box_seg w p
  obtain ⟨w1, hw1⟩ : ∃ w1, w.alloc (.cells #[.pointer (some ⟨p, 0, none⟩), .int .i64 0, .slice none 0 0, .int .i64 0, .bool false] 177) = w1 := ⟨_, rfl⟩
  have hE1 : Ext w w1 := by rw [← hw1]; exact Ext.alloc _ _
  have hg1 : w1.heap[w.heap.size]? = some (.cells #[.pointer (some ⟨p, 0, none⟩), .int .i64 0, .slice none 0 0, .int .i64 0, .bool false] 177 (0, 0)) := by rw [← hw1]; exact heap_alloc_new _ _
  have hs1 : SegAt w1 w.heap.size w.heap.size p vp (.slice none 0 0) [] (Seg.readF []) 0 false := ⟨hg1, World.ownsRow_nil _ _ _ _, rfl, fun q hq => (by cases hq), fun q hq => (by cases hq)⟩
  have HW1 := Lib.hid hw1
  have HSTO := Lib.hid (h.ext hE1)
  have HS1 := Lib.hid hs1
  have HE1 := Lib.hid hE1
  obtain ⟨g, hg⟩ : ∃ g, w.heap.size = g := ⟨_, rfl⟩
  have HG := Lib.hid hg
  have hwg : w.heap.size ≤ g := by omega
  rw [hg] at HS1 hvp0 ⊢
  clear h hsm hcount hw1 hE1 hg1 hs1 hg
  go_enter Tryz.func67, Tryz.ntmps67
  go_wp2_with fail
  rw [HW1.out, HG.out]
  refine (frames8_any HSTO.out).mono ?_
  rintro e w2 ⟨es, u, rfl, hx, ho, hgood, hE2⟩
  have hfr := FrRow.of ho hx hgood
  obtain ⟨ua, uc, rfl⟩ : ∃ ua uc, u = .slice ua S.l.length uc := by
    obtain ⟨x, y, e, _⟩ := hfr
    exact ⟨x, y, e⟩
  obtain ⟨un, hun⟩ : ∃ un, S.l.length = un := ⟨_, rfl⟩
  rw [hun] at hfr hun0 ⊢
  have HN := Lib.hid hun
  have HI0 := Lib.hid (And.intro hfr (And.intro (HS1.out.ext hE2) (HE1.out.trans hE2)))
  clear hx hun ho hfr hgood hE2
  go_wp2_with fail
  go_loopw [5, 12] (fun _ i wr => ∃ (k : Nat) (lv : Value) (ps : List (Value × Rec.R)), k ≤ un ∧ i = .int .i64 k ∧ Hid (FrRow wr (.slice ua un uc) S.l ∧ SegAt wr g g p vp lv ps ⟨(Seg.readF (S.l.take k)).l, (Seg.readF (S.l.take k)).trimmed, false⟩ 0 false ∧ Ext w wr) ∧ Hid ((Seg.readF (S.l.take k)).broken = false)) (fun _ i _ => un - (intOf i).toNat)
  case atStart => exact ⟨0, _, _, by omega, rfl, HI0, Lib.hid rfl⟩
  case round =>
    obtain ⟨k, lv, ps, hk, rfl, hI, hbr⟩ := hrel
    by_cases hlt : k < un
    · have hkl : k < S.l.length := by rw [HN.out]; exact hlt
      obtain ⟨_, _, e1, _, hf1⟩ := hI.out.1
      obtain ⟨b1, o1, a', n', c', rfl, hc1, hb1⟩ := hf1 k hkl
      injection e1 with e1 e9 e3
      subst e1 e3
      clear e9 hf1
      have hsmall : (S.l[k]).length ≤ 200000 := by
        have := HSM.out _ (List.getElem_mem hkl)
        unfold Page.small at this
        omega
      have hsnoc : Seg.readF (S.l.take (k + 1)) = Seg.step (Seg.readF (S.l.take k)) S.l[k] := by
        rw [List.take_succ_eq_append_getElem hkl, Seg.readF_snoc]
      obtain ⟨W, hW⟩ : ∃ W, Seg.readF (S.l.take k) = W := ⟨_, rfl⟩
      obtain ⟨f, hf⟩ : ∃ f, S.l[k] = f := ⟨_, rfl⟩
      have hgood : W.trimmed ≤ W.l.length := by rw [← hW]; exact (Seg.readF_good _).most
      have hwl : W.l.length ≤ 100000 := by rw [← hW]; have := HCNT.out k; omega
      rw [hW] at hI hbr hsnoc
      rw [hf] at hsmall hsnoc hb1
      have eW : (⟨W.l, W.trimmed, false⟩ : Seg.What) = W := by rw [← hbr.out]
      rw [eW] at hI
      have hB1 : g ≤ wr.heap.size := by have := hI.out.2.2.size; have := HG.out; omega
      have hcall := take9_any hI.out.2.1 hgood hbr.out hwl hB1 (Nat.le_refl _) (fun k' hk' => Nat.lt_of_lt_of_le (hvp0 k' hk') hB1) _ f hb1.1 hsmall
      have HC := Lib.hid hcall
      have HSN := Lib.hid hsnoc
      clear hcall hsnoc hgood hwl hW hf eW hb1 hsmall
      go_wp2_with fail
      refine HC.out.mono ?_
      rintro e w3 ⟨rfl, lv', ps', hs3, hB3, hk3⟩
      have hE3 : Ext w w3 := Below.trans (B := w.heap.size) hI.out.2.2 (hB3.mono hwg)
      have HI3 := Lib.hid (And.intro (hI.out.1.keep hk3.u8 hk3.r8) (And.intro hs3 hE3))
      rw [← HSN.out] at HI3 ⊢
      cases hq : (Seg.readF (S.l.take (k + 1))).broken with
      | false =>
        have HQ := Lib.hid hq
        clear hs3 hB3 hk3 hE3 hq
        go_wp2_with fail
        go_roundw
        case rel => exact ⟨k + 1, lv', ps', by omega, by go_num, HI3, HQ⟩
        case measure => simp [intOf]; omega
      | true =>
        have hfin : Seg.readF S.l = Seg.readF (S.l.take (k + 1)) := by
          conv => lhs; rw [← List.take_append_drop (k + 1) S.l]
          exact Seg.readF_stop hq _
        have HQ := Lib.hid (And.intro hq hfin)
        obtain ⟨V, hV⟩ : ∃ V, Seg.readF (S.l.take (k + 1)) = V := ⟨_, rfl⟩
        have hvc := HCNT.out (k + 1)
        have hgood : V.trimmed ≤ V.l.length := by rw [← hV]; exact (Seg.readF_good _).most
        rw [hV] at HI3 HQ hvc
        have c4 := cell_of_heap HI3.out.2.1.heap 4
        have f4 := frozen_of_heap HI3.out.2.1.heap 4
        have hs4 := HI3.out.2.1.setBr true
        have hE4 : Ext w (w3.setCell ⟨g, 4, none⟩ (.bool true)) := extSet hE3 hwg
        have HS4 := Lib.hid (And.intro hs4 hE4)
        clear hs3 hB3 hk3 hE3 hq hfin hV hs4 hE4
        go_wp2_with fail
        refine (seglen_any HS4.out.1 hgood (by show V.l.length ≤ 100000; omega)).mono ?_
        rintro e w5 ⟨rfl, hE5⟩
        have hs5 := HS4.out.1.ext hE5
        have c3 := cell_of_heap hs5.heap 3
        have f3 := frozen_of_heap hs5.heap 3
        have HS5 := Lib.hid (And.intro (hs5.setSafe V.l.length) (extSet (k := g) (o := 3) (v := .int .i64 (V.l.length : Nat)) (HS4.out.2.trans hE5) hwg))
        clear hs5 hE5 c4 f4
        go_wp2_with fail
        go_ret
        rw [HQ.out.2]
        refine ⟨rfl, ⟨lv', ps', ?_⟩, HS5.out.2⟩
        rw [HQ.out.1]
        exact SegAt.asBroken HS5.out.1
    · obtain rfl : k = un := by omega
      have hfull : S.l.take k = S.l := List.take_of_length_le (by rw [HN.out]; exact Nat.le_refl _)
      rw [hfull] at hI hbr
      have hvc := HCNT.out k
      rw [hfull] at hvc
      obtain ⟨V, hV⟩ : ∃ V, Seg.readF S.l = V := ⟨_, rfl⟩
      have hgood : V.trimmed ≤ V.l.length := by rw [← hV]; exact (Seg.readF_good _).most
      rw [hV] at hI hbr hvc
      have HV := Lib.hid hV
      clear hfull hV
      go_wp2_with fail
      refine (seglen_any hI.out.2.1 hgood (by show V.l.length ≤ 100000; omega)).mono ?_
      rintro e w5 ⟨rfl, hE5⟩
      have hs5 := hI.out.2.1.ext hE5
      have c3 := cell_of_heap hs5.heap 3
      have f3 := frozen_of_heap hs5.heap 3
      have HS5 := Lib.hid (And.intro (hs5.setSafe V.l.length) (extSet (k := g) (o := 3) (v := .int .i64 (V.l.length : Nat)) (hI.out.2.2.trans hE5) hwg))
      clear hs5 hE5
      go_wp2_with fail
      go_ret
      have hv2 := HV.out
      subst hv2
      refine ⟨rfl, ⟨lv, ps, ?_⟩, HS5.out.2⟩
      rw [hbr.out]
      exact SegAt.asBroken HS5.out.1
end Go.Proofs.YtaijgpdlgcgfaaaGreat
