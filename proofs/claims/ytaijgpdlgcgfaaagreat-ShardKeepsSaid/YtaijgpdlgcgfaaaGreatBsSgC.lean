/-
  Merged: Layer 9: a segment's drop.
-/
import Derived.Deep.RegionLaw
import Derived.Test.YtaijgpdlgcgfaaaGreatBsSgB

namespace Go.Proofs.YtaijgpdlgcgfaaaGreat
set_option linter.unusedSimpArgs false
set_option linter.unusedVariables false
set_option maxRecDepth 100000
open Go.RowKit
/- Layer 9: a segment's drop. -/
/-- drop: the records below upto go. -/
structure DropAt (w w' : World) (B g p : Nat) (vp lv' : Value) (ps : List (Value × Rec.R)) (W : Seg.What) (safe : Nat) (br : Bool) (lv : Value) : Prop where
  seg : SegAt w' B g p vp lv' ps W safe br
  os : w'.os = w.os
  tape : w'.tape = w.tape
  output : w'.output = w.output
  size : w.heap.size ≤ w'.heap.size
  block : ∀ k, k < w.heap.size → k ≠ g → some k ≠ lv.ownBlock → w'.heap[k]? = w.heap[k]?
  newL : lv'.ownBlock = lv.ownBlock

set_option maxHeartbeats 4000000 in
theorem drop9_any {w : World} {B g p : Nat} {vp lv : Value} {ps : List (Value × Rec.R)} {W : Seg.What} {safe : Nat} {br : Bool} (h : SegAt w B g p vp lv ps W safe br) (hW : W.trimmed ≤ W.l.length) (hl : W.l.length ≤ 100000) (n : Nat) (h1 : W.trimmed ≤ n) (h2 : n ≤ W.l.length) :
    Calls Tryz.prog 135 #[.pointer (some ⟨g, 0, none⟩), .int .i64 (n : Nat)] w fun e w' => e = .returned (.tuple #[]) ∧ ∃ lv', DropAt w w' B g p vp lv' (ps.drop (n - W.trimmed)) ⟨W.l, n, W.broken⟩ safe br lv := by
  have hlen := h.len
  have H := Lib.hid h
  have hE := Ext.drew w
  have hh : w.drew.heap[g]? = _ := heap_ext h.heap hE
  have c1 : w.drew.cell? ⟨g, 1, none⟩ = some (.int .i64 (W.trimmed : Nat)) := cell_of_heap hh 1
  have c2 : w.drew.cell? ⟨g, 2, none⟩ = some lv := cell_of_heap hh 2
  obtain ⟨a, c, rfl, hnc, hcm, _⟩ := h.open
  obtain ⟨t, ht⟩ : ∃ t, W.trimmed = t := ⟨_, rfl⟩
  obtain ⟨k, hk⟩ : ∃ k, n - t = k := ⟨_, rfl⟩
  have hkn : (n : Int) - (t : Int) = (k : Nat) := by omega
  rw [ht] at c1 hW h1 hlen ⊢
  rw [hk]
  have hdel := fun (w1 : World) (hE1 : Ext w w1) => delete9_any B k _ ps w1 (rowExt h.row hE1) (ownRec_one h.tags) (by omega) (by omega)
  have HD := Lib.hid hdel
  have hwr : IntKind.i64.wrap (k : Int) = (k : Int) := IntWalk.i64_in _ (by omega)
  obtain ⟨N, hN⟩ : ∃ N, ps.length = N := ⟨_, rfl⟩
  have hne : some g ≠ (Value.slice a ps.length c).ownBlock := rowBeside h.row h.heap (by decide)
  have HNE := Lib.hid hne
  rw [hN] at HD c2 HNE hnc
  have HN := Lib.hid hN
  have HLEN := Lib.hid hlen
  clear hlen hN
  have HH := Lib.hid hh
  have HT := Lib.hid ht
  clear hh hdel h ht hne
  go_enter Tryz.func135, Tryz.ntmps135
  go_wp2_with fail
  go_region_law (go_simp; go_at_call 177; refine (HD.out w.drew hE).mono ?_; rintro e w2 ⟨lv', rfl, ho2, hg2, hnl⟩; obtain ⟨a2, n2, c2', rfl⟩ := ownSlice ho2; have hh2 := (hg2.block g (Array.getElem?_eq_some_iff.1 HH.out).1 HNE.out).trans HH.out; have k2 := cell_of_heap hh2 2; have f2 := frozen_of_heap hh2 2)
  all_goals
    have hh3 := heap_setCell hh2 2 (.slice a2 n2 c2')
    have hb3 := butSet w2 g 2 (.slice a2 n2 c2')
    obtain ⟨w3, hw3⟩ : ∃ w3, w2.setCell ⟨g, 2, none⟩ (.slice a2 n2 c2') = w3 := ⟨_, rfl⟩
    rw [hw3] at hh3 hb3 ⊢
    have k1 : w3.cell? ⟨g, 1, none⟩ = some (.int .i64 (t : Nat)) := by rw [← HT.out]; exact cell_of_heap hh3 1
    have f1 := frozen_of_heap hh3 1
    have HH2 := Lib.hid (And.intro hh2 (And.intro hh3 hb3))
    have HO2 := Lib.hid (And.intro ho2 hg2)
    clear hw3 hh2 hh3 hb3 k2 f2 ho2 hg2
    go_wp2_with fail
    go_end0
    have hh4 := heap_setCell HH2.out.2.1 1 (.int .i64 (n : Nat))
    have hb4 := HH2.out.2.2.trans (butSet w3 g 1 (.int .i64 (n : Nat)))
    have hgb : w.grownBy w2 (Value.slice a N c).ownBlock := ⟨HO2.out.2.os, HO2.out.2.tape, HO2.out.2.output, HO2.out.2.size, HO2.out.2.block⟩
    have hblk : ∀ q, q < w.heap.size → q ≠ g → some q ≠ (Value.slice a N c).ownBlock → (w3.setCell ⟨g, 1, none⟩ (.int .i64 (n : Nat))).heap[q]? = w.heap[q]? := fun q hq hqg hqa => (hb4.block q (Nat.lt_of_lt_of_le hq hgb.size) hqg).trans (hgb.block q hq hqa)
    refine ⟨rfl, _, ⟨hh4, rowBut HO2.out.1 (rowBeside HO2.out.1 HH2.out.1 (by decide)) hb4, ?_, ?_, fun q hq => H.out.low q (List.mem_of_mem_drop hq)⟩, hb4.os.trans hgb.os, hb4.tape.trans hgb.tape, hb4.output.trans hgb.output, Nat.le_trans hgb.size hb4.size, ?_, by rw [HN.out]; exact hnl⟩
    · rw [List.map_drop, H.out.recs, HT.out, List.drop_drop]
      congr 1
      show t + k = n
      omega
    · intro q hq
      have hq' := List.mem_of_mem_drop hq
      refine ⟨(H.out.tags q hq').1.same fun k' hk' => ?_, (H.out.tags q hq').2⟩
      obtain ⟨cur, hc⟩ := (H.out.tags q hq').1.at hk'
      have hlt := (Array.getElem?_eq_some_iff.1 hc).1
      refine hblk k' hlt (fun e => ?_) (fun e => ?_)
      · subst e
        rw [H.out.heap] at hc
        injection hc with hc
        injection hc with _ e _
        exact absurd e (by decide)
      · exact rowBeside H.out.row hc (by decide) (by rw [HN.out]; exact e)
    · rw [HN.out]; exact hblk
end Go.Proofs.YtaijgpdlgcgfaaaGreat
