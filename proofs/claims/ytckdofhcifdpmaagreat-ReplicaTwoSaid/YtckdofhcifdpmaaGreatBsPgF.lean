/-
  Merged: Layer 8, the program: a store, and its calls that write no frame.
-/
import Derived.Test.YtckdofhcifdpmaaGreatBsPgE

namespace Go.Proofs.YtckdofhcifdpmaaGreat
set_option linter.unusedSimpArgs false
set_option linter.unusedVariables false
set_option maxRecDepth 100000
open Go.RowKit
/- Layer 8, the program: a store, and its calls that write no frame. -/
/-- Block p is a store. -/
structure IsSto (w : World) (base p : Nat) (va vp : Value) (S : Page.St) : Prop where
  heap : w.heap[p]? = some (.cells #[va, vp, .int .i64 (S.syn : Nat), .bool S.off] 128 (0, 0))
  all : w.ownsRow base 5 1 va (Page.bytes S.l).length (u8s (Page.bytes S.l))
  places : w.ownsRow base 3 1 vp S.l.length (i64s (Page.offs S.l))
  ok : S.Ok
theorem IsSto.lt {w : World} {base p : Nat} {va vp : Value} {S : Page.St} (h : IsSto w base p va vp S) : p < w.heap.size := (Array.getElem?_eq_some_iff.1 h.heap).1
theorem IsSto.lower {w : World} {base base' p : Nat} {va vp : Value} {S : Page.St} (h : IsSto w base p va vp S) (hb : base' ≤ base) : IsSto w base' p va vp S := ⟨h.heap, rowLower h.all hb, rowLower h.places hb, h.ok⟩
theorem IsSto.ext {w w' : World} {base p : Nat} {va vp : Value} {S : Page.St} (h : IsSto w base p va vp S) (hE : Ext w w') : IsSto w' base p va vp S := ⟨heap_ext h.heap hE, rowExt h.all hE, rowExt h.places hE, h.ok⟩
theorem IsSto.open {w : World} {base p : Nat} {va vp : Value} {S : Page.St} (h : IsSto w base p va vp S) : ∃ a c b d, va = .slice a (Page.bytes S.l).length c ∧ vp = .slice b S.l.length d := by
  obtain ⟨a, n, c, rfl⟩ := ownSlice h.all
  obtain ⟨b, m, d, rfl⟩ := ownSlice h.places
  have e1 := (BytesU.own h.all).1.len.1
  have h2 : Sl w (.slice b m d) (i64s (Page.offs S.l)) := Sl.ofOwn h.places
  obtain ⟨_, _, e, _⟩ := h2
  injection e with _ e2
  refine ⟨a, c, b, d, by rw [e1], by rw [e2]; simp⟩

section
variable {w : World} {base p : Nat} {va vp : Value} {S : Page.St}
theorem sync8_any (h : IsSto w base p va vp S) : Calls Tryz.prog 69 #[.pointer (some ⟨p, 0, none⟩)] w fun e w' => e = .returned (.tuple #[]) ∧ But p w w' ∧ IsSto w' base p va vp S.sync := by
  have H := Lib.hid h
  have hhp := h.heap
  obtain ⟨a, c, b, d, rfl, rfl⟩ := h.open
  have c0 := cell_of_heap h.heap 0
  have c2 := cell_of_heap h.heap 2
  have f2 := frozen_of_heap h.heap 2
  have c3 := cell_of_heap h.heap 3
  clear h
  obtain ⟨l, k, o⟩ := S
  cases o with
  | true =>
    go_enter Tryz.func69, Tryz.ntmps69
    go_wp2
    go_end0
    exact ⟨rfl, But.refl _ _, H.out⟩
  | false =>
    go_enter Tryz.func69, Tryz.ntmps69
    go_wp2
    go_end0
    have hall := H.out.all
    have hpl := H.out.places
    have hs : Page.St.syn (⟨l, l.length, false⟩ : Page.St) = (Page.bytes l).length := by unfold Page.St.syn; simp
    refine ⟨rfl, butSet _ _ _ _, ?_, rowBut hall (rowBeside hall hhp (by decide)) (butSet _ _ _ _), rowBut hpl (rowBeside hpl hhp (by decide)) (butSet _ _ _ _), H.out.ok.sync⟩
    rw [show (Page.St.sync ⟨l, k, false⟩) = ⟨l, l.length, false⟩ from rfl, hs]
    exact heap_setCell hhp 2 _
theorem frames8_any (h : IsSto w base p va vp S) : Calls Tryz.prog 102 #[.pointer (some ⟨p, 0, none⟩)] w fun e w' => ∃ (es : List Elem) (u : Value), e = .returned u ∧ es.map Elem.x = S.l ∧ w'.ownsRow w.heap.size 28 1 u es.length (es.map Elem.val) ∧ (∀ x ∈ es, x.Good w') ∧ Ext w w' := by
  have H := Lib.hid h
  obtain ⟨a, c, b, d, rfl, rfl⟩ := h.open
  have c0 := cell_of_heap h.heap 0
  have hb := (BytesU.own h.all).1
  have hl : (Page.bytes S.l).length ≤ 200000 := by have := h.ok.max; omega
  have HB := Lib.hid hb
  clear h hb
  go_enter Tryz.func102, Tryz.ntmps102
  go_wp2_with fail
  refine (scan8_any _ _ w HB.out hl).mono ?_
  rintro e w1 ⟨es, u, rfl, h1, h2, h3, h4⟩
  obtain ⟨ua, un, uc, rfl⟩ := ownSlice h2
  rw [Page.scan_all H.out.ok.small] at h1 ⊢
  have H1 := Lib.hid h1
  have H3 := Lib.hid h3
  clear h1 h3
  go_wp2_with fail
  go_ret
  exact ⟨es, _, rfl, H1.out, h2, H3.out, h4⟩

end
theorem build_store (w : World) : (zeroValue 128).run Tryz.prog w = .ok (.agg (stoCells none 0 0 none 0 0 0 false)) w := by kernel_rfl
theorem box_store (w : World) : (Instr.box 128 (.agg (stoCells none 0 0 none 0 0 0 false))).run Tryz.prog w = .ok (.pointer (some ⟨w.heap.size, 0, none⟩)) (w.alloc (.cells (stoCells none 0 0 none 0 0 0 false) 128)) := by kernel_rfl

/-- What a new block's call leaves. -/
theorem newBut {w a b : World} (h : Ext w a) (hB : But w.heap.size a b) : Ext w b := Below.trans (B := w.heap.size) h ⟨hB.os, hB.tape, hB.output, hB.size, fun k hk => hB.block k (Nat.lt_of_lt_of_le hk h.size) (by omega)⟩
/-- A store that load has filled. -/
theorem IsSto.loaded {w' : World} {base p : Nat} {va vp : Value} {bs : List UInt8} {o : Bool} (h1 : w'.heap[p]? = some (.cells #[va, vp, .int .i64 ((Page.scan bs).2 : Nat), .bool o] 128 (0, 0))) (h2 : w'.ownsRow base 5 1 va (Page.scan bs).2 (u8s (Page.bytes (Page.scan bs).1)))
    (h3 : w'.ownsRow base 3 1 vp (Page.scan bs).1.length (i64s (Page.offs (Page.scan bs).1))) (hb : bs.length ≤ 65536) : IsSto w' base p va vp ⟨(Page.scan bs).1, (Page.scan bs).1.length, o⟩ := by
  obtain ⟨q1, q2, q3⟩ := Page.scan_is _ bs (Nat.le_refl _)
  have hs : Page.St.syn ⟨(Page.scan bs).1, (Page.scan bs).1.length, o⟩ = (Page.scan bs).2 := by unfold Page.St.syn; simp [q3]
  refine ⟨by rw [hs]; exact h1, by rw [q3] at h2; exact h2, h3, ⟨q1, Nat.le_refl _, ?_⟩⟩
  show (Page.bytes (Page.scan bs).1).length ≤ 65536
  rw [q2, List.length_take]
  omega

set_option maxHeartbeats 1000000 in
theorem new8_any (v : Value) (bs : List UInt8) (w : World) (hv : Bytes w v bs) :
    Calls Tryz.prog 10 #[v] w fun e w' => ∃ va vp, e = .returned (.pointer (some ⟨w.heap.size, 0, none⟩)) ∧ IsSto w' w.heap.size w.heap.size va vp (Page.fromBytes bs) ∧ Ext w w' := by
  have HV := Lib.hid hv
  obtain ⟨a, n, c, rfl⟩ := hv.isSlice
  have hln := hv.len
  clear hv
  have h1 := build_store
  have h2 := box_store
  generalize hT : stoCells none 0 0 none 0 0 0 false = T at h1 h2
  have HT := Lib.hid hT
  clear hT
  obtain ⟨M, hM⟩ : ∃ M, min bs.length 65536 = M := ⟨_, rfl⟩
  have hM1 : M ≤ n := by omega
  have htk : bs.take M = bs.take 65536 := by
    rw [← hM]
    rcases Nat.le_total bs.length 65536 with h | h
    · rw [Nat.min_eq_left h, List.take_length, List.take_of_length_le h]
    · rw [Nat.min_eq_right h]
  have HTK := Lib.hid htk
  have hMM : M ≤ 65536 := by omega
  clear htk
  have key : ∀ K : Nat, K = M → Calls Tryz.prog 50 #[.pointer (some ⟨w.heap.size, 0, none⟩), .slice a K c] (w.alloc (.cells T 128)) (GivesLoad w.heap.size (.bool false) (w.alloc (.cells T 128)) (bs.take 65536)) := by
    rintro K rfl
    refine load8_any w.heap.size none 0 0 none 0 0 0 false _ (bs.take 65536) _ (by rw [HT.out]; exact World.alloc_heap_new _ _) ?_ (by simp; omega)
    rw [← HTK.out]
    exact (Bytes.below HV.out (Ext.alloc _ _)).take K hM1
  have KEY := Lib.hid key
  have hfin : ∀ e w2, GivesLoad w.heap.size (.bool false) (w.alloc (.cells T 128)) (bs.take 65536) e w2 → e = .returned (.tuple #[]) ∧ ∃ va vp, IsSto w2 w.heap.size w.heap.size va vp (Page.fromBytes bs) ∧ Ext w w2 := by
    rintro e w2 ⟨rfl, hB, va, vp, q1, q2, q3⟩
    have hsz : w.heap.size ≤ (w.alloc (.cells T 128)).heap.size := by simp
    refine ⟨rfl, va, vp, IsSto.loaded q1 (rowLower q2 hsz) (rowLower q3 hsz) (by simp; omega), ?_⟩
    exact newBut (Ext.alloc w _) hB
  have HFIN := Lib.hid hfin
  clear key hfin
  go_enter Tryz.func10, Tryz.ntmps10
  go_wp2_with fail
  all_goals
    refine (KEY.out _ (by omega)).mono ?_
    intro e w2 hg
    obtain ⟨rfl, va, vp, hS, hE⟩ := HFIN.out e w2 hg
    have HSS := Lib.hid hS
    have HEE := Lib.hid hE
    clear hg hS hE
    go_wp2_with fail
    go_ret
    exact ⟨va, vp, rfl, HSS.out, HEE.out⟩

end Go.Proofs.YtckdofhcifdpmaaGreat
