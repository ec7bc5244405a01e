/-
  Merged: Layer 8, the program: a store, and its calls that write no frame.
-/
import Derived.Test.YtckdofhcifdpmaaGreatBsPgE

namespace Go.Proofs.YtckdofhcifdpmaaGreat
set_option linter.unusedSimpArgs false
set_option linter.unusedVariables false
set_option maxRecDepth 100000
open Go.RowKit
/- Layer 8, the program: a store, and its calls that write no frame. -/
/-- Block p is a store. -/
structure IsSto (w : World) (base p : Nat) (va vp : Value) (S : Page.St) : Prop where
  heap : w.heap[p]? = some (.cells #[va, vp, .int .i64 (S.syn : Nat), .bool S.off] 128 (0, 0))
  all : w.ownsRow base 5 1 va (Page.bytes S.l).length (u8s (Page.bytes S.l))
  places : w.ownsRow base 3 1 vp S.l.length (i64s (Page.offs S.l))
  ok : S.Ok
theorem IsSto.lt {w : World} {base p : Nat} {va vp : Value} {S : Page.St} (h : IsSto w base p va vp S) : p < w.heap.size := (Array.getElem?_eq_some_iff.1 h.heap).1
theorem IsSto.lower {w : World} {base base' p : Nat} {va vp : Value} {S : Page.St} (h : IsSto w base p va vp S) (hb : base' ≤ base) : IsSto w base' p va vp S := ⟨h.heap, rowLower h.all hb, rowLower h.places hb, h.ok⟩
theorem IsSto.ext {w w' : World} {base p : Nat} {va vp : Value} {S : Page.St} (h : IsSto w base p va vp S) (hE : Ext w w') : IsSto w' base p va vp S := ⟨heap_ext h.heap hE, rowExt h.all hE, rowExt h.places hE, h.ok⟩
theorem IsSto.open {w : World} {base p : Nat} {va vp : Value} {S : Page.St} (h : IsSto w base p va vp S) : ∃ a c b d, va = .slice a (Page.bytes S.l).length c ∧ vp = .slice b S.l.length d := by
  obtain ⟨a, n, c, rfl⟩ := ownSlice h.all
  obtain ⟨b, m, d, rfl⟩ := ownSlice h.places
  have e1 := (BytesU.own h.all).1.len.1
  have h2 : Sl w (.slice b m d) (i64s (Page.offs S.l)) := Sl.ofOwn h.places
  obtain ⟨_, _, e, _⟩ := h2
  injection e with _ e2
  refine ⟨a, c, b, d, by rw [e1], by rw [e2]; simp⟩

theorem ldBy {w : World} {q i : Nat} {a : Option Addr} {n c : Nat} (h : w.cell? ⟨q, i, none⟩ = some (.slice a n c)) : (Instr.loadAt 28 (.pointer (some ⟨q, i, none⟩))).run Tryz.prog w = .ok (.slice a n c) w := by simp [go_sem, h]
section
variable {w : World} {base p : Nat} {va vp : Value} {S : Page.St}
theorem sync8_any (h : IsSto w base p va vp S) : Calls Tryz.prog 69 #[.pointer (some ⟨p, 0, none⟩)] w fun e w' => e = .returned (.tuple #[]) ∧ But p w w' ∧ IsSto w' base p va vp S.sync := by
  have H := Lib.hid h
  have hhp := h.heap
  obtain ⟨a, c, b, d, rfl, rfl⟩ := h.open
  have c0 := cell_of_heap h.heap 0
  have c2 := cell_of_heap h.heap 2
  have f2 := frozen_of_heap h.heap 2
  have c3 := cell_of_heap h.heap 3
  clear h
  obtain ⟨l, k, o⟩ := S
  cases o with
  | true =>
    go_enter Tryz.func69, Tryz.ntmps69
    go_wp2
    go_end0
    exact ⟨rfl, But.refl _ _, H.out⟩
  | false =>
    go_enter Tryz.func69, Tryz.ntmps69
    go_wp2
    go_end0
    have hall := H.out.all
    have hpl := H.out.places
    have hs : Page.St.syn (⟨l, l.length, false⟩ : Page.St) = (Page.bytes l).length := by unfold Page.St.syn; simp
    refine ⟨rfl, butSet _ _ _ _, ?_, rowBut hall (rowBeside hall hhp (by decide)) (butSet _ _ _ _), rowBut hpl (rowBeside hpl hhp (by decide)) (butSet _ _ _ _), H.out.ok.sync⟩
    rw [show (Page.St.sync ⟨l, k, false⟩) = ⟨l, l.length, false⟩ from rfl, hs]
    exact heap_setCell hhp 2 _
theorem frames8_any (h : IsSto w base p va vp S) : Calls Tryz.prog 102 #[.pointer (some ⟨p, 0, none⟩)] w fun e w' => ∃ (es : List Elem) (u : Value), e = .returned u ∧ es.map Elem.x = S.l ∧ w'.ownsRow w.heap.size 28 1 u es.length (es.map Elem.val) ∧ (∀ x ∈ es, x.Good w') ∧ Ext w w' := by
  have H := Lib.hid h
  obtain ⟨a, c, b, d, rfl, rfl⟩ := h.open
  have c0 := cell_of_heap h.heap 0
  have hb := (BytesU.own h.all).1
  have hl : (Page.bytes S.l).length ≤ 200000 := by have := h.ok.max; omega
  have HB := Lib.hid hb
  clear h hb
  go_enter Tryz.func102, Tryz.ntmps102
  go_wp2_with fail
  refine (scan8_any _ _ w HB.out hl).mono ?_
  rintro e w1 ⟨es, u, rfl, h1, h2, h3, h4⟩
  obtain ⟨ua, un, uc, rfl⟩ := ownSlice h2
  rw [Page.scan_all H.out.ok.small] at h1 ⊢
  have H1 := Lib.hid h1
  have H3 := Lib.hid h3
  clear h1 h3
  go_wp2_with fail
  go_ret
  exact ⟨es, _, rfl, H1.out, h2, H3.out, h4⟩

set_option maxHeartbeats 1000000 in
theorem bytes8_any (h : IsSto w base p va vp S) : Calls Tryz.prog 62 #[.pointer (some ⟨p, 0, none⟩)] w (GivesOwn w.heap.size w (Page.bytes (S.l.take S.k))) := by
  have H := Lib.hid h
  obtain ⟨a, c, b, d, rfl, rfl⟩ := h.open
  have c0 : w.cell? ⟨p, 0, none⟩ = some (.slice a (Page.bytes S.l).length c) := cell_of_heap h.heap 0
  have c2 : w.cell? ⟨p, 2, none⟩ = some (.int .i64 (S.syn : Nat)) := cell_of_heap h.heap 2
  have hb := (BytesU.own h.all).1
  have hl : S.syn ≤ (Page.bytes S.l).length := Page.syn_le S
  have hlen := hb.len
  have hpart := hb.part0 S.syn hl
  have hsy : (Page.bytes S.l).take S.syn = Page.bytes (S.l.take S.k) := by
    unfold Page.St.syn
    conv => lhs; rw [← List.take_append_drop S.k S.l, Page.bytes_append, List.take_left' (by simp)]
  have hcl : ((Page.bytes S.l).take S.syn).length ≤ 140737488355328 := by have := h.ok.max; simp; omega
  obtain ⟨U, hU⟩ : ∃ U, S.syn = U := ⟨_, rfl⟩
  rw [hU] at c2 hl hpart hsy hcl
  have HSY := Lib.hid hsy
  obtain ⟨n, hn⟩ : ∃ n, (Page.bytes S.l).length = n := ⟨_, rfl⟩
  rw [hn] at c0 hl hlen
  have HN := Lib.hid hn
  have hmx : (n : Int) ≤ 9223372036854775807 := by omega
  have HCL := Lib.hid hcl
  obtain ⟨B0, hB0⟩ : ∃ B0, w.heap.size = B0 := ⟨_, rfl⟩
  have HB0 := Lib.hid hB0
  clear h hb hU hn hsy hcl
  rw [hB0]
  clear hB0
  go_enter Tryz.func62, Tryz.ntmps62
  go_upto_region 1 with fail
  refine wp_region_tail (by kernel_rfl) 14 Ext (fun iop v w => match iop with
      | 0 => v = .pointer (some ⟨p, 0, none⟩)
      | 1 => v = .pointer (some ⟨p, 0, none⟩)
      | 2 => v = .pointer (some ⟨p, 0, none⟩)
      | 3 => v = .slice a n c
      | 4 => v = .pointer (some ⟨p, 0, none⟩)
      | 5 => v = .pointer (some ⟨p, 0, none⟩)
      | 6 => v = .pointer (some ⟨p, 2, none⟩)
      | 7 => v = .int .i64 (U : Nat)
      | 8 => v = .pointer (some ⟨p, 0, none⟩)
      | 9 => v = .pointer (some ⟨p, 0, none⟩)
      | 10 => v = .pointer (some ⟨p, 2, none⟩)
      | 11 => v = .int .i64 (U : Nat)
      | 12 => v = .slice a U U
      | _ => w.ownsRow B0 5 1 v ((Page.bytes S.l).take U).length (u8s ((Page.bytes S.l).take U))
      ) (by kernel_rfl) (by kernel_rfl) (by decide) (fun _ _ _ h k => Ext.trans h k) (fun a => Ext.refl a) (Ext.drew _) ?_ ?_ ?_
  · intro iop v wa wb hF hL
    iterate 13 (rcases iop with _ | iop; exact hF)
    (first | exact hF | exact rowExt hF hL)
  · refine Obls.cons ?_ (Obls.cons ?_ (Obls.cons ?_ (Obls.cons ?_ (Obls.cons ?_ (Obls.cons ?_ (Obls.cons ?_ (Obls.cons ?_ (Obls.cons ?_ (Obls.cons ?_ (Obls.cons ?_ (Obls.cons ?_ (Obls.cons ?_ (Obls.cons ?_ (Obls.nil))))))))))))))
    · intro ev wy hp hl hk hd
      have e0 : ev (.tmp 0) = .pointer (some ⟨p, 0, none⟩) := hk 0 (by decide)
      clear hk hd
      exact Yield.mv rfl ⟨Ext.refl _, e0⟩
    · intro ev wy hp hl hk hd
      have e3 : ev (.tmp 3) = .pointer (some ⟨p, 0, none⟩) := hk 3 (by decide)
      clear hk hd
      exact Yield.op (v := .pointer (some ⟨p, 0, none⟩)) (w' := wy) (by simp [execOp, go_sem, e3]) ⟨Ext.refl _, rfl⟩
    · intro ev wy hp hl hk hd
      have e4 : ev (.tmp 4) = .pointer (some ⟨p, 0, none⟩) := hk 4 (by decide)
      clear hk hd
      exact Yield.op (v := .pointer (some ⟨p, 0, none⟩)) (w' := wy) (by simp [execOp, go_sem, e4]) ⟨Ext.refl _, rfl⟩
    · intro ev wy hp hl hk hd
      have e5 : ev (.tmp 5) = .pointer (some ⟨p, 0, none⟩) := hk 5 (by decide)
      clear hk hd
      exact Yield.load rfl e5 (ldBy (cell_ext c0 hl)) ⟨Ext.refl _, rfl⟩
    · intro ev wy hp hl hk hd
      have e0 : ev (.tmp 0) = .pointer (some ⟨p, 0, none⟩) := hk 0 (by decide)
      clear hk hd
      exact Yield.mv rfl ⟨Ext.refl _, e0⟩
    · intro ev wy hp hl hk hd
      have e7 : ev (.tmp 7) = .pointer (some ⟨p, 0, none⟩) := hk 7 (by decide)
      clear hk hd
      exact Yield.op (v := .pointer (some ⟨p, 0, none⟩)) (w' := wy) (by simp [execOp, go_sem, e7]) ⟨Ext.refl _, rfl⟩
    · intro ev wy hp hl hk hd
      have e8 : ev (.tmp 8) = .pointer (some ⟨p, 0, none⟩) := hk 8 (by decide)
      clear hk hd
      exact Yield.op (v := .pointer (some ⟨p, 2, none⟩)) (w' := wy) (by simp [execOp, go_sem, e8]) ⟨Ext.refl _, rfl⟩
    · intro ev wy hp hl hk hd
      have e9 : ev (.tmp 9) = .pointer (some ⟨p, 2, none⟩) := hk 9 (by decide)
      clear hk hd
      exact Yield.load rfl e9 (ldInt (cell_ext c2 hl)) ⟨Ext.refl _, rfl⟩
    · intro ev wy hp hl hk hd
      have e0 : ev (.tmp 0) = .pointer (some ⟨p, 0, none⟩) := hk 0 (by decide)
      clear hk hd
      exact Yield.mv rfl ⟨Ext.refl _, e0⟩
    · intro ev wy hp hl hk hd
      have e11 : ev (.tmp 11) = .pointer (some ⟨p, 0, none⟩) := hk 11 (by decide)
      clear hk hd
      exact Yield.op (v := .pointer (some ⟨p, 0, none⟩)) (w' := wy) (by simp [execOp, go_sem, e11]) ⟨Ext.refl _, rfl⟩
    · intro ev wy hp hl hk hd
      have e12 : ev (.tmp 12) = .pointer (some ⟨p, 0, none⟩) := hk 12 (by decide)
      clear hk hd
      exact Yield.op (v := .pointer (some ⟨p, 2, none⟩)) (w' := wy) (by simp [execOp, go_sem, e12]) ⟨Ext.refl _, rfl⟩
    · intro ev wy hp hl hk hd
      have e13 : ev (.tmp 13) = .pointer (some ⟨p, 2, none⟩) := hk 13 (by decide)
      clear hk hd
      exact Yield.load rfl e13 (ldInt (cell_ext c2 hl)) ⟨Ext.refl _, rfl⟩
    · intro ev wy hp hl hk hd
      have e6 : ev (.tmp 6) = .slice a n c := hk 6 (by decide)
      have e10 : ev (.tmp 10) = .int .i64 (U : Nat) := hk 10 (by decide)
      have e14 : ev (.tmp 14) = .int .i64 (U : Nat) := hk 14 (by decide)
      clear hk hd
      exact Yield.slice rfl e6 (by simp only [Option.map_none, Option.map_some, e10, e14]; exact run_sl_to3 Tryz.underlying28 (by kernel_rfl) U (by omega) .i64 .i64) ⟨Ext.refl _, rfl⟩
    · intro ev wy hp hl hk hd
      have e15 : ev (.tmp 15) = .slice a U U := hk 15 (by decide)
      clear hk hd
      refine Yield.call rfl hp Tryz.func96 rfl (by kernel_rfl) ?_
      simp only [List.map_toArray, List.map_cons, List.map_nil, e15]
      exact (clone_any _ _ wy (hpart.below hl) HCL.out).mono fun e w' ⟨u, he, ho, hb⟩ => ⟨u, he, hb, rowLower ho (by rw [← HB0.out]; exact hl.size)⟩
  · intro vals wz hz hv
    have g3 : vals 0 = .pointer (some ⟨p, 0, none⟩) := hv 0 (by decide)
    have g4 : vals 1 = .pointer (some ⟨p, 0, none⟩) := hv 1 (by decide)
    have g5 : vals 2 = .pointer (some ⟨p, 0, none⟩) := hv 2 (by decide)
    have g6 : vals 3 = .slice a n c := hv 3 (by decide)
    have g7 : vals 4 = .pointer (some ⟨p, 0, none⟩) := hv 4 (by decide)
    have g8 : vals 5 = .pointer (some ⟨p, 0, none⟩) := hv 5 (by decide)
    have g9 : vals 6 = .pointer (some ⟨p, 2, none⟩) := hv 6 (by decide)
    have g10 : vals 7 = .int .i64 (U : Nat) := hv 7 (by decide)
    have g11 : vals 8 = .pointer (some ⟨p, 0, none⟩) := hv 8 (by decide)
    have g12 : vals 9 = .pointer (some ⟨p, 0, none⟩) := hv 9 (by decide)
    have g13 : vals 10 = .pointer (some ⟨p, 2, none⟩) := hv 10 (by decide)
    have g14 : vals 11 = .int .i64 (U : Nat) := hv 11 (by decide)
    have g15 : vals 12 = .slice a U U := hv 12 (by decide)
    have g16 : (fun (v : Value) (w : World) => w.ownsRow B0 5 1 v ((Page.bytes S.l).take U).length (u8s ((Page.bytes S.l).take U))) (vals 13) wz := hv 13 (by decide)
    clear hv
    simp only [List.take_succ_cons, List.take_zero, List.drop_succ_cons, List.drop_zero]
    simp only [putAll, Act.put, List.setIfInBounds_toArray, List.set_cons_zero, List.set_cons_succ, g3, g4, g5, g6, g7, g8, g9, g10, g11, g12, g13, g14, g15]
    clear g3
    clear g4
    clear g5
    clear g6
    clear g7
    clear g8
    clear g9
    clear g10
    clear g11
    clear g12
    clear g13
    clear g14
    clear g15
    generalize vals 13 = v16 at *
    obtain ⟨ga, gn, gc, rfl⟩ := ownSlice g16
    have HG := Lib.hid g16
    clear g16 c0 c2
    go_wp2_with fail
    go_ret
    exact ⟨_, rfl, by rw [← HSY.out]; exact HG.out, by rw [← HB0.out]; exact hz⟩
end
theorem build_store (w : World) : (zeroValue 128).run Tryz.prog w = .ok (.agg (stoCells none 0 0 none 0 0 0 false)) w := by kernel_rfl
theorem box_store (w : World) : (Instr.box 128 (.agg (stoCells none 0 0 none 0 0 0 false))).run Tryz.prog w = .ok (.pointer (some ⟨w.heap.size, 0, none⟩)) (w.alloc (.cells (stoCells none 0 0 none 0 0 0 false) 128)) := by kernel_rfl

/-- What a new block's call leaves. -/
theorem newBut {w a b : World} (h : Ext w a) (hB : But w.heap.size a b) : Ext w b := Below.trans (B := w.heap.size) h ⟨hB.os, hB.tape, hB.output, hB.size, fun k hk => hB.block k (Nat.lt_of_lt_of_le hk h.size) (by omega)⟩
/-- A store that load has filled. -/
theorem IsSto.loaded {w' : World} {base p : Nat} {va vp : Value} {bs : List UInt8} {o : Bool} (h1 : w'.heap[p]? = some (.cells #[va, vp, .int .i64 ((Page.scan bs).2 : Nat), .bool o] 128 (0, 0))) (h2 : w'.ownsRow base 5 1 va (Page.scan bs).2 (u8s (Page.bytes (Page.scan bs).1)))
    (h3 : w'.ownsRow base 3 1 vp (Page.scan bs).1.length (i64s (Page.offs (Page.scan bs).1))) (hb : bs.length ≤ 65536) : IsSto w' base p va vp ⟨(Page.scan bs).1, (Page.scan bs).1.length, o⟩ := by
  obtain ⟨q1, q2, q3⟩ := Page.scan_is _ bs (Nat.le_refl _)
  have hs : Page.St.syn ⟨(Page.scan bs).1, (Page.scan bs).1.length, o⟩ = (Page.scan bs).2 := by unfold Page.St.syn; simp [q3]
  refine ⟨by rw [hs]; exact h1, by rw [q3] at h2; exact h2, h3, ⟨q1, Nat.le_refl _, ?_⟩⟩
  show (Page.bytes (Page.scan bs).1).length ≤ 65536
  rw [q2, List.length_take]
  omega

set_option maxHeartbeats 1000000 in
theorem new8_any (v : Value) (bs : List UInt8) (w : World) (hv : Bytes w v bs) :
    Calls Tryz.prog 10 #[v] w fun e w' => ∃ va vp, e = .returned (.pointer (some ⟨w.heap.size, 0, none⟩)) ∧ IsSto w' w.heap.size w.heap.size va vp (Page.fromBytes bs) ∧ Ext w w' := by
  have HV := Lib.hid hv
  obtain ⟨a, n, c, rfl⟩ := hv.isSlice
  have hln := hv.len
  clear hv
  have h1 := build_store
  have h2 := box_store
  generalize hT : stoCells none 0 0 none 0 0 0 false = T at h1 h2
  have HT := Lib.hid hT
  clear hT
  obtain ⟨M, hM⟩ : ∃ M, min bs.length 65536 = M := ⟨_, rfl⟩
  have hM1 : M ≤ n := by omega
  have htk : bs.take M = bs.take 65536 := by
    rw [← hM]
    rcases Nat.le_total bs.length 65536 with h | h
    · rw [Nat.min_eq_left h, List.take_length, List.take_of_length_le h]
    · rw [Nat.min_eq_right h]
  have HTK := Lib.hid htk
  have hMM : M ≤ 65536 := by omega
  clear htk
  have key : ∀ K : Nat, K = M → Calls Tryz.prog 50 #[.pointer (some ⟨w.heap.size, 0, none⟩), .slice a K c] (w.alloc (.cells T 128)) (GivesLoad w.heap.size (.bool false) (w.alloc (.cells T 128)) (bs.take 65536)) := by
    rintro K rfl
    refine load8_any w.heap.size none 0 0 none 0 0 0 false _ (bs.take 65536) _ (by rw [HT.out]; exact World.alloc_heap_new _ _) ?_ (by simp; omega)
    rw [← HTK.out]
    exact (Bytes.below HV.out (Ext.alloc _ _)).take K hM1
  have KEY := Lib.hid key
  have hfin : ∀ e w2, GivesLoad w.heap.size (.bool false) (w.alloc (.cells T 128)) (bs.take 65536) e w2 → e = .returned (.tuple #[]) ∧ ∃ va vp, IsSto w2 w.heap.size w.heap.size va vp (Page.fromBytes bs) ∧ Ext w w2 := by
    rintro e w2 ⟨rfl, hB, va, vp, q1, q2, q3⟩
    have hsz : w.heap.size ≤ (w.alloc (.cells T 128)).heap.size := by simp
    refine ⟨rfl, va, vp, IsSto.loaded q1 (rowLower q2 hsz) (rowLower q3 hsz) (by simp; omega), ?_⟩
    exact newBut (Ext.alloc w _) hB
  have HFIN := Lib.hid hfin
  clear key hfin
  go_enter Tryz.func10, Tryz.ntmps10
  go_wp2_with fail
  all_goals
    refine (KEY.out _ (by omega)).mono ?_
    intro e w2 hg
    obtain ⟨rfl, va, vp, hS, hE⟩ := HFIN.out e w2 hg
    have HSS := Lib.hid hS
    have HEE := Lib.hid hE
    clear hg hS hE
    go_wp2_with fail
    go_ret
    exact ⟨va, vp, rfl, HSS.out, HEE.out⟩

/-- What Crash leaves. -/
def GivesCrash (p : Nat) (w : World) (S : Page.St) (e : Ending) (w' : World) : Prop := e = .returned (.tuple #[]) ∧ But p w w' ∧ ∃ va vp, IsSto w' w.heap.size p va vp S

set_option maxHeartbeats 1000000 in
theorem crash8_any {w : World} {base p : Nat} {va vp : Value} {S : Page.St} (h : IsSto w base p va vp S) (keep : Int) (hk : -9223372036854775808 ≤ keep ∧ keep ≤ 9223372036854775807) :
    Calls Tryz.prog 75 #[.pointer (some ⟨p, 0, none⟩), .int .i64 keep] w (GivesCrash p w (S.crash keep)) := by
  have H := Lib.hid h
  obtain ⟨a, c, b, d, rfl, rfl⟩ := h.open
  have hhp := h.heap
  have c0 : w.cell? ⟨p, 0, none⟩ = some (.slice a (Page.bytes S.l).length c) := cell_of_heap h.heap 0
  have c2 : w.cell? ⟨p, 2, none⟩ = some (.int .i64 (S.syn : Nat)) := cell_of_heap h.heap 2
  have hb := (BytesU.own h.all).1
  have hmax := h.ok.max
  have hsy : S.syn ≤ (Page.bytes S.l).length := Page.syn_le S
  have hlen := hb.len
  have hpart := hb.part0 (S.stay keep) (Page.stay_le S keep)
  have hstl := Page.stay_le S keep
  have hstay : S.stay keep = S.syn + min keep.toNat ((Page.bytes S.l).length - S.syn) := rfl
  have HP := Lib.hid hpart
  obtain ⟨U, hU⟩ : ∃ U, S.syn = U := ⟨_, rfl⟩
  obtain ⟨Z, hZ⟩ : ∃ Z, S.stay keep = Z := ⟨_, rfl⟩
  obtain ⟨n, hn⟩ : ∃ n, (Page.bytes S.l).length = n := ⟨_, rfl⟩
  rw [hU] at c2 hsy hstay
  rw [hn] at c0 hsy hlen hmax hstay hstl
  rw [hZ] at hstay hstl
  have HZ := Lib.hid hZ
  have HN := Lib.hid hn
  have HU := Lib.hid hU
  clear h hb hU hn hZ hpart
  obtain ⟨K, hK⟩ : ∃ K : Int, max keep 0 = K := ⟨_, rfl⟩
  have hKZ : (U : Int) + min K ((n : Int) - (U : Int)) = (Z : Int) := by omega
  go_enter Tryz.func75, Tryz.ntmps75
  go_upto_region 0 with fail
  refine wp_region_tail (by kernel_rfl) 18 Ext (fun iop v w => match iop with
      | 0 => v = .pointer (some ⟨p, 0, none⟩)
      | 1 => v = .pointer (some ⟨p, 0, none⟩)
      | 2 => v = .pointer (some ⟨p, 2, none⟩)
      | 3 => v = .int .i64 (U : Nat)
      | 4 => v = .int .i64 keep
      | 5 => v = .int .i64 K
      | 6 => v = .pointer (some ⟨p, 0, none⟩)
      | 7 => v = .pointer (some ⟨p, 0, none⟩)
      | 8 => v = .pointer (some ⟨p, 0, none⟩)
      | 9 => v = .slice a n c
      | 10 => v = .int .i64 (n : Int)
      | 11 => v = .pointer (some ⟨p, 0, none⟩)
      | 12 => v = .pointer (some ⟨p, 0, none⟩)
      | 13 => v = .pointer (some ⟨p, 2, none⟩)
      | 14 => v = .int .i64 (U : Nat)
      | 15 => v = .int .i64 ((n : Int) - (U : Int))
      | 16 => v = .int .i64 (min K ((n : Int) - (U : Int)))
      | _ => v = .int .i64 (Z : Nat)
      ) (by kernel_rfl) (by kernel_rfl) (by decide) (fun _ _ _ h k => Ext.trans h k) (fun a => Ext.refl a) (Ext.drew _) ?_ ?_ ?_
  · intro iop v wa wb hF hL
    iterate 17 (rcases iop with _ | iop; exact hF)
    exact hF
  · refine Obls.cons ?_ (Obls.cons ?_ (Obls.cons ?_ (Obls.cons ?_ (Obls.cons ?_ (Obls.cons ?_ (Obls.cons ?_ (Obls.cons ?_ (Obls.cons ?_ (Obls.cons ?_ (Obls.cons ?_ (Obls.cons ?_ (Obls.cons ?_ (Obls.cons ?_ (Obls.cons ?_ (Obls.cons ?_ (Obls.cons ?_ (Obls.cons ?_ (Obls.nil))))))))))))))))))
    · intro ev wy hp hl hk hd
      have e0 : ev (.tmp 0) = .pointer (some ⟨p, 0, none⟩) := hk 0 (by decide)
      clear hk hd
      exact Yield.mv rfl ⟨Ext.refl _, e0⟩
    · intro ev wy hp hl hk hd
      have e5 : ev (.tmp 5) = .pointer (some ⟨p, 0, none⟩) := hk 5 (by decide)
      clear hk hd
      exact Yield.op (v := .pointer (some ⟨p, 0, none⟩)) (w' := wy) (by simp [execOp, go_sem, e5]) ⟨Ext.refl _, rfl⟩
    · intro ev wy hp hl hk hd
      have e6 : ev (.tmp 6) = .pointer (some ⟨p, 0, none⟩) := hk 6 (by decide)
      clear hk hd
      exact Yield.op (v := .pointer (some ⟨p, 2, none⟩)) (w' := wy) (by simp [execOp, go_sem, e6]) ⟨Ext.refl _, rfl⟩
    · intro ev wy hp hl hk hd
      have e7 : ev (.tmp 7) = .pointer (some ⟨p, 2, none⟩) := hk 7 (by decide)
      clear hk hd
      exact Yield.load rfl e7 (ldInt (cell_ext c2 hl)) ⟨Ext.refl _, rfl⟩
    · intro ev wy hp hl hk hd
      have e1 : ev (.tmp 1) = .int .i64 keep := hk 1 (by decide)
      clear hk hd
      exact Yield.mv rfl ⟨Ext.refl _, e1⟩
    · intro ev wy hp hl hk hd
      have e9 : ev (.tmp 9) = .int .i64 keep := hk 9 (by decide)
      clear hk hd
      exact Yield.op (v := .int .i64 K) (w' := wy) (by simp [execOp, go_sem, e9, hp.const]; split <;> omega) ⟨Ext.refl _, rfl⟩
    · intro ev wy hp hl hk hd
      have e0 : ev (.tmp 0) = .pointer (some ⟨p, 0, none⟩) := hk 0 (by decide)
      clear hk hd
      exact Yield.mv rfl ⟨Ext.refl _, e0⟩
    · intro ev wy hp hl hk hd
      have e11 : ev (.tmp 11) = .pointer (some ⟨p, 0, none⟩) := hk 11 (by decide)
      clear hk hd
      exact Yield.op (v := .pointer (some ⟨p, 0, none⟩)) (w' := wy) (by simp [execOp, go_sem, e11]) ⟨Ext.refl _, rfl⟩
    · intro ev wy hp hl hk hd
      have e12 : ev (.tmp 12) = .pointer (some ⟨p, 0, none⟩) := hk 12 (by decide)
      clear hk hd
      exact Yield.op (v := .pointer (some ⟨p, 0, none⟩)) (w' := wy) (by simp [execOp, go_sem, e12]) ⟨Ext.refl _, rfl⟩
    · intro ev wy hp hl hk hd
      have e13 : ev (.tmp 13) = .pointer (some ⟨p, 0, none⟩) := hk 13 (by decide)
      clear hk hd
      exact Yield.load rfl e13 (ldBy (cell_ext c0 hl)) ⟨Ext.refl _, rfl⟩
    · intro ev wy hp hl hk hd
      have e14 : ev (.tmp 14) = .slice a n c := hk 14 (by decide)
      clear hk hd
      exact Yield.op (v := .int .i64 (n : Int)) (w' := wy) (by simp [execOp, go_sem, e14]) ⟨Ext.refl _, rfl⟩
    · intro ev wy hp hl hk hd
      have e0 : ev (.tmp 0) = .pointer (some ⟨p, 0, none⟩) := hk 0 (by decide)
      clear hk hd
      exact Yield.mv rfl ⟨Ext.refl _, e0⟩
    · intro ev wy hp hl hk hd
      have e16 : ev (.tmp 16) = .pointer (some ⟨p, 0, none⟩) := hk 16 (by decide)
      clear hk hd
      exact Yield.op (v := .pointer (some ⟨p, 0, none⟩)) (w' := wy) (by simp [execOp, go_sem, e16]) ⟨Ext.refl _, rfl⟩
    · intro ev wy hp hl hk hd
      have e17 : ev (.tmp 17) = .pointer (some ⟨p, 0, none⟩) := hk 17 (by decide)
      clear hk hd
      exact Yield.op (v := .pointer (some ⟨p, 2, none⟩)) (w' := wy) (by simp [execOp, go_sem, e17]) ⟨Ext.refl _, rfl⟩
    · intro ev wy hp hl hk hd
      have e18 : ev (.tmp 18) = .pointer (some ⟨p, 2, none⟩) := hk 18 (by decide)
      clear hk hd
      exact Yield.load rfl e18 (ldInt (cell_ext c2 hl)) ⟨Ext.refl _, rfl⟩
    · intro ev wy hp hl hk hd
      have e15 : ev (.tmp 15) = .int .i64 (n : Int) := hk 15 (by decide)
      have e19 : ev (.tmp 19) = .int .i64 (U : Nat) := hk 19 (by decide)
      clear hk hd
      exact Yield.op (v := .int .i64 ((n : Int) - (U : Int))) (w' := wy) (by simp [execOp, go_sem, e15, e19]; exact IntWalk.i64_in _ (by omega)) ⟨Ext.refl _, rfl⟩
    · intro ev wy hp hl hk hd
      have e10 : ev (.tmp 10) = .int .i64 K := hk 10 (by decide)
      have e20 : ev (.tmp 20) = .int .i64 ((n : Int) - (U : Int)) := hk 20 (by decide)
      clear hk hd
      exact Yield.op (v := .int .i64 (min K ((n : Int) - (U : Int)))) (w' := wy) (by simp [execOp, go_sem, e10, e20]; split <;> omega) ⟨Ext.refl _, rfl⟩
    · intro ev wy hp hl hk hd
      have e8 : ev (.tmp 8) = .int .i64 (U : Nat) := hk 8 (by decide)
      have e21 : ev (.tmp 21) = .int .i64 (min K ((n : Int) - (U : Int))) := hk 21 (by decide)
      clear hk hd
      exact Yield.op (v := .int .i64 (Z : Nat)) (w' := wy) (by simp [execOp, go_sem, e8, e21]; rw [hKZ]; exact IntWalk.i64_in _ (by omega)) ⟨Ext.refl _, rfl⟩
  · intro vals wz hz hv
    have g5 : vals 0 = .pointer (some ⟨p, 0, none⟩) := hv 0 (by decide)
    have g6 : vals 1 = .pointer (some ⟨p, 0, none⟩) := hv 1 (by decide)
    have g7 : vals 2 = .pointer (some ⟨p, 2, none⟩) := hv 2 (by decide)
    have g8 : vals 3 = .int .i64 (U : Nat) := hv 3 (by decide)
    have g9 : vals 4 = .int .i64 keep := hv 4 (by decide)
    have g10 : vals 5 = .int .i64 K := hv 5 (by decide)
    have g11 : vals 6 = .pointer (some ⟨p, 0, none⟩) := hv 6 (by decide)
    have g12 : vals 7 = .pointer (some ⟨p, 0, none⟩) := hv 7 (by decide)
    have g13 : vals 8 = .pointer (some ⟨p, 0, none⟩) := hv 8 (by decide)
    have g14 : vals 9 = .slice a n c := hv 9 (by decide)
    have g15 : vals 10 = .int .i64 (n : Int) := hv 10 (by decide)
    have g16 : vals 11 = .pointer (some ⟨p, 0, none⟩) := hv 11 (by decide)
    have g17 : vals 12 = .pointer (some ⟨p, 0, none⟩) := hv 12 (by decide)
    have g18 : vals 13 = .pointer (some ⟨p, 2, none⟩) := hv 13 (by decide)
    have g19 : vals 14 = .int .i64 (U : Nat) := hv 14 (by decide)
    have g20 : vals 15 = .int .i64 ((n : Int) - (U : Int)) := hv 15 (by decide)
    have g21 : vals 16 = .int .i64 (min K ((n : Int) - (U : Int))) := hv 16 (by decide)
    have g22 : vals 17 = .int .i64 (Z : Nat) := hv 17 (by decide)
    clear hv
    simp only [List.take_succ_cons, List.take_zero, List.drop_succ_cons, List.drop_zero]
    simp only [putAll, Act.put, List.setIfInBounds_toArray, List.set_cons_zero, List.set_cons_succ, g5, g6, g7, g8, g9, g10, g11, g12, g13, g14, g15, g16, g17, g18, g19, g20, g21, g22]
    clear g5
    clear g6
    clear g7
    clear g8
    clear g9
    clear g10
    clear g11
    clear g12
    clear g13
    clear g14
    clear g15
    clear g16
    clear g17
    clear g18
    clear g19
    clear g20
    clear g21
    clear g22
    have d0 := cell_ext c0 hz
    have hnb : (n : Int) ≤ 9223372036854775807 := by omega
    have hpz := heap_ext hhp hz
    have hbz := HP.out.below hz
    rw [HZ.out] at hbz
    have hll : ((Page.bytes S.l).take Z).length ≤ 200000 := by simp; omega
    have hload := load8_any p a (Page.bytes S.l).length c b S.l.length d (S.syn : Nat) S.off (.slice a Z Z) ((Page.bytes S.l).take Z) wz hpz hbz hll
    have HL := Lib.hid hload
    clear hload hbz hpz hhp c0 c2 hstay hKZ hK
    go_wp2_with fail
    refine HL.out.mono ?_
    rintro e w2 ⟨rfl, hB, va, vp, q1, q2, q3⟩
    have hs := IsSto.loaded q1 q2 q3 (by simp; omega)
    have hsc : Page.scan ((Page.bytes S.l).take Z) = ((S.crash keep).l, (Page.bytes (S.crash keep).l).length) := by rw [← HZ.out]; exact Page.scan_stay H.out.ok keep
    obtain ⟨a2, c2', b2, d2, rfl, rfl⟩ := hs.open
    have f3 := frozen_of_heap q1 3
    have c3 := cell_of_heap q1 3
    have HSC := Lib.hid hsc
    have HSS := Lib.hid hs
    have HQ := Lib.hid q1
    clear q2 q3 hsc hs q1
    go_wp2_with fail
    go_end0
    have e1 : (Page.scan ((Page.bytes S.l).take Z)).1 = (S.crash keep).l := by rw [HSC.out]
    have e2 : (Page.scan ((Page.bytes S.l).take Z)).2 = (S.crash keep).syn := by rw [HSC.out, Page.crash_syn]
    have q := HQ.out
    have hs := HSS.out
    rw [e2] at q
    have hset := heap_setCell q 3 (.bool false)
    have ha := hs.all
    have hpl := hs.places
    have hbs := butSet w2 p 3 (.bool false)
    refine ⟨rfl, (Ext.but hz p).trans (hB.setCell 3 none _), _, _, ⟨hset, ?_, ?_, H.out.ok.crash keep⟩⟩
    · have := rowLower (rowBut ha (rowBeside ha q (by decide)) hbs) hz.size
      rw [← e1]
      exact this
    · have := rowLower (rowBut hpl (rowBeside hpl q (by decide)) hbs) hz.size
      rw [← e1]
      exact this
end Go.Proofs.YtckdofhcifdpmaaGreat
