/-
  Layer 8, the statements' stands.
-/
import Derived.Test.YtpefengjpedifaaPgD8
import Derived.Test.YtpefengjpedifaaPgN
import Derived.Test.YtpefengjpedifaaRegion
namespace Go.Proofs.Ytpefengjpedifaa
set_option linter.unusedSimpArgs false
set_option linter.unusedVariables false
set_option maxRecDepth 100000
open Go.RowKit

set_option maxHeartbeats 8000000 in
theorem stands8_any {w : World} {B p : Nat} {va vp : Value} {S : Page.St} (h : IsSto w B p va vp S) (v : Value) (hr : IsRef w v S) :
    Calls Try.prog 13 #[.pointer (some ⟨p, 0, none⟩), v] w fun e w' => e = .returned (.bool true) ∧ Ext w w' := by
  have HREF0 := Lib.hid hr
  obtain ⟨a, c, rfl, hT⟩ := hr
  have HOK := Lib.hid h.ok
  have hcnt : S.l.length ≤ 65536 := by have := Page.count_le S.l; have := h.ok.max; omega
  have hkl := h.ok.le
  obtain ⟨n, hn⟩ : ∃ n, S.l.length = n := ⟨_, rfl⟩
  obtain ⟨k0, hk0⟩ : ∃ k0, S.k = k0 := ⟨_, rfl⟩
  obtain ⟨o0, ho0⟩ : ∃ o0, S.off = o0 := ⟨_, rfl⟩
  have HN := Lib.hid hn
  have HK := Lib.hid hk0
  simp only [refStoV] at *
  rw [hn, hk0, ho0] at HREF0 ⊢
  rw [hn] at hT hcnt hkl
  rw [hk0] at hkl
  obtain ⟨w1, hw1⟩ : ∃ w1, w.alloc (.cells #[.slice a n c, .int .i64 (k0 : Nat), .bool o0] 30) = w1 := ⟨_, rfl⟩
  have hE1 : Ext w w1 := by rw [← hw1]; exact Ext.alloc _ _
  have hq1 : w1.heap[w.heap.size]? = some (.cells #[.slice a n c, .int .i64 (k0 : Nat), .bool o0] 30 (0, 0)) := by rw [← hw1]; exact heap_alloc_new _ _
  have HW1 := Lib.hid hw1
  have HST1 := Lib.hid (h.ext hE1)
  have HT := Lib.hid hT
  clear hw1 hn hk0 ho0 hT h
  go_enter Try.func13, Try.ntmps13
  go_wp2_with fail
  rw [HW1.out]
  refine (frames8_any HST1.out).mono ?_
  rintro e w2 ⟨es, u, rfl, hx, ho, hg, hE2⟩
  have hfr := FrRow.of ho hx hg
  obtain ⟨fa, fc, rfl⟩ : ∃ fa fc, u = .slice fa S.l.length fc := by
    obtain ⟨x, y, e, _⟩ := hfr
    exact ⟨x, y, e⟩
  have HFR := Lib.hid hfr
  have HST := Lib.hid (HST1.out.ext hE2)
  have HREF := Lib.hid (HREF0.out.ext (hE1.trans hE2))
  have hq2 := heap_ext hq1 hE2
  have HQ2 := Lib.hid hq2
  have HT2 := Lib.hid (HT.out.ext (hE1.trans hE2))
  have HE12 := Lib.hid (hE1.trans hE2)
  rw [HN.out]
  obtain ⟨TX, hTX⟩ : ∃ TX, Page.bytes S.l = TX := ⟨_, rfl⟩
  obtain ⟨TK, hTK⟩ : ∃ TK, Page.bytes (S.l.take k0) = TK := ⟨_, rfl⟩
  have HTX := Lib.hid hTX
  have HTK := Lib.hid hTK
  clear hx ho hg hfr hE2 hq1 hq2 hTX hTK
  obtain ⟨L, hL⟩ : ∃ L, TX.length = L := ⟨_, rfl⟩
  obtain ⟨M, hM⟩ : ∃ M, TK.length = M := ⟨_, rfl⟩
  have HLEN := Lib.hid (show ∀ wy, Ext w2 wy → Calls Try.prog 35 #[.pointer (some ⟨p, 0, none⟩)] wy fun e w' => e = .returned (.int .i64 (L : Int)) ∧ Ext wy w' from fun wy hy => (len8_any (HST.out.ext hy)).mono (by rintro e w' ⟨rfl, rfl⟩; exact ⟨by rw [HTX.out, hL], Ext.refl _⟩))
  have HSYN := Lib.hid (show ∀ wy, Ext w2 wy → Calls Try.prog 36 #[.pointer (some ⟨p, 0, none⟩)] wy fun e w' => e = .returned (.int .i64 (M : Int)) ∧ Ext wy w' from fun wy hy => (synced8_any (HST.out.ext hy)).mono (by rintro e w' ⟨rfl, rfl⟩; exact ⟨by unfold Page.St.syn; rw [HK.out, HTK.out, hM], Ext.refl _⟩))
  have HTXT := Lib.hid (show ∀ wy, Ext w2 wy → Calls Try.prog 39 #[.agg #[.slice a n c, .int .i64 (k0 : Int), .bool o0], .int .i64 (n : Int)] wy fun e w' => e = .returned (.string ⟨TX.toArray⟩) ∧ Ext wy w' from fun wy hy => (textRef8_any _ n wy (HREF.out.ext hy) HOK.out (by rw [HN.out]; exact Nat.le_refl _)).mono (by rintro e w' ⟨rfl, hE⟩; exact ⟨by rw [← HN.out, List.take_length, HTX.out], hE⟩))
  have HTKT := Lib.hid (show ∀ wy, Ext w2 wy → Calls Try.prog 39 #[.agg #[.slice a n c, .int .i64 (k0 : Int), .bool o0], .int .i64 (k0 : Int)] wy fun e w' => e = .returned (.string ⟨TK.toArray⟩) ∧ Ext wy w' from fun wy hy => (textRef8_any _ k0 wy (HREF.out.ext hy) HOK.out (by rw [HN.out]; exact hkl)).mono (by rintro e w' ⟨rfl, hE⟩; exact ⟨by rw [HTK.out], hE⟩))
  have HBYT := Lib.hid (show ∀ wy, Ext w2 wy → Calls Try.prog 31 #[.pointer (some ⟨p, 0, none⟩)] wy fun e w' => ∃ u, e = .returned u ∧ Ext wy w' ∧ Bytes w' u TK from fun wy hy => (bytes8_any (HST.out.ext hy)).mono (by rintro e w' ⟨u, rfl, ho, hb⟩; have hy2 := ho.bytes; rw [HK.out, HTK.out] at hy2; exact ⟨u, rfl, hb, hy2⟩))
  have HLL := Lib.hid hL
  have HMM := Lib.hid hM
  obtain ⟨Q, hQ⟩ : ∃ Q, w.heap.size = Q := ⟨_, rfl⟩
  rw [hQ] at HQ2 ⊢
  go_wp2_with fail
  refine wp_region_facts (by kernel_rfl) Ext (fun iop v w => match iop with
      | 0 => v = .slice fa n fc
      | 1 => v = .int .i64 (n : Int)
      | 2 => v = .pointer (some ⟨Q, 0, none⟩)
      | 3 => v = .slice a n c
      | 4 => v = .int .i64 (n : Int)
      | 5 => v = .bool false
      | 6 => v = .bool false
      | 7 => v = .pointer (some ⟨p, 0, none⟩)
      | 8 => v = .int .i64 (L : Int)
      | 9 => v = .agg #[.slice a n c, .int .i64 (k0 : Int), .bool o0]
      | 10 => v = .pointer (some ⟨Q, 0, none⟩)
      | 11 => v = .slice a n c
      | 12 => v = .int .i64 (n : Int)
      | 13 => v = .string ⟨TX.toArray⟩
      | 14 => v = .int .i64 (L : Int)
      | 15 => v = .bool false
      | 16 => v = .bool false
      | 17 => v = .bool false
      | 18 => v = .pointer (some ⟨p, 0, none⟩)
      | 19 => v = .int .i64 (M : Int)
      | 20 => v = .agg #[.slice a n c, .int .i64 (k0 : Int), .bool o0]
      | 21 => v = .pointer (some ⟨Q, 1, none⟩)
      | 22 => v = .int .i64 (k0 : Int)
      | 23 => v = .string ⟨TK.toArray⟩
      | 24 => v = .int .i64 (M : Int)
      | 25 => v = .bool false
      | 26 => v = .bool false
      | 27 => v = .bool false
      | 28 => v = .pointer (some ⟨p, 0, none⟩)
      | 29 => Bytes w v TK
      | 30 => v = .string ⟨TK.toArray⟩
      | 31 => v = .agg #[.slice a n c, .int .i64 (k0 : Int), .bool o0]
      | 32 => v = .pointer (some ⟨Q, 1, none⟩)
      | 33 => v = .int .i64 (k0 : Int)
      | 34 => v = .string ⟨TK.toArray⟩
      | 35 => v = .bool false
      | _ => v = .bool false
      ) (by kernel_rfl) (fun _ _ _ h k => Ext.trans h k) (fun a => Ext.refl a) (Ext.drew _) ?_ ?_ ?_
  · intro iop v wa wb hF hL
    iterate 29 (rcases iop with _ | iop; exact hF)
    rcases iop with _ | iop; (first | exact hF | exact Bytes.below hF hL | exact Sl.below hF hL)
    iterate 6 (rcases iop with _ | iop; exact hF)
    exact hF
  · refine Obls.cons ?_ (Obls.cons ?_ (Obls.cons ?_ (Obls.cons ?_ (Obls.cons ?_ (Obls.cons ?_ (Obls.cons ?_ (Obls.cons ?_ (Obls.cons ?_ (Obls.cons ?_ (Obls.cons ?_ (Obls.cons ?_ (Obls.cons ?_ (Obls.cons ?_ (Obls.cons ?_ (Obls.cons ?_ (Obls.cons ?_ (Obls.cons ?_ (Obls.cons ?_ (Obls.cons ?_ (Obls.cons ?_ (Obls.cons ?_ (Obls.cons ?_ (Obls.cons ?_ (Obls.cons ?_ (Obls.cons ?_ (Obls.cons ?_ (Obls.cons ?_ (Obls.cons ?_ (Obls.cons ?_ (Obls.cons ?_ (Obls.cons ?_ (Obls.cons ?_ (Obls.cons ?_ (Obls.cons ?_ (Obls.cons ?_ (Obls.cons ?_ (Obls.nil)))))))))))))))))))))))))))))))))))))
    · intro ev wy hp hl hk hd
      have e5 : ev (.tmp 5) = .slice fa n fc := hk 5 (by decide)
      clear hk hd
      exact Yield.mv rfl ⟨Ext.refl _, e5⟩
    · intro ev wy hp hl hk hd
      have e11 : ev (.tmp 11) = .slice fa n fc := hk 11 (by decide)
      clear hk hd
      exact Yield.op (v := .int .i64 (n : Int)) (w' := wy) (by simp [execOp, go_sem, e11]) ⟨Ext.refl _, rfl⟩
    · intro ev wy hp hl hk hd
      have e3 : ev (.tmp 3) = .pointer (some ⟨Q, 0, none⟩) := hk 3 (by decide)
      clear hk hd
      exact Yield.op (v := .pointer (some ⟨Q, 0, none⟩)) (w' := wy) (by simp [execOp, go_sem, e3]) ⟨Ext.refl _, rfl⟩
    · intro ev wy hp hl hk hd
      have e13 : ev (.tmp 13) = .pointer (some ⟨Q, 0, none⟩) := hk 13 (by decide)
      clear hk hd
      exact Yield.load rfl e13 (by simp [go_sem, cell_of_heap (heap_ext HQ2.out hl) 0, cell_of_heap (heap_ext HQ2.out hl) 1, cell_of_heap (heap_ext HQ2.out hl) 2]) ⟨Ext.refl _, rfl⟩
    · intro ev wy hp hl hk hd
      have e14 : ev (.tmp 14) = .slice a n c := hk 14 (by decide)
      clear hk hd
      exact Yield.op (v := .int .i64 (n : Int)) (w' := wy) (by simp [execOp, go_sem, e14]) ⟨Ext.refl _, rfl⟩
    · intro ev wy hp hl hk hd
      have e12 : ev (.tmp 12) = .int .i64 (n : Int) := hk 12 (by decide)
      have e15 : ev (.tmp 15) = .int .i64 (n : Int) := hk 15 (by decide)
      clear hk hd
      exact Yield.op (v := .bool false) (w' := wy) (by simp [execOp, go_sem, e12, e15]) ⟨Ext.refl _, rfl⟩
    · intro ev wy hp hl hk hd
      have e16 : ev (.tmp 16) = .bool false := hk 16 (by decide)
      clear hk hd
      exact Yield.mv rfl ⟨Ext.refl _, e16⟩
    · intro ev wy hp hl hk hd
      have e0 : ev (.tmp 0) = .pointer (some ⟨p, 0, none⟩) := hk 0 (by decide)
      clear hk
      refine ⟨fun _ _ _ => ?_, fun _ hx hne => absurd hx hne⟩
      clear hd
      exact Yield.mv rfl ⟨Ext.refl _, e0⟩
    · intro ev wy hp hl hk hd
      have e18 : ev (.tmp 18) = .pointer (some ⟨p, 0, none⟩) := hk 18 (by decide)
      clear hk
      refine ⟨fun _ _ _ => ?_, fun _ hx hne => absurd hx hne⟩
      clear hd
      refine Yield.call rfl hp Try.func35 rfl (by kernel_rfl) ?_
      simp only [List.map_toArray, List.map_cons, List.map_nil, e18]
      exact (HLEN.out wy hl).mono fun _ _ ⟨he, hb⟩ => ⟨_, he, hb, by first | rfl | simp⟩
    · intro ev wy hp hl hk hd
      have e3 : ev (.tmp 3) = .pointer (some ⟨Q, 0, none⟩) := hk 3 (by decide)
      clear hk
      refine ⟨fun _ _ _ => ?_, fun _ hx hne => absurd hx hne⟩
      clear hd
      exact Yield.load rfl e3 (by simp [go_sem, cell_of_heap (heap_ext HQ2.out hl) 0, cell_of_heap (heap_ext HQ2.out hl) 1, cell_of_heap (heap_ext HQ2.out hl) 2]) ⟨Ext.refl _, rfl⟩
    · intro ev wy hp hl hk hd
      have e3 : ev (.tmp 3) = .pointer (some ⟨Q, 0, none⟩) := hk 3 (by decide)
      clear hk
      refine ⟨fun _ _ _ => ?_, fun _ hx hne => absurd hx hne⟩
      clear hd
      exact Yield.op (v := .pointer (some ⟨Q, 0, none⟩)) (w' := wy) (by simp [execOp, go_sem, e3]) ⟨Ext.refl _, rfl⟩
    · intro ev wy hp hl hk hd
      have e21 : ev (.tmp 21) = .pointer (some ⟨Q, 0, none⟩) := hk 21 (by decide)
      clear hk
      refine ⟨fun _ _ _ => ?_, fun _ hx hne => absurd hx hne⟩
      clear hd
      exact Yield.load rfl e21 (by simp [go_sem, cell_of_heap (heap_ext HQ2.out hl) 0, cell_of_heap (heap_ext HQ2.out hl) 1, cell_of_heap (heap_ext HQ2.out hl) 2]) ⟨Ext.refl _, rfl⟩
    · intro ev wy hp hl hk hd
      have e22 : ev (.tmp 22) = .slice a n c := hk 22 (by decide)
      clear hk
      refine ⟨fun _ _ _ => ?_, fun _ hx hne => absurd hx hne⟩
      clear hd
      exact Yield.op (v := .int .i64 (n : Int)) (w' := wy) (by simp [execOp, go_sem, e22]) ⟨Ext.refl _, rfl⟩
    · intro ev wy hp hl hk hd
      have e20 : ev (.tmp 20) = .agg #[.slice a n c, .int .i64 (k0 : Int), .bool o0] := hk 20 (by decide)
      have e23 : ev (.tmp 23) = .int .i64 (n : Int) := hk 23 (by decide)
      clear hk
      refine ⟨fun _ _ _ => ?_, fun _ hx hne => absurd hx hne⟩
      clear hd
      refine Yield.call rfl hp Try.func39 rfl (by kernel_rfl) ?_
      simp only [List.map_toArray, List.map_cons, List.map_nil, e20, e23]
      exact (HTXT.out wy hl).mono fun _ _ ⟨he, hb⟩ => ⟨_, he, hb, by first | rfl | simp⟩
    · intro ev wy hp hl hk hd
      have e24 : ev (.tmp 24) = .string ⟨TX.toArray⟩ := hk 24 (by decide)
      clear hk
      refine ⟨fun _ _ _ => ?_, fun _ hx hne => absurd hx hne⟩
      clear hd
      exact Yield.op (w' := wy) (by simp [execOp, go_sem, e24, HLL.out]) ⟨Ext.refl _, rfl⟩
    · intro ev wy hp hl hk hd
      have e19 : ev (.tmp 19) = .int .i64 (L : Int) := hk 19 (by decide)
      have e25 : ev (.tmp 25) = .int .i64 (L : Int) := hk 25 (by decide)
      clear hk
      refine ⟨fun _ _ _ => ?_, fun _ hx hne => absurd hx hne⟩
      clear hd
      exact Yield.op (v := .bool false) (w' := wy) (by simp [execOp, go_sem, e19, e25]) ⟨Ext.refl _, rfl⟩
    · intro ev wy hp hl hk hd
      have e17 : ev (.tmp 17) = .bool false := hk 17 (by decide)
      have e26 : ev (.tmp 26) = .bool false := hk 26 (by decide)
      clear hk hd
      exact Yield.pick (t := false) rfl e17 ⟨Ext.refl _, e26⟩
    · intro ev wy hp hl hk hd
      have e27 : ev (.tmp 27) = .bool false := hk 27 (by decide)
      clear hk hd
      exact Yield.mv rfl ⟨Ext.refl _, e27⟩
    · intro ev wy hp hl hk hd
      have e0 : ev (.tmp 0) = .pointer (some ⟨p, 0, none⟩) := hk 0 (by decide)
      clear hk
      refine ⟨fun _ _ _ => ?_, fun _ hx hne => absurd hx hne⟩
      clear hd
      exact Yield.mv rfl ⟨Ext.refl _, e0⟩
    · intro ev wy hp hl hk hd
      have e29 : ev (.tmp 29) = .pointer (some ⟨p, 0, none⟩) := hk 29 (by decide)
      clear hk
      refine ⟨fun _ _ _ => ?_, fun _ hx hne => absurd hx hne⟩
      clear hd
      refine Yield.call rfl hp Try.func36 rfl (by kernel_rfl) ?_
      simp only [List.map_toArray, List.map_cons, List.map_nil, e29]
      exact (HSYN.out wy hl).mono fun _ _ ⟨he, hb⟩ => ⟨_, he, hb, by first | rfl | simp⟩
    · intro ev wy hp hl hk hd
      have e3 : ev (.tmp 3) = .pointer (some ⟨Q, 0, none⟩) := hk 3 (by decide)
      clear hk
      refine ⟨fun _ _ _ => ?_, fun _ hx hne => absurd hx hne⟩
      clear hd
      exact Yield.load rfl e3 (by simp [go_sem, cell_of_heap (heap_ext HQ2.out hl) 0, cell_of_heap (heap_ext HQ2.out hl) 1, cell_of_heap (heap_ext HQ2.out hl) 2]) ⟨Ext.refl _, rfl⟩
    · intro ev wy hp hl hk hd
      have e3 : ev (.tmp 3) = .pointer (some ⟨Q, 0, none⟩) := hk 3 (by decide)
      clear hk
      refine ⟨fun _ _ _ => ?_, fun _ hx hne => absurd hx hne⟩
      clear hd
      exact Yield.op (v := .pointer (some ⟨Q, 1, none⟩)) (w' := wy) (by simp [execOp, go_sem, e3]) ⟨Ext.refl _, rfl⟩
    · intro ev wy hp hl hk hd
      have e32 : ev (.tmp 32) = .pointer (some ⟨Q, 1, none⟩) := hk 32 (by decide)
      clear hk
      refine ⟨fun _ _ _ => ?_, fun _ hx hne => absurd hx hne⟩
      clear hd
      exact Yield.load rfl e32 (by simp [go_sem, cell_of_heap (heap_ext HQ2.out hl) 0, cell_of_heap (heap_ext HQ2.out hl) 1, cell_of_heap (heap_ext HQ2.out hl) 2]) ⟨Ext.refl _, rfl⟩
    · intro ev wy hp hl hk hd
      have e31 : ev (.tmp 31) = .agg #[.slice a n c, .int .i64 (k0 : Int), .bool o0] := hk 31 (by decide)
      have e33 : ev (.tmp 33) = .int .i64 (k0 : Int) := hk 33 (by decide)
      clear hk
      refine ⟨fun _ _ _ => ?_, fun _ hx hne => absurd hx hne⟩
      clear hd
      refine Yield.call rfl hp Try.func39 rfl (by kernel_rfl) ?_
      simp only [List.map_toArray, List.map_cons, List.map_nil, e31, e33]
      exact (HTKT.out wy hl).mono fun _ _ ⟨he, hb⟩ => ⟨_, he, hb, by first | rfl | simp⟩
    · intro ev wy hp hl hk hd
      have e34 : ev (.tmp 34) = .string ⟨TK.toArray⟩ := hk 34 (by decide)
      clear hk
      refine ⟨fun _ _ _ => ?_, fun _ hx hne => absurd hx hne⟩
      clear hd
      exact Yield.op (w' := wy) (by simp [execOp, go_sem, e34, HMM.out]) ⟨Ext.refl _, rfl⟩
    · intro ev wy hp hl hk hd
      have e30 : ev (.tmp 30) = .int .i64 (M : Int) := hk 30 (by decide)
      have e35 : ev (.tmp 35) = .int .i64 (M : Int) := hk 35 (by decide)
      clear hk
      refine ⟨fun _ _ _ => ?_, fun _ hx hne => absurd hx hne⟩
      clear hd
      exact Yield.op (v := .bool false) (w' := wy) (by simp [execOp, go_sem, e30, e35]) ⟨Ext.refl _, rfl⟩
    · intro ev wy hp hl hk hd
      have e28 : ev (.tmp 28) = .bool false := hk 28 (by decide)
      have e36 : ev (.tmp 36) = .bool false := hk 36 (by decide)
      clear hk hd
      exact Yield.pick (t := false) rfl e28 ⟨Ext.refl _, e36⟩
    · intro ev wy hp hl hk hd
      have e37 : ev (.tmp 37) = .bool false := hk 37 (by decide)
      clear hk hd
      exact Yield.mv rfl ⟨Ext.refl _, e37⟩
    · intro ev wy hp hl hk hd
      have e0 : ev (.tmp 0) = .pointer (some ⟨p, 0, none⟩) := hk 0 (by decide)
      clear hk
      refine ⟨fun _ _ _ => ?_, fun _ hx hne => absurd hx hne⟩
      clear hd
      exact Yield.mv rfl ⟨Ext.refl _, e0⟩
    · intro ev wy hp hl hk hd
      have e39 : ev (.tmp 39) = .pointer (some ⟨p, 0, none⟩) := hk 39 (by decide)
      clear hk
      refine ⟨fun _ _ _ => ?_, fun _ hx hne => absurd hx hne⟩
      clear hd
      refine Yield.call rfl hp Try.func31 rfl (by kernel_rfl) ?_
      simp only [List.map_toArray, List.map_cons, List.map_nil, e39]
      exact (HBYT.out wy hl).mono fun _ _ ⟨u, he, hb, hu⟩ => ⟨u, he, hb, hu⟩
    · intro ev wy hp hl hk hd
      have f40 : (fun (v : Value) (w : World) => Bytes w v TK) (ev (.tmp 40)) wy := hk 40 (by decide)
      generalize hx40 : ev (.tmp 40) = x40 at *
      clear hk
      refine ⟨fun _ _ _ => ?_, fun _ hx hne => absurd hx hne⟩
      clear hd
      exact Yield.conv rfl hx40 (run_str _ _ 5 Try.underlying22 Try.underlying5 Try.underlying9 (f40)) ⟨Ext.refl _, rfl⟩
    · intro ev wy hp hl hk hd
      have e3 : ev (.tmp 3) = .pointer (some ⟨Q, 0, none⟩) := hk 3 (by decide)
      clear hk
      refine ⟨fun _ _ _ => ?_, fun _ hx hne => absurd hx hne⟩
      clear hd
      exact Yield.load rfl e3 (by simp [go_sem, cell_of_heap (heap_ext HQ2.out hl) 0, cell_of_heap (heap_ext HQ2.out hl) 1, cell_of_heap (heap_ext HQ2.out hl) 2]) ⟨Ext.refl _, rfl⟩
    · intro ev wy hp hl hk hd
      have e3 : ev (.tmp 3) = .pointer (some ⟨Q, 0, none⟩) := hk 3 (by decide)
      clear hk
      refine ⟨fun _ _ _ => ?_, fun _ hx hne => absurd hx hne⟩
      clear hd
      exact Yield.op (v := .pointer (some ⟨Q, 1, none⟩)) (w' := wy) (by simp [execOp, go_sem, e3]) ⟨Ext.refl _, rfl⟩
    · intro ev wy hp hl hk hd
      have e43 : ev (.tmp 43) = .pointer (some ⟨Q, 1, none⟩) := hk 43 (by decide)
      clear hk
      refine ⟨fun _ _ _ => ?_, fun _ hx hne => absurd hx hne⟩
      clear hd
      exact Yield.load rfl e43 (by simp [go_sem, cell_of_heap (heap_ext HQ2.out hl) 0, cell_of_heap (heap_ext HQ2.out hl) 1, cell_of_heap (heap_ext HQ2.out hl) 2]) ⟨Ext.refl _, rfl⟩
    · intro ev wy hp hl hk hd
      have e42 : ev (.tmp 42) = .agg #[.slice a n c, .int .i64 (k0 : Int), .bool o0] := hk 42 (by decide)
      have e44 : ev (.tmp 44) = .int .i64 (k0 : Int) := hk 44 (by decide)
      clear hk
      refine ⟨fun _ _ _ => ?_, fun _ hx hne => absurd hx hne⟩
      clear hd
      refine Yield.call rfl hp Try.func39 rfl (by kernel_rfl) ?_
      simp only [List.map_toArray, List.map_cons, List.map_nil, e42, e44]
      exact (HTKT.out wy hl).mono fun _ _ ⟨he, hb⟩ => ⟨_, he, hb, by first | rfl | simp⟩
    · intro ev wy hp hl hk hd
      have e41 : ev (.tmp 41) = .string ⟨TK.toArray⟩ := hk 41 (by decide)
      have e45 : ev (.tmp 45) = .string ⟨TK.toArray⟩ := hk 45 (by decide)
      clear hk
      refine ⟨fun _ _ _ => ?_, fun _ hx hne => absurd hx hne⟩
      clear hd
      exact Yield.op (v := .bool false) (w' := wy) (by simp [execOp, go_sem, e41, e45]) ⟨Ext.refl _, rfl⟩
    · intro ev wy hp hl hk hd
      have e38 : ev (.tmp 38) = .bool false := hk 38 (by decide)
      have e46 : ev (.tmp 46) = .bool false := hk 46 (by decide)
      clear hk hd
      exact Yield.pick (t := false) rfl e38 ⟨Ext.refl _, e46⟩
  · intro vals wz hz hv
    have g11 : vals 0 = .slice fa n fc := hv 0 (by decide)
    have g12 : vals 1 = .int .i64 (n : Int) := hv 1 (by decide)
    have g13 : vals 2 = .pointer (some ⟨Q, 0, none⟩) := hv 2 (by decide)
    have g14 : vals 3 = .slice a n c := hv 3 (by decide)
    have g15 : vals 4 = .int .i64 (n : Int) := hv 4 (by decide)
    have g16 : vals 5 = .bool false := hv 5 (by decide)
    have g17 : vals 6 = .bool false := hv 6 (by decide)
    have g18 : vals 7 = .pointer (some ⟨p, 0, none⟩) := hv 7 (by decide)
    have g19 : vals 8 = .int .i64 (L : Int) := hv 8 (by decide)
    have g20 : vals 9 = .agg #[.slice a n c, .int .i64 (k0 : Int), .bool o0] := hv 9 (by decide)
    have g21 : vals 10 = .pointer (some ⟨Q, 0, none⟩) := hv 10 (by decide)
    have g22 : vals 11 = .slice a n c := hv 11 (by decide)
    have g23 : vals 12 = .int .i64 (n : Int) := hv 12 (by decide)
    have g24 : vals 13 = .string ⟨TX.toArray⟩ := hv 13 (by decide)
    have g25 : vals 14 = .int .i64 (L : Int) := hv 14 (by decide)
    have g26 : vals 15 = .bool false := hv 15 (by decide)
    have g27 : vals 16 = .bool false := hv 16 (by decide)
    have g28 : vals 17 = .bool false := hv 17 (by decide)
    have g29 : vals 18 = .pointer (some ⟨p, 0, none⟩) := hv 18 (by decide)
    have g30 : vals 19 = .int .i64 (M : Int) := hv 19 (by decide)
    have g31 : vals 20 = .agg #[.slice a n c, .int .i64 (k0 : Int), .bool o0] := hv 20 (by decide)
    have g32 : vals 21 = .pointer (some ⟨Q, 1, none⟩) := hv 21 (by decide)
    have g33 : vals 22 = .int .i64 (k0 : Int) := hv 22 (by decide)
    have g34 : vals 23 = .string ⟨TK.toArray⟩ := hv 23 (by decide)
    have g35 : vals 24 = .int .i64 (M : Int) := hv 24 (by decide)
    have g36 : vals 25 = .bool false := hv 25 (by decide)
    have g37 : vals 26 = .bool false := hv 26 (by decide)
    have g38 : vals 27 = .bool false := hv 27 (by decide)
    have g39 : vals 28 = .pointer (some ⟨p, 0, none⟩) := hv 28 (by decide)
    have g40 : (fun (v : Value) (w : World) => Bytes w v TK) (vals 29) wz := hv 29 (by decide)
    have g41 : vals 30 = .string ⟨TK.toArray⟩ := hv 30 (by decide)
    have g42 : vals 31 = .agg #[.slice a n c, .int .i64 (k0 : Int), .bool o0] := hv 31 (by decide)
    have g43 : vals 32 = .pointer (some ⟨Q, 1, none⟩) := hv 32 (by decide)
    have g44 : vals 33 = .int .i64 (k0 : Int) := hv 33 (by decide)
    have g45 : vals 34 = .string ⟨TK.toArray⟩ := hv 34 (by decide)
    have g46 : vals 35 = .bool false := hv 35 (by decide)
    have g47 : vals 36 = .bool false := hv 36 (by decide)
    clear hv
    simp only [putAll, Act.put, List.setIfInBounds_toArray, List.set_cons_zero, List.set_cons_succ, g11, g12, g13, g14, g15, g16, g17, g18, g19, g20, g21, g22, g23, g24, g25, g26, g27, g28, g29, g30, g31, g32, g33, g34, g35, g36, g37, g38, g39, g41, g42, g43, g44, g45, g46, g47]
    clear g11
    clear g12
    clear g13
    clear g14
    clear g15
    clear g16
    clear g17
    clear g18
    clear g19
    clear g20
    clear g21
    clear g22
    clear g23
    clear g24
    clear g25
    clear g26
    clear g27
    clear g28
    clear g29
    clear g30
    clear g31
    clear g32
    clear g33
    clear g34
    clear g35
    clear g36
    clear g37
    clear g38
    clear g39
    generalize vals 29 = v40 at *
    clear g41
    clear g42
    clear g43
    clear g44
    clear g45
    clear g46
    clear g47
    go_wp2_with fail
    go_loopw [50] (fun i wr => ∃ k : Nat, k ≤ n ∧ i = .int .i64 k ∧ Ext w2 wr) (fun i _ => n - (intOf i).toNat)
    case atStart => exact ⟨0, by omega, rfl, hz⟩
    case round =>
      obtain ⟨k, hk, rfl, hE⟩ := hrel
      by_cases hlt : k < n
      · have hkl2 : k < S.l.length := by rw [HN.out]; exact hlt
        obtain ⟨_, _, e1, _, hf1⟩ := HFR.out.ext (hE.trans (Ext.drew wr))
        obtain ⟨b1, o1, a', n', c', rfl, hc1, hb1⟩ := hf1 k hkl2
        injection e1 with e1 e9 e3
        subst e1 e3
        clear e9
        obtain ⟨_, _, e1, _, _, _, hf2⟩ := (HT2.out.ext (hE.trans (Ext.drew wr))).open
        obtain ⟨b2, o2, rfl, hc2⟩ := hf2 k hkl2
        injection e1 with e1 e9 e3
        subst e1 e3
        clear e9
        have hs1 := run_str (P := Try.prog) 22 9 5 Try.underlying22 Try.underlying5 Try.underlying9 hb1.1
        obtain ⟨X, hX⟩ : ∃ X, S.l[k] = X := ⟨_, rfl⟩
        rw [hX] at hs1 hc2
        have hqr : wr.drew.heap[Q]? = _ := heap_ext HQ2.out (hE.trans (Ext.drew wr))
        have q0 : wr.drew.cell? ⟨Q, 0, none⟩ = some (.slice (some ⟨b2, o2, none⟩) n c) := cell_of_heap hqr 0
        clear hf1 hf2 hb1 hX hqr
        go_wp2_with fail
        go_region
        all_goals
          go_wp2_with fail
          go_roundw
          case rel => exact ⟨k + 1, by omega, by go_num, hE.trans (Ext.drew wr)⟩
          case measure => simp [intOf]; omega
      · obtain rfl : k = n := by omega
        go_wp2_with fail
        go_ret
        exact ⟨rfl, HE12.out.trans hE⟩
end Go.Proofs.Ytpefengjpedifaa
