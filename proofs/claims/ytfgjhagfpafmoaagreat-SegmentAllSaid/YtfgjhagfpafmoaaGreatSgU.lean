/-
  Merged: Layer 9, the document's answers: Append.
-/
import Derived.Test.YtfgjhagfpafmoaaGreatBsLib
import Derived.Test.YtfgjhagfpafmoaaGreatBsRec
import Derived.Test.YtfgjhagfpafmoaaGreatSgRow
import Derived.Test.YtfgjhagfpafmoaaGreatSgT

namespace Go.Proofs.YtfgjhagfpafmoaaGreat
set_option linter.unusedSimpArgs false
set_option linter.unusedVariables false
set_option maxRecDepth 100000
open Go.ChangeShapes Go.WideShapes Go.ChangeAt Go.RowKit
/- Layer 9, the document's answers: Append. -/
theorem heap_three9 (w : World) (x y z : Obj) : (((w.alloc x).alloc y).alloc z).heap[w.heap.size]? = some x ∧ (((w.alloc x).alloc y).alloc z).heap[w.heap.size + 1]? = some y ∧ (((w.alloc x).alloc y).alloc z).heap[w.heap.size + 1 + 1]? = some z := by
  have h2 := heap_two w x y
  have hE := Ext.alloc ((w.alloc x).alloc y) z
  refine ⟨heap_ext h2.1 hE, heap_ext h2.2 hE, ?_⟩
  have h3 := heap_alloc_new ((w.alloc x).alloc y) z
  simpa using h3
theorem ext_three9 (w : World) (x y z : Obj) : Ext w (((w.alloc x).alloc y).alloc z) := (ext_two w x y).trans (Ext.alloc _ _)
theorem wordOf (t : List UInt8) (x : UInt8) : (⟨#[x]⟩ : ByteArray) ++ ⟨t.toArray⟩ = ⟨(x :: t).toArray⟩ := by
  apply ByteArray.ext
  simp

set_option maxHeartbeats 16000000 in
theorem appendRef9_any (v : Value) (G : Seg.Sg) (N : Int) (r : Rec.R) (vr : Value) (w : World) (h : IsRef9 w v G) (hS : G.s.Ok) (hr : IsRec w vr r) :
    Calls Tryz.prog 46 #[v, .int .i64 N, vr] w (GivesRef9E w (G.app N r) (G.appErr N r)) := by
  have HREF := Lib.hid h
  have HOK := Lib.hid hS
  have HR := Lib.hid hr
  obtain ⟨ta, tn, tc, rfl⟩ := hr.shape
  obtain ⟨q0, hq0⟩ : ∃ q : Int, r.client = q := ⟨_, rfl⟩
  obtain ⟨q1, hq1⟩ : ∃ q : Int, r.number = q := ⟨_, rfl⟩
  obtain ⟨q3, hq3⟩ : ∃ q : ByteArray, (⟨r.data.toArray⟩ : ByteArray) = q := ⟨_, rfl⟩
  rw [hq0, hq1, hq3] at HR ⊢
  obtain ⟨a, c, rfl, hT⟩ := h
  obtain ⟨n, hn⟩ : ∃ n, G.s.l.length = n := ⟨_, rfl⟩
  obtain ⟨k0, hk0⟩ : ∃ q : Int, (G.s.k : Int) = q := ⟨_, rfl⟩
  obtain ⟨s0, hs0⟩ : ∃ q : Int, (G.safe : Int) = q := ⟨_, rfl⟩
  obtain ⟨o0, ho0⟩ : ∃ q, G.s.off = q := ⟨_, rfl⟩
  unfold segV at HREF ⊢
  rw [hn] at hT
  have HT := Lib.hid hT
  rw [hn, hk0, hs0, ho0] at HREF ⊢
  obtain ⟨w2, hw2⟩ : ∃ w2, (((w.alloc (.cells #[.slice a n c, .int .i64 k0, .bool o0, .int .i64 s0] 36)).alloc (.cells #[.int .i64 q0, .int .i64 q1, .slice ta tn tc, .string q3] 44)).alloc (.cells #[.slice none 0 0, .int .i64 0, .bool false, .int .i64 0] 36)) = w2 := ⟨_, rfl⟩
  obtain ⟨P, hP⟩ : ∃ P, w.heap.size = P := ⟨_, rfl⟩
  have h3 := heap_three9 w (.cells #[.slice a n c, .int .i64 k0, .bool o0, .int .i64 s0] 36) (.cells #[.int .i64 q0, .int .i64 q1, .slice ta tn tc, .string q3] 44) (.cells #[.slice none 0 0, .int .i64 0, .bool false, .int .i64 0] 36)
  have hE2 : Ext w w2 := by rw [← hw2]; exact ext_three9 _ _ _ _
  rw [hw2, hP] at h3
  have hof := ofRef9_any _ G w2 (HREF.out.ext hE2) hS
  have HOF := Lib.hid hof
  have HW2 := Lib.hid (And.intro hw2 (And.intro hP (And.intro hE2 h3)))
  have HK := Lib.hid (And.intro hn (And.intro hk0 (And.intro ho0 hs0)))
  obtain ⟨p0, p1, p2, p3⟩ := segEnd h3.1
  clear hT hn hk0 hs0 ho0 hw2 hP h3 hE2 hof hS hr hq0 hq1 hq3
  go_enter Tryz.func46, Tryz.ntmps46
  go_upto_region 1 with fail
  rw [HW2.out.1, HW2.out.2.1]
  go_wp2_with fail
  refine HOF.out.mono ?_
  rintro e w3 ⟨u, qs, rfl, hu, hqs, hE3⟩
  obtain ⟨ua, un, uc, rfl⟩ := ownSlice hu.row
  have hrecs := hu.recs
  rw [hqs] at hrecs
  have hun : un = G.len := by
    obtain ⟨_, _, e, _⟩ := hrecs
    injection e with _ e _
  obtain ⟨T, hT⟩ : ∃ q, G.w.trimmed = q := ⟨_, rfl⟩
  obtain ⟨Bk, hBk⟩ : ∃ q, G.w.broken = q := ⟨_, rfl⟩
  unfold whatV
  rw [hT, hBk]
  obtain ⟨w4, hw4⟩ : ∃ w4, w3.alloc (.cells #[.slice ua un uc, .int .i64 (T : Nat), .bool Bk] 102) = w4 := ⟨_, rfl⟩
  obtain ⟨Q, hQ⟩ : ∃ Q, w3.heap.size = Q := ⟨_, rfl⟩
  have hE4 : Ext w3 w4 := by rw [← hw4]; exact Ext.alloc _ _
  have hq4 : w4.heap[Q]? = some (.cells #[.slice ua un uc, .int .i64 (T : Nat), .bool Bk] 102 (0, 0)) := by rw [← hw4, ← hQ]; exact heap_alloc_new _ _
  have hE24 := hE3.trans hE4
  have hX : ∀ w', Ext w4 w' → w'.heap[P]? = some (.cells #[.slice a n c, .int .i64 k0, .bool o0, .int .i64 s0] 36 (0, 0)) ∧ w'.heap[P + 1]? = some (.cells #[.int .i64 q0, .int .i64 q1, .slice ta tn tc, .string q3] 44 (0, 0)) ∧ w'.heap[P + 1 + 1]? = some (.cells #[.slice none 0 0, .int .i64 0, .bool false, .int .i64 0] 36 (0, 0)) ∧ w'.heap[Q]? = some (.cells #[.slice ua un uc, .int .i64 (T : Nat), .bool Bk] 102 (0, 0)) := fun w' hE =>
    ⟨heap_ext HW2.out.2.2.2.1 (hE24.trans hE), heap_ext HW2.out.2.2.2.2.1 (hE24.trans hE), heap_ext HW2.out.2.2.2.2.2 (hE24.trans hE), heap_ext hq4 hE⟩
  have HX := Lib.hid hX
  have HW := Lib.hid (And.intro hw4 (And.intro HW2.out.2.1 (And.intro (HW2.out.2.2.1.trans hE24) (And.intro hQ (hrecs.below hE4)))))
  have HG := Lib.hid (And.intro hun (And.intro hT hBk))
  have hle : un ≤ 13107 := by rw [hun]; exact Seg.Sg.Ok.count HOK.out
  have hTle : T ≤ un := by rw [hun, ← hT]; exact G.trimmed_le
  have hx := hX w4 (Ext.refl _)
  have b0 : w4.cell? ⟨P + 1, 0, none⟩ = some (.int .i64 q0) := cell_of_heap hx.2.1 0
  have b1 : w4.cell? ⟨P + 1, 1, none⟩ = some (.int .i64 q1) := cell_of_heap hx.2.1 1
  have b2 : w4.cell? ⟨P + 1, 2, none⟩ = some (.slice ta tn tc) := cell_of_heap hx.2.1 2
  have b3 : w4.cell? ⟨P + 1, 3, none⟩ = some (.string q3) := cell_of_heap hx.2.1 3
  clear hw4 hQ hE4 hq4 hE24 hX hun hT hBk hrecs hqs hu hE3 p0 p1 p2 p3 hx
  go_upto_region 2 with fail
  rw [HW.out.1, HW.out.2.2.2.1]
  go_wp2_with fail
  refine (refRight4_any _ r w4 (HR.out.below HW.out.2.2.1)).mono ?_
  rintro e w5 ⟨rfl, hE5⟩
  have HE5 := Lib.hid hE5
  clear hE5 b0 b1 b2 b3
  have hcase : G.case N r = (if N < 0 ∨ Rec.right r = false then .bad else if N < (un : Int) then (if N < (T : Int) then .there else if Rec.same (G.w.l.getD N.toNat Seg.zeroR) r then .there else .other) else if (un : Int) < N then .above else if Bk = true ∨ 512 ≤ un then .full else .next) := by
    unfold Seg.Sg.case
    rw [HG.out.1, HG.out.2.1, HG.out.2.2]
  have HCASE := Lib.hid hcase
  clear hcase
  cases hrt : Rec.right r with
  | false =>
    have hc : G.case N r = .bad := by rw [HCASE.out, if_pos (.inr hrt)]
    have HC := Lib.hid hc
    clear hrt hc
    have hx := HX.out w5 HE5.out
    obtain ⟨x0, x1, x2, x3⟩ := segEnd hx.1
    obtain ⟨z0, z1, z2, z3⟩ := segEnd hx.2.2.1
    have f0 : w5.frozen? ⟨P + 1 + 1, 0, none⟩ = false := frozen_of_row w5 (P + 1 + 1) 0 _ _ hx.2.2.1
    have f1 : w5.frozen? ⟨P + 1 + 1, 1, none⟩ = false := frozen_of_row w5 (P + 1 + 1) 1 _ _ hx.2.2.1
    have f2 : w5.frozen? ⟨P + 1 + 1, 2, none⟩ = false := frozen_of_row w5 (P + 1 + 1) 2 _ _ hx.2.2.1
    have f3 : w5.frozen? ⟨P + 1 + 1, 3, none⟩ = false := frozen_of_row w5 (P + 1 + 1) 3 _ _ hx.2.2.1
    have hf := fill_seg hx.2.2.1 (.slice a n c) (.int .i64 k0) (.bool o0) (.int .i64 s0)
    obtain ⟨wf, hwz⟩ : ∃ wf, ((((w5.setCell ⟨P + 1 + 1, 0, none⟩ (.slice a n c)).setCell ⟨P + 1 + 1, 1, none⟩ (.int .i64 k0)).setCell ⟨P + 1 + 1, 2, none⟩ (.bool o0)).setCell ⟨P + 1 + 1, 3, none⟩ (.int .i64 s0)) = wf := ⟨_, rfl⟩
    rw [hwz] at hf
    obtain ⟨r0, r1, r2, r3⟩ := segEnd hf.1
    have HE := Lib.hid (And.intro hwz (And.intro (ext_new (HW.out.2.2.1.trans HE5.out) (by have := HW.out.2.1; omega) hf.2) ((HT.out.ext (HW.out.2.2.1.trans HE5.out)).butT hx.2.2.1 (by decide) hf.2)))
    have HRES := Lib.hid (And.intro (show G.appErr N r = 1 by unfold Seg.Sg.appErr; rw [HC.out]) (show G.app N r = G by unfold Seg.Sg.app; rw [HC.out]))
    clear hx hf hwz
    go_wp2_with fail
    rw [HE.out.1]
    refine bodyPost_ret (v := .tuple #[segV a n c k0 o0 s0, .int .i64 1]) ?_ rfl ⟨segV a n c k0 o0 s0, ?_, ?_, HE.out.2.1⟩
    · simp [results, Tryz.results46, go_sem, r0, r1, r2, r3, segV]
    · rw [HRES.out.1]
    · rw [HRES.out.2]
      refine ⟨a, c, ?_, ?_⟩
      · rw [HK.out.1, HK.out.2.1, HK.out.2.2.1, HK.out.2.2.2]
      · rw [HK.out.1]
        exact HE.out.2.2
  | true =>
    have HRT := Lib.hid hrt
    clear hrt
    by_cases hneg : N < 0
    · have hc : G.case N r = .bad := by rw [HCASE.out, if_pos (.inl hneg)]
      have HC := Lib.hid hc
      clear hc
      have hx := HX.out w5 HE5.out
      obtain ⟨x0, x1, x2, x3⟩ := segEnd hx.1
      obtain ⟨z0, z1, z2, z3⟩ := segEnd hx.2.2.1
      have f0 : w5.frozen? ⟨P + 1 + 1, 0, none⟩ = false := frozen_of_row w5 (P + 1 + 1) 0 _ _ hx.2.2.1
      have f1 : w5.frozen? ⟨P + 1 + 1, 1, none⟩ = false := frozen_of_row w5 (P + 1 + 1) 1 _ _ hx.2.2.1
      have f2 : w5.frozen? ⟨P + 1 + 1, 2, none⟩ = false := frozen_of_row w5 (P + 1 + 1) 2 _ _ hx.2.2.1
      have f3 : w5.frozen? ⟨P + 1 + 1, 3, none⟩ = false := frozen_of_row w5 (P + 1 + 1) 3 _ _ hx.2.2.1
      have hf := fill_seg hx.2.2.1 (.slice a n c) (.int .i64 k0) (.bool o0) (.int .i64 s0)
      obtain ⟨wf, hwz⟩ : ∃ wf, ((((w5.setCell ⟨P + 1 + 1, 0, none⟩ (.slice a n c)).setCell ⟨P + 1 + 1, 1, none⟩ (.int .i64 k0)).setCell ⟨P + 1 + 1, 2, none⟩ (.bool o0)).setCell ⟨P + 1 + 1, 3, none⟩ (.int .i64 s0)) = wf := ⟨_, rfl⟩
      rw [hwz] at hf
      obtain ⟨r0, r1, r2, r3⟩ := segEnd hf.1
      have HE := Lib.hid (And.intro hwz (And.intro (ext_new (HW.out.2.2.1.trans HE5.out) (by have := HW.out.2.1; omega) hf.2) ((HT.out.ext (HW.out.2.2.1.trans HE5.out)).butT hx.2.2.1 (by decide) hf.2)))
      have HRES := Lib.hid (And.intro (show G.appErr N r = 1 by unfold Seg.Sg.appErr; rw [HC.out]) (show G.app N r = G by unfold Seg.Sg.app; rw [HC.out]))
      clear hx hf hwz
      go_wp2_with fail
      rw [HE.out.1]
      refine bodyPost_ret (v := .tuple #[segV a n c k0 o0 s0, .int .i64 1]) ?_ rfl ⟨segV a n c k0 o0 s0, ?_, ?_, HE.out.2.1⟩
      · simp [results, Tryz.results46, go_sem, r0, r1, r2, r3, segV]
      · rw [HRES.out.1]
      · rw [HRES.out.2]
        refine ⟨a, c, ?_, ?_⟩
        · rw [HK.out.1, HK.out.2.1, HK.out.2.2.1, HK.out.2.2.2]
        · rw [HK.out.1]
          exact HE.out.2.2
    obtain ⟨M, hM⟩ : ∃ M : Nat, N = (M : Int) := ⟨N.toNat, by omega⟩
    subst hM
    have hcase : G.case (M : Int) r = (if M < un then (if M < T then .there else if Rec.same (G.w.l.getD M Seg.zeroR) r then .there else .other) else if un < M then .above else if Bk = true ∨ 512 ≤ un then .full else .next) := by
      rw [HCASE.out, if_neg (by rw [HRT.out]; simp)]
      simp only [Int.ofNat_lt, Int.toNat_natCast]
    have HC2 := Lib.hid hcase
    have hx5 := HX.out w5 HE5.out
    obtain ⟨v0, v1, v2⟩ := whatEnd hx5.2.2.2
    clear hcase hneg hx5 HCASE
    by_cases hlt : M < un
    · by_cases hlT : M < T
      · have hc : G.case (M : Int) r = .there := by rw [HC2.out, if_pos hlt, if_pos hlT]
        have HC := Lib.hid hc
        clear hc
        go_upto_region 5 with fail
        clear v0 v1 v2
        refine wp_region_facts (by kernel_rfl) Ext (fun iop v w => match iop with
            | 0 => v = .int .i64 (M : Int)
            | 1 => v = .pointer (some ⟨Q, 1, none⟩)
            | 2 => v = .int .i64 (T : Nat)
            | 3 => v = .bool true
            | 4 => v = .bool true
            | 5 => v = undef
            | 6 => v = undef
            | 7 => v = undef
            | 8 => v = undef
            | 9 => v = undef
            | 10 => v = undef
            | 11 => v = undef
            | _ => v = .bool true
            ) (by kernel_rfl) (fun _ _ _ h k => Ext.trans h k) (fun a => Ext.refl a) (Ext.drew _) ?_ ?_ ?_
        · intro iop v wa wb hF hL
          iterate 12 (rcases iop with _ | iop; exact hF)
          exact hF
        · refine Obls.cons ?_ (Obls.cons ?_ (Obls.cons ?_ (Obls.cons ?_ (Obls.cons ?_ (Obls.cons ?_ (Obls.cons ?_ (Obls.cons ?_ (Obls.cons ?_ (Obls.cons ?_ (Obls.cons ?_ (Obls.cons ?_ (Obls.cons ?_ (Obls.nil)))))))))))))
          · intro ev wy hp hl hk hd
            have e1 : ev (.tmp 1) = .int .i64 (M : Int) := hk 1 (by decide)
            clear hk hd
            exact Yield.mv rfl ⟨Ext.refl _, e1⟩
          · intro ev wy hp hl hk hd
            have e8 : ev (.tmp 8) = .pointer (some ⟨Q, 0, none⟩) := hk 8 (by decide)
            clear hk hd
            exact Yield.op (v := .pointer (some ⟨Q, 1, none⟩)) (w' := wy) (by simp [execOp, go_sem, e8]) ⟨Ext.refl _, rfl⟩
          · intro ev wy hp hl hk hd
            have e27 : ev (.tmp 27) = .pointer (some ⟨Q, 1, none⟩) := hk 27 (by decide)
            clear hk hd
            have hx := (HX.out _ (HE5.out.trans hl)).2.2.2
            exact Yield.load rfl e27 (by simp [go_sem, cell_of_heap hx 1]) ⟨Ext.refl _, rfl⟩
          · intro ev wy hp hl hk hd
            have e26 : ev (.tmp 26) = .int .i64 (M : Int) := hk 26 (by decide)
            have e28 : ev (.tmp 28) = .int .i64 (T : Nat) := hk 28 (by decide)
            clear hk hd
            exact Yield.op (v := .bool true) (w' := wy) (by simp [execOp, go_sem, e26, e28]; omega) ⟨Ext.refl _, rfl⟩
          · intro ev wy hp hl hk hd
            have e29 : ev (.tmp 29) = .bool true := hk 29 (by decide)
            clear hk hd
            exact Yield.mv rfl ⟨Ext.refl _, e29⟩
          · intro ev wy hp hl hk hd
            have e8 : ev (.tmp 8) = .pointer (some ⟨Q, 0, none⟩) := hk 8 (by decide)
            clear hk
            exact ⟨fun x hx he => (by rw [show x = .bool true from hx] at he; cases he), fun _ _ _ => rfl⟩
          · intro ev wy hp hl hk hd
            have e31 : ev (.tmp 31) = undef := hk 31 (by decide)
            clear hk
            exact ⟨fun x hx he => (by rw [show x = .bool true from hx] at he; cases he), fun _ _ _ => rfl⟩
          · intro ev wy hp hl hk hd
            have e1 : ev (.tmp 1) = .int .i64 (M : Int) := hk 1 (by decide)
            clear hk
            exact ⟨fun x hx he => (by rw [show x = .bool true from hx] at he; cases he), fun _ _ _ => rfl⟩
          · intro ev wy hp hl hk hd
            have e32 : ev (.tmp 32) = undef := hk 32 (by decide)
            have e33 : ev (.tmp 33) = undef := hk 33 (by decide)
            clear hk
            exact ⟨fun x hx he => (by rw [show x = .bool true from hx] at he; cases he), fun _ _ _ => rfl⟩
          · intro ev wy hp hl hk hd
            have e34 : ev (.tmp 34) = undef := hk 34 (by decide)
            clear hk
            exact ⟨fun x hx he => (by rw [show x = .bool true from hx] at he; cases he), fun _ _ _ => rfl⟩
          · intro ev wy hp hl hk hd
            have e5 : ev (.tmp 5) = .pointer (some ⟨P + 1, 0, none⟩) := hk 5 (by decide)
            clear hk
            exact ⟨fun x hx he => (by rw [show x = .bool true from hx] at he; cases he), fun _ _ _ => rfl⟩
          · intro ev wy hp hl hk hd
            have e35 : ev (.tmp 35) = undef := hk 35 (by decide)
            have e36 : ev (.tmp 36) = undef := hk 36 (by decide)
            clear hk
            exact ⟨fun x hx he => (by rw [show x = .bool true from hx] at he; cases he), fun _ _ _ => rfl⟩
          · intro ev wy hp hl hk hd
            have e30 : ev (.tmp 30) = .bool true := hk 30 (by decide)
            have e37 : ev (.tmp 37) = undef := hk 37 (by decide)
            clear hk hd
            exact Yield.pick (t := true) rfl e30 ⟨Ext.refl _, hp.const _⟩
        · intro vals wz hz hv
          have g26 : vals 0 = .int .i64 (M : Int) := hv 0 (by decide)
          have g27 : vals 1 = .pointer (some ⟨Q, 1, none⟩) := hv 1 (by decide)
          have g28 : vals 2 = .int .i64 (T : Nat) := hv 2 (by decide)
          have g29 : vals 3 = .bool true := hv 3 (by decide)
          have g30 : vals 4 = .bool true := hv 4 (by decide)
          have g31 : vals 5 = undef := hv 5 (by decide)
          have g32 : vals 6 = undef := hv 6 (by decide)
          have g33 : vals 7 = undef := hv 7 (by decide)
          have g34 : vals 8 = undef := hv 8 (by decide)
          have g35 : vals 9 = undef := hv 9 (by decide)
          have g36 : vals 10 = undef := hv 10 (by decide)
          have g37 : vals 11 = undef := hv 11 (by decide)
          have g38 : vals 12 = .bool true := hv 12 (by decide)
          clear hv
          simp only [putAll, Act.put, List.setIfInBounds_toArray, List.set_cons_zero, List.set_cons_succ, g26, g27, g28, g29, g30, g31, g32, g33, g34, g35, g36, g37, g38]
          clear g26
          clear g27
          clear g28
          clear g29
          clear g30
          clear g31
          clear g32
          clear g33
          clear g34
          clear g35
          clear g36
          clear g37
          clear g38
          have HZ := Lib.hid (HE5.out.trans hz)
          clear hz
          have hx := HX.out wz HZ.out
          obtain ⟨x0, x1, x2, x3⟩ := segEnd hx.1
          obtain ⟨z0, z1, z2, z3⟩ := segEnd hx.2.2.1
          have f0 : wz.frozen? ⟨P + 1 + 1, 0, none⟩ = false := frozen_of_row wz (P + 1 + 1) 0 _ _ hx.2.2.1
          have f1 : wz.frozen? ⟨P + 1 + 1, 1, none⟩ = false := frozen_of_row wz (P + 1 + 1) 1 _ _ hx.2.2.1
          have f2 : wz.frozen? ⟨P + 1 + 1, 2, none⟩ = false := frozen_of_row wz (P + 1 + 1) 2 _ _ hx.2.2.1
          have f3 : wz.frozen? ⟨P + 1 + 1, 3, none⟩ = false := frozen_of_row wz (P + 1 + 1) 3 _ _ hx.2.2.1
          have hf := fill_seg hx.2.2.1 (.slice a n c) (.int .i64 k0) (.bool o0) (.int .i64 s0)
          obtain ⟨wf, hwz⟩ : ∃ wf, ((((wz.setCell ⟨P + 1 + 1, 0, none⟩ (.slice a n c)).setCell ⟨P + 1 + 1, 1, none⟩ (.int .i64 k0)).setCell ⟨P + 1 + 1, 2, none⟩ (.bool o0)).setCell ⟨P + 1 + 1, 3, none⟩ (.int .i64 s0)) = wf := ⟨_, rfl⟩
          rw [hwz] at hf
          obtain ⟨r0, r1, r2, r3⟩ := segEnd hf.1
          have HE := Lib.hid (And.intro hwz (And.intro (ext_new (HW.out.2.2.1.trans HZ.out) (by have := HW.out.2.1; omega) hf.2) ((HT.out.ext (HW.out.2.2.1.trans HZ.out)).butT hx.2.2.1 (by decide) hf.2)))
          have HRES := Lib.hid (And.intro (show G.appErr (M : Int) r = 0 by unfold Seg.Sg.appErr; rw [HC.out]) (show G.app (M : Int) r = G by unfold Seg.Sg.app; rw [HC.out]))
          clear hx hf hwz
          go_wp2_with fail
          rw [HE.out.1]
          refine bodyPost_ret (v := .tuple #[segV a n c k0 o0 s0, .int .i64 0]) ?_ rfl ⟨segV a n c k0 o0 s0, ?_, ?_, HE.out.2.1⟩
          · simp [results, Tryz.results46, go_sem, r0, r1, r2, r3, segV]
          · rw [HRES.out.1]
          · rw [HRES.out.2]
            refine ⟨a, c, ?_, ?_⟩
            · rw [HK.out.1, HK.out.2.1, HK.out.2.2.1, HK.out.2.2.2]
            · rw [HK.out.1]
              exact HE.out.2.2
      · have hML : M < G.w.l.length := by
          have : un = G.w.l.length := HG.out.1
          omega
        obtain ⟨_, _, e1, _, _, _, hcl⟩ := HW.out.2.2.2.2
        obtain ⟨ab, ao, rfl, t9, p0, p1, p2, p3, ht9⟩ := hcl M hML
        injection e1 with e1 e2 e3
        subst e1
        obtain ⟨a1, nt, a3, rfl⟩ : ∃ x y z, t9 = .slice x y z := by
          obtain ⟨x, cc, e, _⟩ := ht9.open
          exact ⟨x, _, cc, e⟩
        have hgd : G.w.l.getD M Seg.zeroR = G.w.l[M] := by rw [List.getD_eq_getElem?_getD, List.getElem?_eq_getElem hML, Option.getD_some]
        obtain ⟨R9, hR9⟩ : ∃ R, G.w.l[M] = R := ⟨_, rfl⟩
        rw [hR9] at p0 p1 p3 ht9 hgd
        obtain ⟨y0, hy0⟩ : ∃ q : Int, R9.client = q := ⟨_, rfl⟩
        obtain ⟨y1, hy1⟩ : ∃ q : Int, R9.number = q := ⟨_, rfl⟩
        obtain ⟨y3, hy3⟩ : ∃ q : ByteArray, (⟨R9.data.toArray⟩ : ByteArray) = q := ⟨_, rfl⟩
        have hrec : ∀ w', Ext w4 w' → IsRec w' (.agg #[.int .i64 y0, .int .i64 y1, .slice a1 nt a3, .string y3]) R9 := fun w' h => by
          rw [← hy0, ← hy1, ← hy3]
          exact ⟨_, rfl, ht9.below h⟩
        rw [hy0] at p0
        rw [hy1] at p1
        rw [hy3] at p3
        obtain ⟨sm, hsm⟩ : ∃ sm, Rec.same R9 r = sm := ⟨_, rfl⟩
        have hsame : ∀ w', Ext w5 w' → Calls Tryz.prog 16 #[.agg #[.int .i64 y0, .int .i64 y1, .slice a1 nt a3, .string y3], .agg #[.int .i64 q0, .int .i64 q1, .slice ta tn tc, .string q3]] w' fun e w'' => e = .returned (.bool sm) ∧ Ext w' w'' := fun w' hE => by
          have h := refSame4_any _ _ R9 r w' (hrec w' (HE5.out.trans hE)) (HR.out.below ((HW.out.2.2.1.trans HE5.out).trans hE))
          rw [hsm] at h
          exact h
        have hc : G.case (M : Int) r = (if sm then .there else .other) := by rw [HC2.out, if_pos hlt, if_neg hlT, hgd, hsm]
        have HC := Lib.hid hc
        have HSM := Lib.hid hsame
        have HP := Lib.hid (And.intro p0 (And.intro p1 (And.intro p2 p3)))
        clear hc hsame hrec hsm hgd hy0 hy1 hy3 hR9 p0 p1 p2 p3 ht9 hcl e2 e3 hML
        go_upto_region 5 with fail
        clear v0 v1 v2
        refine wp_region_facts (by kernel_rfl) Ext (fun iop v w => match iop with
            | 0 => v = .int .i64 (M : Int)
            | 1 => v = .pointer (some ⟨Q, 1, none⟩)
            | 2 => v = .int .i64 (T : Nat)
            | 3 => v = .bool false
            | 4 => v = .bool false
            | 5 => v = .pointer (some ⟨Q, 0, none⟩)
            | 6 => v = .slice (some ⟨ab, ao, none⟩) un uc
            | 7 => v = .int .i64 (M : Int)
            | 8 => v = .pointer (some ⟨ab, ao + M * 4, none⟩)
            | 9 => v = .agg #[.int .i64 y0, .int .i64 y1, .slice a1 nt a3, .string y3]
            | 10 => v = .agg #[.int .i64 q0, .int .i64 q1, .slice ta tn tc, .string q3]
            | 11 => v = .bool sm
            | _ => v = .bool sm
            ) (by kernel_rfl) (fun _ _ _ h k => Ext.trans h k) (fun a => Ext.refl a) (Ext.drew _) ?_ ?_ ?_
        · intro iop v wa wb hF hL
          iterate 12 (rcases iop with _ | iop; exact hF)
          exact hF
        · refine Obls.cons ?_ (Obls.cons ?_ (Obls.cons ?_ (Obls.cons ?_ (Obls.cons ?_ (Obls.cons ?_ (Obls.cons ?_ (Obls.cons ?_ (Obls.cons ?_ (Obls.cons ?_ (Obls.cons ?_ (Obls.cons ?_ (Obls.cons ?_ (Obls.nil)))))))))))))
          · intro ev wy hp hl hk hd
            have e1 : ev (.tmp 1) = .int .i64 (M : Int) := hk 1 (by decide)
            clear hk hd
            exact Yield.mv rfl ⟨Ext.refl _, e1⟩
          · intro ev wy hp hl hk hd
            have e8 : ev (.tmp 8) = .pointer (some ⟨Q, 0, none⟩) := hk 8 (by decide)
            clear hk hd
            exact Yield.op (v := .pointer (some ⟨Q, 1, none⟩)) (w' := wy) (by simp [execOp, go_sem, e8]) ⟨Ext.refl _, rfl⟩
          · intro ev wy hp hl hk hd
            have e27 : ev (.tmp 27) = .pointer (some ⟨Q, 1, none⟩) := hk 27 (by decide)
            clear hk hd
            have hx := (HX.out _ (HE5.out.trans hl)).2.2.2
            exact Yield.load rfl e27 (by simp [go_sem, cell_of_heap hx 1]) ⟨Ext.refl _, rfl⟩
          · intro ev wy hp hl hk hd
            have e26 : ev (.tmp 26) = .int .i64 (M : Int) := hk 26 (by decide)
            have e28 : ev (.tmp 28) = .int .i64 (T : Nat) := hk 28 (by decide)
            clear hk hd
            exact Yield.op (v := .bool false) (w' := wy) (by simp [execOp, go_sem, e26, e28]; omega) ⟨Ext.refl _, rfl⟩
          · intro ev wy hp hl hk hd
            have e29 : ev (.tmp 29) = .bool false := hk 29 (by decide)
            clear hk hd
            exact Yield.mv rfl ⟨Ext.refl _, e29⟩
          · intro ev wy hp hl hk hd
            have e8 : ev (.tmp 8) = .pointer (some ⟨Q, 0, none⟩) := hk 8 (by decide)
            clear hk
            refine ⟨fun _ _ _ => ?_, fun _ hx hne => absurd hx hne⟩
            clear hd
            exact Yield.op (v := .pointer (some ⟨Q, 0, none⟩)) (w' := wy) (by simp [execOp, go_sem, e8]) ⟨Ext.refl _, rfl⟩
          · intro ev wy hp hl hk hd
            have e31 : ev (.tmp 31) = .pointer (some ⟨Q, 0, none⟩) := hk 31 (by decide)
            clear hk
            refine ⟨fun _ _ _ => ?_, fun _ hx hne => absurd hx hne⟩
            clear hd
            have hx := (HX.out _ (HE5.out.trans hl)).2.2.2
            exact Yield.load rfl e31 (by simp [go_sem, cell_of_heap hx 0]) ⟨Ext.refl _, rfl⟩
          · intro ev wy hp hl hk hd
            have e1 : ev (.tmp 1) = .int .i64 (M : Int) := hk 1 (by decide)
            clear hk
            refine ⟨fun _ _ _ => ?_, fun _ hx hne => absurd hx hne⟩
            clear hd
            exact Yield.mv rfl ⟨Ext.refl _, e1⟩
          · intro ev wy hp hl hk hd
            have e32 : ev (.tmp 32) = .slice (some ⟨ab, ao, none⟩) un uc := hk 32 (by decide)
            have e33 : ev (.tmp 33) = .int .i64 (M : Int) := hk 33 (by decide)
            clear hk
            refine ⟨fun _ _ _ => ?_, fun _ hx hne => absurd hx hne⟩
            clear hd
            exact Yield.op (v := .pointer (some ⟨ab, ao + M * 4, none⟩)) (w' := wy) (by simp [execOp, go_sem, e32, e33, hlt]) ⟨Ext.refl _, rfl⟩
          · intro ev wy hp hl hk hd
            have e34 : ev (.tmp 34) = .pointer (some ⟨ab, ao + M * 4, none⟩) := hk 34 (by decide)
            clear hk
            refine ⟨fun _ _ _ => ?_, fun _ hx hne => absurd hx hne⟩
            clear hd
            have hE := HE5.out.trans hl
            exact Yield.load rfl e34 (by simp [go_sem, cell_below HP.out.1 hE, cell_below HP.out.2.1 hE, cell_below HP.out.2.2.1 hE, cell_below HP.out.2.2.2 hE]) ⟨Ext.refl _, rfl⟩
          · intro ev wy hp hl hk hd
            have e5 : ev (.tmp 5) = .pointer (some ⟨P + 1, 0, none⟩) := hk 5 (by decide)
            clear hk
            refine ⟨fun _ _ _ => ?_, fun _ hx hne => absurd hx hne⟩
            clear hd
            have hx := (HX.out _ (HE5.out.trans hl)).2.1
            exact Yield.load rfl e5 (by simp [go_sem, cell_of_heap hx 0, cell_of_heap hx 1, cell_of_heap hx 2, cell_of_heap hx 3]) ⟨Ext.refl _, rfl⟩
          · intro ev wy hp hl hk hd
            have e35 : ev (.tmp 35) = .agg #[.int .i64 y0, .int .i64 y1, .slice a1 nt a3, .string y3] := hk 35 (by decide)
            have e36 : ev (.tmp 36) = .agg #[.int .i64 q0, .int .i64 q1, .slice ta tn tc, .string q3] := hk 36 (by decide)
            clear hk
            refine ⟨fun _ _ _ => ?_, fun _ hx hne => absurd hx hne⟩
            clear hd
            refine Yield.call rfl hp Tryz.func16 rfl (by kernel_rfl) ?_
            simp only [List.map_toArray, List.map_cons, List.map_nil, e35, e36]
            exact (HSM.out wy hl).mono fun _ _ ⟨he, hb⟩ => ⟨_, he, hb, by first | rfl | simp⟩
          · intro ev wy hp hl hk hd
            have e30 : ev (.tmp 30) = .bool false := hk 30 (by decide)
            have e37 : ev (.tmp 37) = .bool sm := hk 37 (by decide)
            clear hk hd
            exact Yield.pick (t := false) rfl e30 ⟨Ext.refl _, e37⟩
        · intro vals wz hz hv
          have g26 : vals 0 = .int .i64 (M : Int) := hv 0 (by decide)
          have g27 : vals 1 = .pointer (some ⟨Q, 1, none⟩) := hv 1 (by decide)
          have g28 : vals 2 = .int .i64 (T : Nat) := hv 2 (by decide)
          have g29 : vals 3 = .bool false := hv 3 (by decide)
          have g30 : vals 4 = .bool false := hv 4 (by decide)
          have g31 : vals 5 = .pointer (some ⟨Q, 0, none⟩) := hv 5 (by decide)
          have g32 : vals 6 = .slice (some ⟨ab, ao, none⟩) un uc := hv 6 (by decide)
          have g33 : vals 7 = .int .i64 (M : Int) := hv 7 (by decide)
          have g34 : vals 8 = .pointer (some ⟨ab, ao + M * 4, none⟩) := hv 8 (by decide)
          have g35 : vals 9 = .agg #[.int .i64 y0, .int .i64 y1, .slice a1 nt a3, .string y3] := hv 9 (by decide)
          have g36 : vals 10 = .agg #[.int .i64 q0, .int .i64 q1, .slice ta tn tc, .string q3] := hv 10 (by decide)
          have g37 : vals 11 = .bool sm := hv 11 (by decide)
          have g38 : vals 12 = .bool sm := hv 12 (by decide)
          clear hv
          simp only [putAll, Act.put, List.setIfInBounds_toArray, List.set_cons_zero, List.set_cons_succ, g26, g27, g28, g29, g30, g31, g32, g33, g34, g35, g36, g37, g38]
          clear g26
          clear g27
          clear g28
          clear g29
          clear g30
          clear g31
          clear g32
          clear g33
          clear g34
          clear g35
          clear g36
          clear g37
          clear g38
          have HZ := Lib.hid (HE5.out.trans hz)
          clear hz HSM HP
          cases sm with
          | true =>
            have hx := HX.out wz HZ.out
            obtain ⟨x0, x1, x2, x3⟩ := segEnd hx.1
            obtain ⟨z0, z1, z2, z3⟩ := segEnd hx.2.2.1
            have f0 : wz.frozen? ⟨P + 1 + 1, 0, none⟩ = false := frozen_of_row wz (P + 1 + 1) 0 _ _ hx.2.2.1
            have f1 : wz.frozen? ⟨P + 1 + 1, 1, none⟩ = false := frozen_of_row wz (P + 1 + 1) 1 _ _ hx.2.2.1
            have f2 : wz.frozen? ⟨P + 1 + 1, 2, none⟩ = false := frozen_of_row wz (P + 1 + 1) 2 _ _ hx.2.2.1
            have f3 : wz.frozen? ⟨P + 1 + 1, 3, none⟩ = false := frozen_of_row wz (P + 1 + 1) 3 _ _ hx.2.2.1
            have hf := fill_seg hx.2.2.1 (.slice a n c) (.int .i64 k0) (.bool o0) (.int .i64 s0)
            obtain ⟨wf, hwz⟩ : ∃ wf, ((((wz.setCell ⟨P + 1 + 1, 0, none⟩ (.slice a n c)).setCell ⟨P + 1 + 1, 1, none⟩ (.int .i64 k0)).setCell ⟨P + 1 + 1, 2, none⟩ (.bool o0)).setCell ⟨P + 1 + 1, 3, none⟩ (.int .i64 s0)) = wf := ⟨_, rfl⟩
            rw [hwz] at hf
            obtain ⟨r0, r1, r2, r3⟩ := segEnd hf.1
            have HE := Lib.hid (And.intro hwz (And.intro (ext_new (HW.out.2.2.1.trans HZ.out) (by have := HW.out.2.1; omega) hf.2) ((HT.out.ext (HW.out.2.2.1.trans HZ.out)).butT hx.2.2.1 (by decide) hf.2)))
            have HRES := Lib.hid (And.intro (show G.appErr (M : Int) r = 0 by unfold Seg.Sg.appErr; rw [HC.out]; rfl) (show G.app (M : Int) r = G by unfold Seg.Sg.app; rw [HC.out]; rfl))
            clear hx hf hwz
            go_wp2_with fail
            rw [HE.out.1]
            refine bodyPost_ret (v := .tuple #[segV a n c k0 o0 s0, .int .i64 0]) ?_ rfl ⟨segV a n c k0 o0 s0, ?_, ?_, HE.out.2.1⟩
            · simp [results, Tryz.results46, go_sem, r0, r1, r2, r3, segV]
            · rw [HRES.out.1]
            · rw [HRES.out.2]
              refine ⟨a, c, ?_, ?_⟩
              · rw [HK.out.1, HK.out.2.1, HK.out.2.2.1, HK.out.2.2.2]
              · rw [HK.out.1]
                exact HE.out.2.2
          | false =>
            have hx := HX.out wz HZ.out
            obtain ⟨x0, x1, x2, x3⟩ := segEnd hx.1
            obtain ⟨z0, z1, z2, z3⟩ := segEnd hx.2.2.1
            have f0 : wz.frozen? ⟨P + 1 + 1, 0, none⟩ = false := frozen_of_row wz (P + 1 + 1) 0 _ _ hx.2.2.1
            have f1 : wz.frozen? ⟨P + 1 + 1, 1, none⟩ = false := frozen_of_row wz (P + 1 + 1) 1 _ _ hx.2.2.1
            have f2 : wz.frozen? ⟨P + 1 + 1, 2, none⟩ = false := frozen_of_row wz (P + 1 + 1) 2 _ _ hx.2.2.1
            have f3 : wz.frozen? ⟨P + 1 + 1, 3, none⟩ = false := frozen_of_row wz (P + 1 + 1) 3 _ _ hx.2.2.1
            have hf := fill_seg hx.2.2.1 (.slice a n c) (.int .i64 k0) (.bool o0) (.int .i64 s0)
            obtain ⟨wf, hwz⟩ : ∃ wf, ((((wz.setCell ⟨P + 1 + 1, 0, none⟩ (.slice a n c)).setCell ⟨P + 1 + 1, 1, none⟩ (.int .i64 k0)).setCell ⟨P + 1 + 1, 2, none⟩ (.bool o0)).setCell ⟨P + 1 + 1, 3, none⟩ (.int .i64 s0)) = wf := ⟨_, rfl⟩
            rw [hwz] at hf
            obtain ⟨r0, r1, r2, r3⟩ := segEnd hf.1
            have HE := Lib.hid (And.intro hwz (And.intro (ext_new (HW.out.2.2.1.trans HZ.out) (by have := HW.out.2.1; omega) hf.2) ((HT.out.ext (HW.out.2.2.1.trans HZ.out)).butT hx.2.2.1 (by decide) hf.2)))
            have HRES := Lib.hid (And.intro (show G.appErr (M : Int) r = 1 by unfold Seg.Sg.appErr; rw [HC.out]; rfl) (show G.app (M : Int) r = G by unfold Seg.Sg.app; rw [HC.out]; rfl))
            clear hx hf hwz
            go_wp2_with fail
            rw [HE.out.1]
            refine bodyPost_ret (v := .tuple #[segV a n c k0 o0 s0, .int .i64 1]) ?_ rfl ⟨segV a n c k0 o0 s0, ?_, ?_, HE.out.2.1⟩
            · simp [results, Tryz.results46, go_sem, r0, r1, r2, r3, segV]
            · rw [HRES.out.1]
            · rw [HRES.out.2]
              refine ⟨a, c, ?_, ?_⟩
              · rw [HK.out.1, HK.out.2.1, HK.out.2.2.1, HK.out.2.2.2]
              · rw [HK.out.1]
                exact HE.out.2.2
    by_cases hgt : un < M
    · have hc : G.case (M : Int) r = .above := by rw [HC2.out, if_neg hlt, if_pos hgt]
      have HC := Lib.hid hc
      clear hc
      have hx := HX.out w5 HE5.out
      obtain ⟨x0, x1, x2, x3⟩ := segEnd hx.1
      obtain ⟨z0, z1, z2, z3⟩ := segEnd hx.2.2.1
      have f0 : w5.frozen? ⟨P + 1 + 1, 0, none⟩ = false := frozen_of_row w5 (P + 1 + 1) 0 _ _ hx.2.2.1
      have f1 : w5.frozen? ⟨P + 1 + 1, 1, none⟩ = false := frozen_of_row w5 (P + 1 + 1) 1 _ _ hx.2.2.1
      have f2 : w5.frozen? ⟨P + 1 + 1, 2, none⟩ = false := frozen_of_row w5 (P + 1 + 1) 2 _ _ hx.2.2.1
      have f3 : w5.frozen? ⟨P + 1 + 1, 3, none⟩ = false := frozen_of_row w5 (P + 1 + 1) 3 _ _ hx.2.2.1
      have hf := fill_seg hx.2.2.1 (.slice a n c) (.int .i64 k0) (.bool o0) (.int .i64 s0)
      obtain ⟨wf, hwz⟩ : ∃ wf, ((((w5.setCell ⟨P + 1 + 1, 0, none⟩ (.slice a n c)).setCell ⟨P + 1 + 1, 1, none⟩ (.int .i64 k0)).setCell ⟨P + 1 + 1, 2, none⟩ (.bool o0)).setCell ⟨P + 1 + 1, 3, none⟩ (.int .i64 s0)) = wf := ⟨_, rfl⟩
      rw [hwz] at hf
      obtain ⟨r0, r1, r2, r3⟩ := segEnd hf.1
      have HE := Lib.hid (And.intro hwz (And.intro (ext_new (HW.out.2.2.1.trans HE5.out) (by have := HW.out.2.1; omega) hf.2) ((HT.out.ext (HW.out.2.2.1.trans HE5.out)).butT hx.2.2.1 (by decide) hf.2)))
      have HRES := Lib.hid (And.intro (show G.appErr (M : Int) r = 91 by unfold Seg.Sg.appErr; rw [HC.out]) (show G.app (M : Int) r = G by unfold Seg.Sg.app; rw [HC.out]))
      clear hx hf hwz
      go_wp2_with fail
      rw [HE.out.1]
      refine bodyPost_ret (v := .tuple #[segV a n c k0 o0 s0, .int .i64 91]) ?_ rfl ⟨segV a n c k0 o0 s0, ?_, ?_, HE.out.2.1⟩
      · simp [results, Tryz.results46, go_sem, r0, r1, r2, r3, segV]
      · rw [HRES.out.1]
      · rw [HRES.out.2]
        refine ⟨a, c, ?_, ?_⟩
        · rw [HK.out.1, HK.out.2.1, HK.out.2.2.1, HK.out.2.2.2]
        · rw [HK.out.1]
          exact HE.out.2.2
    obtain rfl : M = un := by omega
    cases Bk with
    | true =>
      have hc : G.case (M : Int) r = .full := by rw [HC2.out, if_neg hlt, if_neg hgt, if_pos (.inl rfl)]
      have HC := Lib.hid hc
      clear hc
      have hx := HX.out w5 HE5.out
      obtain ⟨x0, x1, x2, x3⟩ := segEnd hx.1
      obtain ⟨z0, z1, z2, z3⟩ := segEnd hx.2.2.1
      have f0 : w5.frozen? ⟨P + 1 + 1, 0, none⟩ = false := frozen_of_row w5 (P + 1 + 1) 0 _ _ hx.2.2.1
      have f1 : w5.frozen? ⟨P + 1 + 1, 1, none⟩ = false := frozen_of_row w5 (P + 1 + 1) 1 _ _ hx.2.2.1
      have f2 : w5.frozen? ⟨P + 1 + 1, 2, none⟩ = false := frozen_of_row w5 (P + 1 + 1) 2 _ _ hx.2.2.1
      have f3 : w5.frozen? ⟨P + 1 + 1, 3, none⟩ = false := frozen_of_row w5 (P + 1 + 1) 3 _ _ hx.2.2.1
      have hf := fill_seg hx.2.2.1 (.slice a n c) (.int .i64 k0) (.bool o0) (.int .i64 s0)
      obtain ⟨wf, hwz⟩ : ∃ wf, ((((w5.setCell ⟨P + 1 + 1, 0, none⟩ (.slice a n c)).setCell ⟨P + 1 + 1, 1, none⟩ (.int .i64 k0)).setCell ⟨P + 1 + 1, 2, none⟩ (.bool o0)).setCell ⟨P + 1 + 1, 3, none⟩ (.int .i64 s0)) = wf := ⟨_, rfl⟩
      rw [hwz] at hf
      obtain ⟨r0, r1, r2, r3⟩ := segEnd hf.1
      have HE := Lib.hid (And.intro hwz (And.intro (ext_new (HW.out.2.2.1.trans HE5.out) (by have := HW.out.2.1; omega) hf.2) ((HT.out.ext (HW.out.2.2.1.trans HE5.out)).butT hx.2.2.1 (by decide) hf.2)))
      have HRES := Lib.hid (And.intro (show G.appErr (M : Int) r = 90 by unfold Seg.Sg.appErr; rw [HC.out]) (show G.app (M : Int) r = G by unfold Seg.Sg.app; rw [HC.out]))
      clear hx hf hwz
      go_wp2_with fail
      rw [HE.out.1]
      refine bodyPost_ret (v := .tuple #[segV a n c k0 o0 s0, .int .i64 90]) ?_ rfl ⟨segV a n c k0 o0 s0, ?_, ?_, HE.out.2.1⟩
      · simp [results, Tryz.results46, go_sem, r0, r1, r2, r3, segV]
      · rw [HRES.out.1]
      · rw [HRES.out.2]
        refine ⟨a, c, ?_, ?_⟩
        · rw [HK.out.1, HK.out.2.1, HK.out.2.2.1, HK.out.2.2.2]
        · rw [HK.out.1]
          exact HE.out.2.2
    | false =>
      by_cases h512 : 512 ≤ M
      · have hc : G.case (M : Int) r = .full := by rw [HC2.out, if_neg hlt, if_neg hgt, if_pos (.inr h512)]
        have HC := Lib.hid hc
        clear hc
        have hx := HX.out w5 HE5.out
        obtain ⟨x0, x1, x2, x3⟩ := segEnd hx.1
        obtain ⟨z0, z1, z2, z3⟩ := segEnd hx.2.2.1
        have f0 : w5.frozen? ⟨P + 1 + 1, 0, none⟩ = false := frozen_of_row w5 (P + 1 + 1) 0 _ _ hx.2.2.1
        have f1 : w5.frozen? ⟨P + 1 + 1, 1, none⟩ = false := frozen_of_row w5 (P + 1 + 1) 1 _ _ hx.2.2.1
        have f2 : w5.frozen? ⟨P + 1 + 1, 2, none⟩ = false := frozen_of_row w5 (P + 1 + 1) 2 _ _ hx.2.2.1
        have f3 : w5.frozen? ⟨P + 1 + 1, 3, none⟩ = false := frozen_of_row w5 (P + 1 + 1) 3 _ _ hx.2.2.1
        have hf := fill_seg hx.2.2.1 (.slice a n c) (.int .i64 k0) (.bool o0) (.int .i64 s0)
        obtain ⟨wf, hwz⟩ : ∃ wf, ((((w5.setCell ⟨P + 1 + 1, 0, none⟩ (.slice a n c)).setCell ⟨P + 1 + 1, 1, none⟩ (.int .i64 k0)).setCell ⟨P + 1 + 1, 2, none⟩ (.bool o0)).setCell ⟨P + 1 + 1, 3, none⟩ (.int .i64 s0)) = wf := ⟨_, rfl⟩
        rw [hwz] at hf
        obtain ⟨r0, r1, r2, r3⟩ := segEnd hf.1
        have HE := Lib.hid (And.intro hwz (And.intro (ext_new (HW.out.2.2.1.trans HE5.out) (by have := HW.out.2.1; omega) hf.2) ((HT.out.ext (HW.out.2.2.1.trans HE5.out)).butT hx.2.2.1 (by decide) hf.2)))
        have HRES := Lib.hid (And.intro (show G.appErr (M : Int) r = 90 by unfold Seg.Sg.appErr; rw [HC.out]) (show G.app (M : Int) r = G by unfold Seg.Sg.app; rw [HC.out]))
        clear hx hf hwz
        go_wp2_with fail
        rw [HE.out.1]
        refine bodyPost_ret (v := .tuple #[segV a n c k0 o0 s0, .int .i64 90]) ?_ rfl ⟨segV a n c k0 o0 s0, ?_, ?_, HE.out.2.1⟩
        · simp [results, Tryz.results46, go_sem, r0, r1, r2, r3, segV]
        · rw [HRES.out.1]
        · rw [HRES.out.2]
          refine ⟨a, c, ?_, ?_⟩
          · rw [HK.out.1, HK.out.2.1, HK.out.2.2.1, HK.out.2.2.2]
          · rw [HK.out.1]
            exact HE.out.2.2
      · have hc : G.case (M : Int) r = .next := by rw [HC2.out, if_neg hlt, if_neg hgt, if_neg (by simp; omega)]
        have HRES := Lib.hid (And.intro (show G.appErr (M : Int) r = G.s.appendErr (Seg.recFrame r) by unfold Seg.Sg.appErr; rw [hc]) (show G.app (M : Int) r = ⟨G.s.append (Seg.recFrame r), G.safe⟩ by unfold Seg.Sg.app; rw [hc]))
        have hx5 := HX.out w5 HE5.out
        have b0 : w5.cell? ⟨P + 1, 0, none⟩ = some (.int .i64 q0) := cell_of_heap hx5.2.1 0
        have b1 : w5.cell? ⟨P + 1, 1, none⟩ = some (.int .i64 q1) := cell_of_heap hx5.2.1 1
        have b2 : w5.cell? ⟨P + 1, 2, none⟩ = some (.slice ta tn tc) := cell_of_heap hx5.2.1 2
        have b3 : w5.cell? ⟨P + 1, 3, none⟩ = some (.string q3) := cell_of_heap hx5.2.1 3
        have hM512 : decide (512 ≤ M) = false := decide_eq_false h512
        clear hc hx5
        go_wp2_with fail
        refine (refEncode4_any _ r w5 (HR.out.below (HW.out.2.2.1.trans HE5.out))).mono ?_
        rintro e w6 ⟨ue, rfl, hb, hE6⟩
        have hb : Bytes w6 ue (Rec.enc r) := by
          rw [HRT.out] at hb
          exact hb
        rw [HRT.out]
        obtain ⟨ea, en, ec, rfl⟩ := hb.isSlice
        have hcs := run_str (P := Tryz.prog) 22 9 5 Tryz.underlying22 Tryz.underlying5 Tryz.underlying9 hb
        have hwd := wordOf (Rec.enc r) 1
        have hE46 := HE5.out.trans hE6
        have HE6 := Lib.hid hE46
        have hadd := addRef9_any _ G (Seg.recFrame r) w6 (HREF.out.ext (HW.out.2.2.1.trans hE46)) HOK.out (by have := Seg.recFrame_len HRT.out; omega)
        unfold Seg.recFrame at hadd
        obtain ⟨E, hE⟩ : ∃ E, Rec.enc r = E := ⟨_, rfl⟩
        have hno : ¬ 9223372036854775807 < 1 + E.length := by
          have h := Seg.recFrame_len HRT.out
          unfold Seg.recFrame at h
          rw [hE] at h
          simp only [List.length_cons] at h
          omega
        rw [hE] at hcs hwd hadd
        have HADD := Lib.hid hadd
        have HENC := Lib.hid hE
        obtain ⟨x0, x1, x2, x3⟩ := segEnd (HX.out w6 hE46).1
        clear hb hE6 hadd hE hE46 b0 b1 b2 b3
        go_wp2_with fail
        refine HADD.out.mono ?_
        rintro e w7 ⟨u7, rfl, ⟨a', c', rfl, ht'⟩, hE7⟩
        have hRF : (1 : UInt8) :: E = Seg.recFrame r := by unfold Seg.recFrame; rw [HENC.out]
        rw [hRF] at ht' ⊢
        obtain ⟨n', hn'⟩ : ∃ n, (G.s.append (Seg.recFrame r)).l.length = n := ⟨_, rfl⟩
        obtain ⟨k', hk'⟩ : ∃ q : Int, ((G.s.append (Seg.recFrame r)).k : Int) = q := ⟨_, rfl⟩
        obtain ⟨o', ho'⟩ : ∃ q, (G.s.append (Seg.recFrame r)).off = q := ⟨_, rfl⟩
        obtain ⟨s', hs'⟩ : ∃ q : Int, (G.safe : Int) = q := ⟨_, rfl⟩
        obtain ⟨er, her⟩ : ∃ q, G.s.appendErr (Seg.recFrame r) = q := ⟨_, rfl⟩
        simp only [segV, hn', hk', ho', hs', her]
        simp only [hn'] at ht'
        have hE47 := HE6.out.trans hE7
        have hx := HX.out w7 hE47
        obtain ⟨z0, z1, z2, z3⟩ := segEnd hx.2.2.1
        have f0 : w7.frozen? ⟨P + 1 + 1, 0, none⟩ = false := frozen_of_row w7 (P + 1 + 1) 0 _ _ hx.2.2.1
        have f1 : w7.frozen? ⟨P + 1 + 1, 1, none⟩ = false := frozen_of_row w7 (P + 1 + 1) 1 _ _ hx.2.2.1
        have f2 : w7.frozen? ⟨P + 1 + 1, 2, none⟩ = false := frozen_of_row w7 (P + 1 + 1) 2 _ _ hx.2.2.1
        have f3 : w7.frozen? ⟨P + 1 + 1, 3, none⟩ = false := frozen_of_row w7 (P + 1 + 1) 3 _ _ hx.2.2.1
        have hf := fill_seg hx.2.2.1 (.slice a' n' c') (.int .i64 k') (.bool o') (.int .i64 s')
        obtain ⟨wf, hwz⟩ : ∃ wf, ((((w7.setCell ⟨P + 1 + 1, 0, none⟩ (.slice a' n' c')).setCell ⟨P + 1 + 1, 1, none⟩ (.int .i64 k')).setCell ⟨P + 1 + 1, 2, none⟩ (.bool o')).setCell ⟨P + 1 + 1, 3, none⟩ (.int .i64 s')) = wf := ⟨_, rfl⟩
        rw [hwz] at hf
        obtain ⟨r0, r1, r2, r3⟩ := segEnd hf.1
        have HE := Lib.hid (And.intro hwz (And.intro (ext_new (HW.out.2.2.1.trans hE47) (by have := HW.out.2.1; omega) hf.2) (And.intro (ht'.butT hx.2.2.1 (by decide) hf.2) (And.intro hn' (And.intro hk' (And.intro ho' (And.intro hs' her)))))))
        clear hx hf hwz hn' hk' ho' hs' her ht' hE7 hE47 hRF hwd hcs hno x0 x1 x2 x3
        go_wp2_with fail
        rw [HE.out.1]
        refine bodyPost_ret (v := .tuple #[segV a' n' c' k' o' s', .int .i64 er]) ?_ rfl ⟨segV a' n' c' k' o' s', ?_, ?_, HE.out.2.1⟩
        · simp [results, Tryz.results46, go_sem, r0, r1, r2, r3, segV]
        · rw [HRES.out.1, HE.out.2.2.2.2.2.2.2]
        · rw [HRES.out.2]
          refine ⟨a', c', ?_, ?_⟩
          · simp only [HE.out.2.2.2.1, HE.out.2.2.2.2.1, HE.out.2.2.2.2.2.1, HE.out.2.2.2.2.2.2.1]
          · simp only [HE.out.2.2.2.1]
            exact HE.out.2.2.1
end Go.Proofs.YtfgjhagfpafmoaaGreat
