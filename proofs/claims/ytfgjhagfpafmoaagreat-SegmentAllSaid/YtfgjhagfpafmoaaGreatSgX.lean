/-
  Merged: Layer 9: has a segment the document's records ('stands' of the statements).
-/
import Derived.Test.YtfgjhagfpafmoaaGreatSgM
import Derived.Test.YtfgjhagfpafmoaaGreatSgP
import Derived.Test.YtfgjhagfpafmoaaGreatSgW

namespace Go.Proofs.YtfgjhagfpafmoaaGreat
set_option linter.unusedSimpArgs false
set_option linter.unusedVariables false
set_option maxRecDepth 100000
open Go.ChangeShapes Go.WideShapes Go.ChangeAt Go.RowKit
/- Layer 9: has a segment the document's records ('stands' of the statements). -/
theorem run_sl_fromN {P : Program} {w : World} {t e : TypeId} {size : Nat} (ht : P.underlying t = some (.slice e)) (hs : (P.info? e).map (·.size) = some size) {a : Option Addr} {n cap : Nat} (l : Nat) (hl : l ≤ n) (k : IntKind) :
    (Instr.sliceAt t (.slice a n cap) (some (.int k (l : Int))) none none).run P w = .ok (.slice (if cap = l then a else a.map (·.add (l * size))) (n - l) (cap - l)) w := by
  have he : P.elem t = e := by simp [Program.elem, ht]
  have ht' : P.underlying t = some (.slice (P.elem t)) := by rw [he]; exact ht
  obtain ⟨i, hi, h1⟩ := Option.map_eq_some_iff.1 hs
  rw [run_sliceAt_slice w t _ _ _ _ ht', run_slice_l w t a n cap ht' k l (by omega) (by omega)]
  simp [sizeOf, typeInfo, he, hi, Result.andThen, sliced, h1]
theorem Recs.from {w : World} {a : Option Addr} {n cap : Nat} {l : List Rec.R} (h : Recs w (.slice a n cap) l) (T : Nat) (hT : T ≤ n) : Recs w (.slice (if cap = T then a else a.map (·.add (T * 4))) (n - T) (cap - T)) (l.drop T) := by
  obtain ⟨a', cap', e, h1, h2, h3, h4⟩ := h
  injection e with e1 e2 e3
  subst e1 e2 e3
  refine ⟨_, cap - T, by rw [List.length_drop], by rw [List.length_drop]; omega, by omega, fun hn => ?_, fun i hi => ?_⟩
  · by_cases hc : cap = T
    · omega
    · rw [if_neg hc] at hn
      cases a with
      | none => have := h3 rfl; omega
      | some ad => simp at hn
  · rw [List.length_drop] at hi
    obtain ⟨b, off, rfl, hr⟩ := h4 (T + i) (by omega)
    refine ⟨b, off + T * 4, ?_, ?_⟩
    · rw [if_neg (by omega)]
      simp [Addr.add]
    · rw [List.getElem_drop]
      have : off + T * 4 + i * 4 = off + (T + i) * 4 := by omega
      rw [this]
      exact hr
section
variable {w : World} {B U g p : Nat} {va vp lv : Value} {ps : List (Value × Rec.R)} {G : Seg.Sg}
theorem IsSegB.len_x (h : IsSegB w B U g p va vp lv ps G) {k : Nat} (hk : G.len = k) (w' : World) (hE : Ext w w') : Calls Tryz.prog 38 #[.pointer (some ⟨g, 0, none⟩)] w' fun e w'' => e = .returned (.int .i64 (k : Nat)) ∧ Ext w' w'' := by
  subst hk
  exact h.len_any hE
theorem IsSegB.trim_x (h : IsSegB w B U g p va vp lv ps G) {k : Nat} (hk : G.w.trimmed = k) (w' : World) (hE : Ext w w') : Calls Tryz.prog 39 #[.pointer (some ⟨g, 0, none⟩)] w' fun e w'' => e = .returned (.int .i64 (k : Nat)) ∧ Ext w' w'' := by
  subst hk
  exact (segtrim_any (h.ext hE).seg).mono fun e w'' ⟨he, hw⟩ => ⟨he, by rw [← hw]; exact Ext.refl _⟩
theorem IsSegB.safe_x (h : IsSegB w B U g p va vp lv ps G) {k : Int} (hk : (G.safe : Int) = k) (w' : World) (hE : Ext w w') : Calls Tryz.prog 43 #[.pointer (some ⟨g, 0, none⟩)] w' fun e w'' => e = .returned (.int .i64 k) ∧ Ext w' w'' := by
  subst hk
  exact (segsafe_any (h.ext hE).seg).mono fun e w'' ⟨he, hw⟩ => ⟨he, by rw [← hw]; exact Ext.refl _⟩
theorem IsSegB.all_x (h : IsSegB w B U g p va vp lv ps G) {l : List Rec.R} (hk : G.w.l.drop G.w.trimmed = l) (w' : World) (hE : Ext w w') : Calls Tryz.prog 45 #[.pointer (some ⟨g, 0, none⟩)] w' fun e w'' => ∃ u, e = .returned u ∧ Ext w' w'' ∧ Recs w'' u l := by
  subst hk
  exact (all9_any (h.ext hE)).mono fun e w'' ⟨u, qs, he, ho, hq, hE2⟩ => ⟨u, he, hE2, by have := ho.recs; rw [hq] at this; exact this⟩
end

set_option maxHeartbeats 8000000 in
theorem stands9_any {w : World} {B U g p : Nat} {va vp lv : Value} {ps : List (Value × Rec.R)} {G : Seg.Sg} (hg : IsSegB w B U g p va vp lv ps G) (v : Value) (h : IsRef9 w v G) :
    Calls Tryz.prog 13 #[.pointer (some ⟨g, 0, none⟩), v] w fun e w' => e = .returned (.bool true) ∧ Ext w w' := by
  have HG := Lib.hid hg
  have HREF := Lib.hid h
  obtain ⟨a, c, rfl, hT⟩ := h
  obtain ⟨n, hn⟩ : ∃ n, G.s.l.length = n := ⟨_, rfl⟩
  obtain ⟨k0, hk0⟩ : ∃ q : Int, (G.s.k : Int) = q := ⟨_, rfl⟩
  obtain ⟨s0, hs0⟩ : ∃ q : Int, (G.safe : Int) = q := ⟨_, rfl⟩
  obtain ⟨o0, ho0⟩ : ∃ q, G.s.off = q := ⟨_, rfl⟩
  unfold segV at HREF ⊢
  rw [hn, hk0, hs0, ho0] at HREF ⊢
  obtain ⟨w2, hw2⟩ : ∃ w2, w.alloc (.cells #[.slice a n c, .int .i64 k0, .bool o0, .int .i64 s0] 36) = w2 := ⟨_, rfl⟩
  obtain ⟨P, hP⟩ : ∃ P, w.heap.size = P := ⟨_, rfl⟩
  have hE2 : Ext w w2 := by rw [← hw2]; exact Ext.alloc _ _
  have hx2 : w2.heap[P]? = some (.cells #[.slice a n c, .int .i64 k0, .bool o0, .int .i64 s0] 36 (0, 0)) := by rw [← hw2, ← hP]; exact heap_alloc_new _ _
  have HOF := Lib.hid (ofRef9_any _ G w2 (HREF.out.ext hE2) hg.sto.ok)
  have HW2 := Lib.hid (And.intro hw2 (And.intro hP (And.intro hE2 hx2)))
  have HS0 := Lib.hid hs0
  obtain ⟨p0, p1, p2, p3⟩ := segEnd hx2
  clear hT hn hk0 hs0 ho0 hw2 hP hE2 hx2 hg
  go_enter Tryz.func13, Tryz.ntmps13
  go_upto_region 1 with fail
  rw [HW2.out.1, HW2.out.2.1]
  go_wp2_with fail
  refine HOF.out.mono ?_
  rintro e w3 ⟨u, qs, rfl, hu, hqs, hE3⟩
  obtain ⟨ua, un, uc, rfl⟩ := ownSlice hu.row
  have hrs := hu.recs
  rw [hqs] at hrs
  have hun : un = G.len := by
    obtain ⟨_, _, e, _⟩ := hrs
    injection e with _ e _
  obtain ⟨T, hT⟩ : ∃ q, G.w.trimmed = q := ⟨_, rfl⟩
  obtain ⟨Bk, hBk⟩ : ∃ q, G.w.broken = q := ⟨_, rfl⟩
  unfold whatV
  rw [hT, hBk]
  have hTle : T ≤ un := by rw [hun, ← hT]; exact G.trimmed_le
  obtain ⟨w4, hw4⟩ : ∃ w4, w3.alloc (.cells #[.slice ua un uc, .int .i64 (T : Nat), .bool Bk] 102) = w4 := ⟨_, rfl⟩
  obtain ⟨Q, hQ⟩ : ∃ Q, w3.heap.size = Q := ⟨_, rfl⟩
  have hE4 : Ext w3 w4 := by rw [← hw4]; exact Ext.alloc _ _
  have hq4 : w4.heap[Q]? = some (.cells #[.slice ua un uc, .int .i64 (T : Nat), .bool Bk] 102 (0, 0)) := by rw [← hw4, ← hQ]; exact heap_alloc_new _ _
  have hE24 := hE3.trans hE4
  have hseg := HG.out.ext (HW2.out.2.2.1.trans hE24)
  have hfr := (hrs.below hE4).from T hTle
  obtain ⟨fa, hfa⟩ : ∃ x, (if uc = T then ua else ua.map (·.add (T * 4))) = x := ⟨_, rfl⟩
  rw [hfa] at hfr
  have hslice : ∀ w', (Instr.sliceAt 87 (.slice ua un uc) (some (.int .i64 (T : Int))) none none).run Tryz.prog w' = .ok (.slice fa (un - T) (uc - T)) w' := fun w' => by
    rw [run_sl_fromN Tryz.underlying87 (size := 4) (by kernel_rfl) T hTle .i64, hfa]
  have HL := Lib.hid (hseg.len_x hun.symm)
  have HTR := Lib.hid (hseg.trim_x hT)
  have HSF := Lib.hid (hseg.safe_x HS0.out)
  have HAL := Lib.hid (hseg.all_x (l := G.w.l.drop T) (by rw [hT]))
  have HFR := Lib.hid hfr
  have HSL := Lib.hid hslice
  have HW := Lib.hid (And.intro hw4 (And.intro hQ (And.intro (HW2.out.2.2.1.trans hE24) (And.intro hq4 (heap_ext HW2.out.2.2.2 hE24)))))
  clear hw4 hQ hE4 hq4 hE24 hseg hfr hfa hslice hun hT hBk hrs hqs hu hE3 p0 p1 p2 p3
  go_upto_region 2 with fail
  rw [HW.out.1, HW.out.2.1]
  refine wp_region_facts (by kernel_rfl) Ext (fun iop v w => match iop with
      | 0 => v = .pointer (some ⟨g, 0, none⟩)
      | 1 => v = .int .i64 (un : Nat)
      | 2 => v = .pointer (some ⟨Q, 0, none⟩)
      | 3 => v = .slice ua un uc
      | 4 => v = .int .i64 (un : Nat)
      | 5 => v = .bool true
      | 6 => v = .bool true
      | 7 => v = .pointer (some ⟨g, 0, none⟩)
      | 8 => v = .int .i64 (T : Nat)
      | 9 => v = .pointer (some ⟨Q, 1, none⟩)
      | 10 => v = .int .i64 (T : Nat)
      | 11 => v = .bool true
      | 12 => v = .bool true
      | 13 => v = .bool true
      | 14 => v = .pointer (some ⟨g, 0, none⟩)
      | 15 => v = .int .i64 s0
      | 16 => v = .pointer (some ⟨P, 3, none⟩)
      | 17 => v = .int .i64 s0
      | 18 => v = .bool true
      | 19 => v = .bool true
      | 20 => v = .bool true
      | 21 => v = .pointer (some ⟨g, 0, none⟩)
      | 22 => Recs w v (G.w.l.drop T)
      | 23 => v = .pointer (some ⟨Q, 0, none⟩)
      | 24 => v = .slice ua un uc
      | 25 => v = .pointer (some ⟨Q, 1, none⟩)
      | 26 => v = .int .i64 (T : Nat)
      | 27 => v = .slice fa (un - T) (uc - T)
      | 28 => v = .bool true
      | 29 => v = .bool true
      | _ => v = .bool true
      ) (by kernel_rfl) (fun _ _ _ h k => Ext.trans h k) (fun a => Ext.refl a) (Ext.drew _) ?_ ?_ ?_
  · intro iop v wa wb hF hL
    iterate 22 (rcases iop with _ | iop; exact hF)
    rcases iop with _ | iop; (first | exact hF | exact Recs.below hF hL)
    iterate 7 (rcases iop with _ | iop; exact hF)
    exact hF
  · refine Obls.cons ?_ (Obls.cons ?_ (Obls.cons ?_ (Obls.cons ?_ (Obls.cons ?_ (Obls.cons ?_ (Obls.cons ?_ (Obls.cons ?_ (Obls.cons ?_ (Obls.cons ?_ (Obls.cons ?_ (Obls.cons ?_ (Obls.cons ?_ (Obls.cons ?_ (Obls.cons ?_ (Obls.cons ?_ (Obls.cons ?_ (Obls.cons ?_ (Obls.cons ?_ (Obls.cons ?_ (Obls.cons ?_ (Obls.cons ?_ (Obls.cons ?_ (Obls.cons ?_ (Obls.cons ?_ (Obls.cons ?_ (Obls.cons ?_ (Obls.cons ?_ (Obls.cons ?_ (Obls.cons ?_ (Obls.cons ?_ (Obls.nil)))))))))))))))))))))))))))))))
    · intro ev wy hp hl hk hd
      have e0 : ev (.tmp 0) = .pointer (some ⟨g, 0, none⟩) := hk 0 (by decide)
      clear hk hd
      exact Yield.mv rfl ⟨Ext.refl _, e0⟩
    · intro ev wy hp hl hk hd
      have e8 : ev (.tmp 8) = .pointer (some ⟨g, 0, none⟩) := hk 8 (by decide)
      clear hk hd
      refine Yield.call rfl hp Tryz.func38 rfl (by kernel_rfl) ?_
      simp only [List.map_toArray, List.map_cons, List.map_nil, e8]
      exact (HL.out wy hl).mono fun _ _ ⟨he, hb⟩ => ⟨_, he, hb, by first | rfl | simp⟩
    · intro ev wy hp hl hk hd
      have e5 : ev (.tmp 5) = .pointer (some ⟨Q, 0, none⟩) := hk 5 (by decide)
      clear hk hd
      exact Yield.op (v := .pointer (some ⟨Q, 0, none⟩)) (w' := wy) (by simp [execOp, go_sem, e5]) ⟨Ext.refl _, rfl⟩
    · intro ev wy hp hl hk hd
      have e10 : ev (.tmp 10) = .pointer (some ⟨Q, 0, none⟩) := hk 10 (by decide)
      clear hk hd
      have hx := heap_ext HW.out.2.2.2.1 hl
      exact Yield.load rfl e10 (by simp [go_sem, cell_of_heap hx 0]) ⟨Ext.refl _, rfl⟩
    · intro ev wy hp hl hk hd
      have e11 : ev (.tmp 11) = .slice ua un uc := hk 11 (by decide)
      clear hk hd
      exact Yield.op (v := .int .i64 (un : Nat)) (w' := wy) (by simp [execOp, go_sem, e11]) ⟨Ext.refl _, rfl⟩
    · intro ev wy hp hl hk hd
      have e9 : ev (.tmp 9) = .int .i64 (un : Nat) := hk 9 (by decide)
      have e12 : ev (.tmp 12) = .int .i64 (un : Nat) := hk 12 (by decide)
      clear hk hd
      exact Yield.op (v := .bool true) (w' := wy) (by simp [execOp, go_sem, e9, e12]) ⟨Ext.refl _, rfl⟩
    · intro ev wy hp hl hk hd
      have e13 : ev (.tmp 13) = .bool true := hk 13 (by decide)
      clear hk hd
      exact Yield.mv rfl ⟨Ext.refl _, e13⟩
    · intro ev wy hp hl hk hd
      have e0 : ev (.tmp 0) = .pointer (some ⟨g, 0, none⟩) := hk 0 (by decide)
      clear hk
      refine ⟨fun _ _ _ => ?_, fun _ hx hne => absurd hx hne⟩
      clear hd
      exact Yield.mv rfl ⟨Ext.refl _, e0⟩
    · intro ev wy hp hl hk hd
      have e15 : ev (.tmp 15) = .pointer (some ⟨g, 0, none⟩) := hk 15 (by decide)
      clear hk
      refine ⟨fun _ _ _ => ?_, fun _ hx hne => absurd hx hne⟩
      clear hd
      refine Yield.call rfl hp Tryz.func39 rfl (by kernel_rfl) ?_
      simp only [List.map_toArray, List.map_cons, List.map_nil, e15]
      exact (HTR.out wy hl).mono fun _ _ ⟨he, hb⟩ => ⟨_, he, hb, by first | rfl | simp⟩
    · intro ev wy hp hl hk hd
      have e5 : ev (.tmp 5) = .pointer (some ⟨Q, 0, none⟩) := hk 5 (by decide)
      clear hk
      refine ⟨fun _ _ _ => ?_, fun _ hx hne => absurd hx hne⟩
      clear hd
      exact Yield.op (v := .pointer (some ⟨Q, 1, none⟩)) (w' := wy) (by simp [execOp, go_sem, e5]) ⟨Ext.refl _, rfl⟩
    · intro ev wy hp hl hk hd
      have e17 : ev (.tmp 17) = .pointer (some ⟨Q, 1, none⟩) := hk 17 (by decide)
      clear hk
      refine ⟨fun _ _ _ => ?_, fun _ hx hne => absurd hx hne⟩
      clear hd
      have hx := heap_ext HW.out.2.2.2.1 hl
      exact Yield.load rfl e17 (by simp [go_sem, cell_of_heap hx 1]) ⟨Ext.refl _, rfl⟩
    · intro ev wy hp hl hk hd
      have e16 : ev (.tmp 16) = .int .i64 (T : Nat) := hk 16 (by decide)
      have e18 : ev (.tmp 18) = .int .i64 (T : Nat) := hk 18 (by decide)
      clear hk
      refine ⟨fun _ _ _ => ?_, fun _ hx hne => absurd hx hne⟩
      clear hd
      exact Yield.op (v := .bool true) (w' := wy) (by simp [execOp, go_sem, e16, e18]) ⟨Ext.refl _, rfl⟩
    · intro ev wy hp hl hk hd
      have e14 : ev (.tmp 14) = .bool true := hk 14 (by decide)
      have e19 : ev (.tmp 19) = .bool true := hk 19 (by decide)
      clear hk hd
      exact Yield.pick (t := true) rfl e14 ⟨Ext.refl _, e19⟩
    · intro ev wy hp hl hk hd
      have e20 : ev (.tmp 20) = .bool true := hk 20 (by decide)
      clear hk hd
      exact Yield.mv rfl ⟨Ext.refl _, e20⟩
    · intro ev wy hp hl hk hd
      have e0 : ev (.tmp 0) = .pointer (some ⟨g, 0, none⟩) := hk 0 (by decide)
      clear hk
      refine ⟨fun _ _ _ => ?_, fun _ hx hne => absurd hx hne⟩
      clear hd
      exact Yield.mv rfl ⟨Ext.refl _, e0⟩
    · intro ev wy hp hl hk hd
      have e22 : ev (.tmp 22) = .pointer (some ⟨g, 0, none⟩) := hk 22 (by decide)
      clear hk
      refine ⟨fun _ _ _ => ?_, fun _ hx hne => absurd hx hne⟩
      clear hd
      refine Yield.call rfl hp Tryz.func43 rfl (by kernel_rfl) ?_
      simp only [List.map_toArray, List.map_cons, List.map_nil, e22]
      exact (HSF.out wy hl).mono fun _ _ ⟨he, hb⟩ => ⟨_, he, hb, by first | rfl | simp⟩
    · intro ev wy hp hl hk hd
      have e3 : ev (.tmp 3) = .pointer (some ⟨P, 0, none⟩) := hk 3 (by decide)
      clear hk
      refine ⟨fun _ _ _ => ?_, fun _ hx hne => absurd hx hne⟩
      clear hd
      exact Yield.op (v := .pointer (some ⟨P, 3, none⟩)) (w' := wy) (by simp [execOp, go_sem, e3]) ⟨Ext.refl _, rfl⟩
    · intro ev wy hp hl hk hd
      have e24 : ev (.tmp 24) = .pointer (some ⟨P, 3, none⟩) := hk 24 (by decide)
      clear hk
      refine ⟨fun _ _ _ => ?_, fun _ hx hne => absurd hx hne⟩
      clear hd
      have hx := heap_ext HW.out.2.2.2.2 hl
      exact Yield.load rfl e24 (by simp [go_sem, cell_of_heap hx 3]) ⟨Ext.refl _, rfl⟩
    · intro ev wy hp hl hk hd
      have e23 : ev (.tmp 23) = .int .i64 s0 := hk 23 (by decide)
      have e25 : ev (.tmp 25) = .int .i64 s0 := hk 25 (by decide)
      clear hk
      refine ⟨fun _ _ _ => ?_, fun _ hx hne => absurd hx hne⟩
      clear hd
      exact Yield.op (v := .bool true) (w' := wy) (by simp [execOp, go_sem, e23, e25]) ⟨Ext.refl _, rfl⟩
    · intro ev wy hp hl hk hd
      have e21 : ev (.tmp 21) = .bool true := hk 21 (by decide)
      have e26 : ev (.tmp 26) = .bool true := hk 26 (by decide)
      clear hk hd
      exact Yield.pick (t := true) rfl e21 ⟨Ext.refl _, e26⟩
    · intro ev wy hp hl hk hd
      have e27 : ev (.tmp 27) = .bool true := hk 27 (by decide)
      clear hk hd
      exact Yield.mv rfl ⟨Ext.refl _, e27⟩
    · intro ev wy hp hl hk hd
      have e0 : ev (.tmp 0) = .pointer (some ⟨g, 0, none⟩) := hk 0 (by decide)
      clear hk
      refine ⟨fun _ _ _ => ?_, fun _ hx hne => absurd hx hne⟩
      clear hd
      exact Yield.mv rfl ⟨Ext.refl _, e0⟩
    · intro ev wy hp hl hk hd
      have e29 : ev (.tmp 29) = .pointer (some ⟨g, 0, none⟩) := hk 29 (by decide)
      clear hk
      refine ⟨fun _ _ _ => ?_, fun _ hx hne => absurd hx hne⟩
      clear hd
      refine Yield.call rfl hp Tryz.func45 rfl (by kernel_rfl) ?_
      simp only [List.map_toArray, List.map_cons, List.map_nil, e29]
      exact (HAL.out wy hl).mono fun _ _ ⟨u, he, hb, hu⟩ => ⟨u, he, hb, hu⟩
    · intro ev wy hp hl hk hd
      have e5 : ev (.tmp 5) = .pointer (some ⟨Q, 0, none⟩) := hk 5 (by decide)
      clear hk
      refine ⟨fun _ _ _ => ?_, fun _ hx hne => absurd hx hne⟩
      clear hd
      exact Yield.op (v := .pointer (some ⟨Q, 0, none⟩)) (w' := wy) (by simp [execOp, go_sem, e5]) ⟨Ext.refl _, rfl⟩
    · intro ev wy hp hl hk hd
      have e31 : ev (.tmp 31) = .pointer (some ⟨Q, 0, none⟩) := hk 31 (by decide)
      clear hk
      refine ⟨fun _ _ _ => ?_, fun _ hx hne => absurd hx hne⟩
      clear hd
      have hx := heap_ext HW.out.2.2.2.1 hl
      exact Yield.load rfl e31 (by simp [go_sem, cell_of_heap hx 0]) ⟨Ext.refl _, rfl⟩
    · intro ev wy hp hl hk hd
      have e5 : ev (.tmp 5) = .pointer (some ⟨Q, 0, none⟩) := hk 5 (by decide)
      clear hk
      refine ⟨fun _ _ _ => ?_, fun _ hx hne => absurd hx hne⟩
      clear hd
      exact Yield.op (v := .pointer (some ⟨Q, 1, none⟩)) (w' := wy) (by simp [execOp, go_sem, e5]) ⟨Ext.refl _, rfl⟩
    · intro ev wy hp hl hk hd
      have e33 : ev (.tmp 33) = .pointer (some ⟨Q, 1, none⟩) := hk 33 (by decide)
      clear hk
      refine ⟨fun _ _ _ => ?_, fun _ hx hne => absurd hx hne⟩
      clear hd
      have hx := heap_ext HW.out.2.2.2.1 hl
      exact Yield.load rfl e33 (by simp [go_sem, cell_of_heap hx 1]) ⟨Ext.refl _, rfl⟩
    · intro ev wy hp hl hk hd
      have e32 : ev (.tmp 32) = .slice ua un uc := hk 32 (by decide)
      have e34 : ev (.tmp 34) = .int .i64 (T : Nat) := hk 34 (by decide)
      clear hk
      refine ⟨fun _ _ _ => ?_, fun _ hx hne => absurd hx hne⟩
      clear hd
      exact Yield.slice rfl e32 (by simp only [Option.map_some, Option.map_none, e34]; exact HSL.out wy) ⟨Ext.refl _, rfl⟩
    · intro ev wy hp hl hk hd
      have f30 : (fun (v : Value) (w : World) => Recs w v (G.w.l.drop T)) (ev (.tmp 30)) wy := hk 30 (by decide)
      generalize hx30 : ev (.tmp 30) = x30 at *
      have e35 : ev (.tmp 35) = .slice fa (un - T) (uc - T) := hk 35 (by decide)
      clear hk
      refine ⟨fun _ _ _ => ?_, fun _ hx hne => absurd hx hne⟩
      clear hd
      refine Yield.call rfl hp Tryz.func44 rfl (by kernel_rfl) ?_
      simp only [List.map_toArray, List.map_cons, List.map_nil, hx30, e35]
      exact (refSameAll9 x30 (.slice fa (un - T) (uc - T)) (G.w.l.drop T) wy f30 (HFR.out.below hl)).mono fun _ _ ⟨he, hb⟩ => ⟨_, he, hb, by first | rfl | simp⟩
    · intro ev wy hp hl hk hd
      have e28 : ev (.tmp 28) = .bool true := hk 28 (by decide)
      have e36 : ev (.tmp 36) = .bool true := hk 36 (by decide)
      clear hk hd
      exact Yield.pick (t := true) rfl e28 ⟨Ext.refl _, e36⟩
    · intro ev wy hp hl hk hd
      have e37 : ev (.tmp 37) = .bool true := hk 37 (by decide)
      clear hk hd
      exact Yield.as rfl ⟨Ext.refl _, e37⟩
  · intro vals wz hz hv
    have g8 : vals 0 = .pointer (some ⟨g, 0, none⟩) := hv 0 (by decide)
    have g9 : vals 1 = .int .i64 (un : Nat) := hv 1 (by decide)
    have g10 : vals 2 = .pointer (some ⟨Q, 0, none⟩) := hv 2 (by decide)
    have g11 : vals 3 = .slice ua un uc := hv 3 (by decide)
    have g12 : vals 4 = .int .i64 (un : Nat) := hv 4 (by decide)
    have g13 : vals 5 = .bool true := hv 5 (by decide)
    have g14 : vals 6 = .bool true := hv 6 (by decide)
    have g15 : vals 7 = .pointer (some ⟨g, 0, none⟩) := hv 7 (by decide)
    have g16 : vals 8 = .int .i64 (T : Nat) := hv 8 (by decide)
    have g17 : vals 9 = .pointer (some ⟨Q, 1, none⟩) := hv 9 (by decide)
    have g18 : vals 10 = .int .i64 (T : Nat) := hv 10 (by decide)
    have g19 : vals 11 = .bool true := hv 11 (by decide)
    have g20 : vals 12 = .bool true := hv 12 (by decide)
    have g21 : vals 13 = .bool true := hv 13 (by decide)
    have g22 : vals 14 = .pointer (some ⟨g, 0, none⟩) := hv 14 (by decide)
    have g23 : vals 15 = .int .i64 s0 := hv 15 (by decide)
    have g24 : vals 16 = .pointer (some ⟨P, 3, none⟩) := hv 16 (by decide)
    have g25 : vals 17 = .int .i64 s0 := hv 17 (by decide)
    have g26 : vals 18 = .bool true := hv 18 (by decide)
    have g27 : vals 19 = .bool true := hv 19 (by decide)
    have g28 : vals 20 = .bool true := hv 20 (by decide)
    have g29 : vals 21 = .pointer (some ⟨g, 0, none⟩) := hv 21 (by decide)
    have g30 : (fun (v : Value) (w : World) => Recs w v (G.w.l.drop T)) (vals 22) wz := hv 22 (by decide)
    have g31 : vals 23 = .pointer (some ⟨Q, 0, none⟩) := hv 23 (by decide)
    have g32 : vals 24 = .slice ua un uc := hv 24 (by decide)
    have g33 : vals 25 = .pointer (some ⟨Q, 1, none⟩) := hv 25 (by decide)
    have g34 : vals 26 = .int .i64 (T : Nat) := hv 26 (by decide)
    have g35 : vals 27 = .slice fa (un - T) (uc - T) := hv 27 (by decide)
    have g36 : vals 28 = .bool true := hv 28 (by decide)
    have g37 : vals 29 = .bool true := hv 29 (by decide)
    have g4 : vals 30 = .bool true := hv 30 (by decide)
    clear hv
    simp only [putAll, Act.put, List.setIfInBounds_toArray, List.set_cons_zero, List.set_cons_succ, g8, g9, g10, g11, g12, g13, g14, g15, g16, g17, g18, g19, g20, g21, g22, g23, g24, g25, g26, g27, g28, g29, g31, g32, g33, g34, g35, g36, g37, g4]
    clear g8
    clear g9
    clear g10
    clear g11
    clear g12
    clear g13
    clear g14
    clear g15
    clear g16
    clear g17
    clear g18
    clear g19
    clear g20
    clear g21
    clear g22
    clear g23
    clear g24
    clear g25
    clear g26
    clear g27
    clear g28
    clear g29
    generalize vals 22 = v30 at *
    clear g31
    clear g32
    clear g33
    clear g34
    clear g35
    clear g36
    clear g37
    clear g4
    have hfin := HW.out.2.2.1.trans hz
    clear hz g30
    go_wp2_with fail
    go_ret
    exact ⟨rfl, hfin⟩
end Go.Proofs.YtfgjhagfpafmoaaGreat
