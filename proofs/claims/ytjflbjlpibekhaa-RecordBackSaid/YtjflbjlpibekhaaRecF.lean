/-
  Layer 4, the program: one record, or two.
-/
import Derived.Test.YtjflbjlpibekhaaRecE
namespace Go.Proofs.Ytjflbjlpibekhaa
set_option maxRecDepth 100000
open Go.RowKit

theorem bytes_eq (a b : List UInt8) : ((⟨a.toArray⟩ : ByteArray) = ⟨b.toArray⟩) ↔ a = b := by
  constructor
  · intro h
    have := congrArg (fun x => x.data.toList) h
    simpa using this
  · rintro rfl; rfl
set_option maxHeartbeats 2000000 in
theorem same4_any (v u : Value) (a b : Rec.R) (w : World) (hv : IsRec w v a) (hu : IsRec w u b) :
    Calls Try.prog 21 #[v, u] w fun e w' => e = .returned (.bool (Rec.same a b)) ∧ Ext w w' := by
  have hbx := box_rec
  obtain ⟨t, rfl, ht⟩ := hv
  obtain ⟨t2, rfl, ht2⟩ := hu
  obtain ⟨c, n, ts, d⟩ := a
  obtain ⟨c2, n2, ts2, d2⟩ := b
  unfold recV at *
  simp only at ht ht2 ⊢
  obtain ⟨a1, cap1, rfl, hcap1, hmax1, _, _⟩ := ht.open
  obtain ⟨a2, cap2, rfl, hcap2, hmax2, _, _⟩ := ht2.open
  unfold maxLen at hmax1 hmax2
  have HT := Lib.hid ht
  have HT2 := Lib.hid ht2
  clear ht ht2
  have hE : Ext w ((w.alloc (.cells #[.int .i64 c, .int .i64 n, .slice a1 ts.length cap1, .string ⟨d.toArray⟩] 26)).alloc (.cells #[.int .i64 c2, .int .i64 n2, .slice a2 ts2.length cap2, .string ⟨d2.toArray⟩] 26)) := ext_two _ _ _
  have HH := Lib.hid (heap_two w (.cells #[.int .i64 c, .int .i64 n, .slice a1 ts.length cap1, .string ⟨d.toArray⟩] 26) (.cells #[.int .i64 c2, .int .i64 n2, .slice a2 ts2.length cap2, .string ⟨d2.toArray⟩] 26))
  by_cases h1 : c = c2
  · subst h1
    by_cases h2 : n = n2
    · subst h2
      have e0 := Lib.hid (show Rec.same ⟨c, n, ts, d⟩ ⟨c, n, ts2, d2⟩ = ((ts == ts2) && (d == d2)) by unfold Rec.same; simp)
      cases h3 : (ts == ts2) with
      | false =>
        rw [h3] at e0
        have H3 := Lib.hid h3
        clear h3
        go_enter Try.func21, Try.ntmps21
        go_wp2_with fail
        refine (equalS_any _ _ ts ts2 _ (HT.out.below hE) (HT2.out.below hE)).mono ?_
        rw [H3.out]
        rintro e w3 ⟨rfl, hE3⟩
        go_wp2_with fail
        go_ret
        exact ⟨by rw [e0.out]; rfl, hE.trans hE3⟩
      | true =>
        rw [h3] at e0
        have H3 := Lib.hid h3
        have hd := bytes_eq d d2
        clear h3
        go_enter Try.func21, Try.ntmps21
        go_wp2_with fail
        refine (equalS_any _ _ ts ts2 _ (HT.out.below hE) (HT2.out.below hE)).mono ?_
        rw [H3.out]
        rintro e w3 ⟨rfl, hE3⟩
        have z1 := cell_of_heap (heap_ext HH.out.1 hE3) 3
        have z2 := cell_of_heap (heap_ext HH.out.2 hE3) 3
        simp at z1 z2
        go_wp2_with fail
        go_ret
        exact ⟨by rw [e0.out]; rfl, hE.trans hE3⟩
    · have e := Lib.hid (show Rec.same ⟨c, n, ts, d⟩ ⟨c, n2, ts2, d2⟩ = false by unfold Rec.same; simp [h2])
      go_enter Try.func21, Try.ntmps21
      go_wp2_with fail
      go_ret
      exact ⟨by rw [e.out]; rfl, hE⟩
  · have e := Lib.hid (show Rec.same ⟨c, n, ts, d⟩ ⟨c2, n2, ts2, d2⟩ = false by unfold Rec.same; simp [h1])
    go_enter Try.func21, Try.ntmps21
    go_wp2_with fail
    go_ret
    exact ⟨by rw [e.out]; rfl, hE⟩

set_option maxHeartbeats 4000000 in
theorem refSame4_any (v u : Value) (a b : Rec.R) (w : World) (hv : IsRec w v a) (hu : IsRec w u b) :
    Calls Try.prog 18 #[v, u] w fun e w' => e = .returned (.bool (Rec.same a b)) ∧ Ext w w' := by
  have hbx := box_rec
  obtain ⟨t, rfl, ht⟩ := hv
  obtain ⟨t2, rfl, ht2⟩ := hu
  obtain ⟨c, n, ts, d⟩ := a
  obtain ⟨c2, n2, ts2, d2⟩ := b
  unfold recV at *
  simp only at ht ht2 ⊢
  obtain ⟨a1, cap1, rfl, hcap1, hmax1, _, _⟩ := ht.open
  obtain ⟨a2, cap2, rfl, hcap2, hmax2, _, _⟩ := ht2.open
  unfold maxLen at hmax1 hmax2
  have HT := Lib.hid ht
  have HT2 := Lib.hid ht2
  clear ht ht2
  have hE : Ext w ((w.alloc (.cells #[.int .i64 c, .int .i64 n, .slice a1 ts.length cap1, .string ⟨d.toArray⟩] 26)).alloc (.cells #[.int .i64 c2, .int .i64 n2, .slice a2 ts2.length cap2, .string ⟨d2.toArray⟩] 26)) := ext_two _ _ _
  have HH := Lib.hid (heap_two w (.cells #[.int .i64 c, .int .i64 n, .slice a1 ts.length cap1, .string ⟨d.toArray⟩] 26) (.cells #[.int .i64 c2, .int .i64 n2, .slice a2 ts2.length cap2, .string ⟨d2.toArray⟩] 26))
  by_cases h1 : c = c2
  · subst h1
    by_cases h2 : n = n2
    · subst h2
      by_cases h3 : d = d2
      · subst h3
        by_cases h4 : ts.length = ts2.length
        · have e0 := Lib.hid (show Rec.same ⟨c, n, ts, d⟩ ⟨c, n, ts2, d⟩ = (ts == ts2) by unfold Rec.same; simp)
          have h4' : ((ts.length : Int) == (ts2.length : Int)) = true := by rw [h4]; simp
          have HL := Lib.hid h4
          clear h4
          go_enter Try.func18, Try.ntmps18
          go_wp2_with fail
          go_loopw [5] (fun i wr => ∃ k : Nat, k ≤ ts.length ∧ i = .int .i64 k ∧ Hid (∀ i, i < k → ∀ (h1 : i < ts.length) (h2 : i < ts2.length), ts[i] = ts2[i]) ∧ Ext ((w.alloc (.cells #[.int .i64 c, .int .i64 n, .slice a1 ts.length cap1, .string ⟨d.toArray⟩] 26)).alloc (.cells #[.int .i64 c, .int .i64 n, .slice a2 ts2.length cap2, .string ⟨d.toArray⟩] 26)) wr) (fun i _ => ts.length - (intOf i).toNat)
          case atStart => exact ⟨0, by omega, rfl, fun i hi => absurd hi (by omega), Ext.refl _⟩
          case round =>
            obtain ⟨k, hk, rfl, hr, hE3⟩ := hrel
            have y1 := cell_of_heap (heap_ext HH.out.1 hE3) 2
            simp at y1
            by_cases hlt : k < ts.length
            · have hlt2 : k < ts2.length := by have := HL.out; omega
              obtain ⟨a', cap', e', _, _, _, hc⟩ := ((HT.out.below (hE.trans hE3)).below (Ext.drew wr)).open
              obtain ⟨b, off, rfl, hcell⟩ := hc k hlt
              injection e' with e1 e2 e3
              subst e1
              obtain ⟨a3, cap3, e', _, _, _, hc2⟩ := ((HT2.out.below (hE.trans hE3)).below (Ext.drew wr)).open
              obtain ⟨b2, off2, rfl, hcell2⟩ := hc2 k hlt2
              injection e' with e4 e5 e6
              subst e4
              clear hc hc2 e2 e3 e5 e6
              have z1 := cell_of_heap (heap_ext HH.out.1 (hE3.trans (Ext.drew wr))) 2
              have z2 := cell_of_heap (heap_ext HH.out.2 (hE3.trans (Ext.drew wr))) 2
              simp at z1 z2
              by_cases h0 : ts[k] = ts2[k]
              · have h0' : (ts[k] == ts2[k]) = true := by rw [h0]; simp
                have H0 := Lib.hid h0
                clear h0
                go_wp2_with fail
                go_region
                all_goals
                  go_wp2
                  go_roundw
                  case rel =>
                    refine ⟨k + 1, by omega, by go_num, fun i hi h1 h2 => ?_, hE3.trans (Ext.drew _)⟩
                    rcases Nat.lt_or_ge i k with h | h
                    · exact hr.out i h h1 h2
                    · obtain rfl : i = k := by omega
                      exact H0.out
                  case measure => simp [intOf]; omega
              · have h0' : (ts[k] == ts2[k]) = false := by rw [beq_eq_false_iff_ne]; exact h0
                have H0 := Lib.hid (list_ne k hlt hlt2 h0)
                clear h0
                go_wp2_with fail
                go_region
                all_goals
                  go_wp2
                  go_ret
                  exact ⟨by rw [e0.out, H0.out]; rfl, hE.trans (hE3.trans (Ext.drew _))⟩
            · have hs := Lib.hid (list_same HL.out (fun i h => hr.out i (by omega)))
              clear hr
              go_wp2
              go_ret
              exact ⟨by rw [e0.out, hs.out]; rfl, hE.trans hE3⟩
        · have e := Lib.hid (show Rec.same ⟨c, n, ts, d⟩ ⟨c, n, ts2, d⟩ = false by unfold Rec.same; rw [list_other h4]; simp)
          have h4' : ((ts.length : Int) == (ts2.length : Int)) = false := by rw [beq_eq_false_iff_ne]; omega
          go_enter Try.func18, Try.ntmps18
          go_wp2_with fail
          go_ret
          exact ⟨by rw [e.out]; rfl, hE⟩
      · have e := Lib.hid (show Rec.same ⟨c, n, ts, d⟩ ⟨c, n, ts2, d2⟩ = false by unfold Rec.same; simp [h3])
        have h3' : (d == d2) = false := beq_eq_false_iff_ne.2 h3
        go_enter Try.func18, Try.ntmps18
        go_wp2_with fail
        go_ret
        exact ⟨by rw [e.out]; rfl, hE⟩
    · have e := Lib.hid (show Rec.same ⟨c, n, ts, d⟩ ⟨c, n2, ts2, d2⟩ = false by unfold Rec.same; simp [h2])
      go_enter Try.func18, Try.ntmps18
      go_wp2_with fail
      go_ret
      exact ⟨by rw [e.out]; rfl, hE⟩
  · have e := Lib.hid (show Rec.same ⟨c, n, ts, d⟩ ⟨c2, n2, ts2, d2⟩ = false by unfold Rec.same; simp [h1])
    go_enter Try.func18, Try.ntmps18
    go_wp2_with fail
    go_ret
    exact ⟨by rw [e.out]; rfl, hE⟩
end Go.Proofs.Ytjflbjlpibekhaa
