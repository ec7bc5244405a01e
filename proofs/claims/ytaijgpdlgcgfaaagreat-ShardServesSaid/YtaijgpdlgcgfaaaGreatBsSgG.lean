/-
  Merged: Layer 9: Append.
-/
import Derived.Test.YtaijgpdlgcgfaaaGreatBsSgG0

namespace Go.Proofs.YtaijgpdlgcgfaaaGreat
set_option linter.unusedSimpArgs false
set_option linter.unusedVariables false
set_option maxRecDepth 100000
open Go.RowKit
/- Layer 9: Append. -/
set_option maxHeartbeats 40000000 in
theorem append9S {w : World} {B g p : Nat} {S : Nat → Prop} {va vp lv : Value} {ps : List (Value × Rec.R)} {G : Seg.Sg} (h : IsSegS w B S g p va vp lv ps G) (hU : ∀ k, S k → k < w.heap.size) (n : Int) (hn : -9223372036854775808 ≤ n ∧ n ≤ 9223372036854775807) (v : Value) (r : Rec.R) (hv : ∀ w', TwS S w w' → IsRec w' v r) :
    Calls Tryz.prog 54 #[.pointer (some ⟨g, 0, none⟩), .int .i64 n, v] w (GivesSegS B S g p ps w (G.app n r) (G.appErr n r)) := by
  obtain ⟨hgood, hcnt⟩ := h.good
  have H := Lib.hid h
  have HV := Lib.hid hv
  obtain ⟨t, rfl, ht⟩ := hv w (TwS.ext (Ext.refl _))
  obtain ⟨ta, tn, tc, rfl⟩ : ∃ ta tn tc, t = .slice ta tn tc := by
    obtain ⟨a, c, e, _⟩ := ht.open
    exact ⟨a, _, c, e⟩
  have hB : B ≤ w.heap.size := h.base
  obtain ⟨L, hL⟩ : ∃ L, G.w.l.length = L := ⟨_, rfl⟩
  obtain ⟨T, hT⟩ : ∃ T, G.w.trimmed = T := ⟨_, rfl⟩
  obtain ⟨b, hb⟩ : ∃ b, G.w.broken = b := ⟨_, rfl⟩
  have HL := Lib.hid (And.intro hL (And.intro hT hb))
  rw [hL] at hgood hcnt
  rw [hT] at hgood
  have hcase : G.case n r = if n < 0 ∨ Rec.right r = false then .bad else if n < (L : Int) then (if n < (T : Int) then .there else if Rec.same (G.w.l.getD n.toNat Seg.zeroR) r then .there else .other) else if (L : Int) < n then .above else if b = true ∨ 512 ≤ L then .full else .next := by
    unfold Seg.Sg.case Seg.Sg.len
    rw [hL, hT, hb]
  have HCASE := Lib.hid hcase
  obtain ⟨w1, hw1⟩ : ∃ w1, w.alloc (.cells #[.int .i64 r.client, .int .i64 r.number, .slice ta tn tc, .string ⟨r.data.toArray⟩] 27) = w1 := ⟨_, rfl⟩
  have hE1 : Ext w w1 := by rw [← hw1]; exact Ext.alloc _ _
  have hx1 : w1.heap[w.heap.size]? = some (.cells #[.int .i64 r.client, .int .i64 r.number, .slice ta tn tc, .string ⟨r.data.toArray⟩] 27 (0, 0)) := by rw [← hw1]; exact heap_alloc_new _ _
  have HW1 := Lib.hid hw1
  have H1 := Lib.hid (h.ext hE1)
  have HV1 := Lib.hid (HV.out w1 (TwS.ext hE1))
  have HX1 := Lib.hid hx1
  have HE1 := Lib.hid hE1
  obtain ⟨X, hX⟩ : ∃ X, w.heap.size = X := ⟨_, rfl⟩
  have HX := Lib.hid hX
  rw [hX] at HX1 hx1
  simp only [recV] at HV HV1 ⊢
  obtain ⟨q0, hq0⟩ : ∃ q : Int, r.client = q := ⟨_, rfl⟩
  obtain ⟨q1, hq1⟩ : ∃ q : Int, r.number = q := ⟨_, rfl⟩
  obtain ⟨q3, hq3⟩ : ∃ q : ByteArray, (⟨r.data.toArray⟩ : ByteArray) = q := ⟨_, rfl⟩
  rw [hq0, hq1, hq3] at HV HV1 HX1 HW1 hx1
  rw [hq0, hq1, hq3]
  have HQ := Lib.hid (And.intro hq0 (And.intro hq1 hq3))
  have x0 : w1.cell? ⟨X, 0, none⟩ = some (.int .i64 q0) := cell_of_heap hx1 0
  have x1 : w1.cell? ⟨X, 1, none⟩ = some (.int .i64 q1) := cell_of_heap hx1 1
  have x2 : w1.cell? ⟨X, 2, none⟩ = some (.slice ta tn tc) := cell_of_heap hx1 2
  have x3 : w1.cell? ⟨X, 3, none⟩ = some (.string q3) := cell_of_heap hx1 3
  have hend0 : ∀ (w' : World) (c : Seg.Case) (er : Int), G.case n r = c → (match c with | .next => False | _ => True) → (G.appErr n r = er) → Ext w w' → GivesSegS B S g p ps w (G.app n r) (G.appErr n r) (.returned (.int .i64 er)) w' := by
    intro w' c er hc hne her hE
    have ea : G.app n r = G := by
      unfold Seg.Sg.app
      rw [hc]
      cases c <;> first | rfl | exact hne.elim
    rw [ea]
    exact ⟨by rw [her], ⟨va, vp, lv, ps, H.out.later hE, TagsNew.refl _ _⟩, TwS.ext hE, K9.ext hE⟩
  have HEND := Lib.hid hend0
  have herr : ∀ c, G.case n r = c → G.appErr n r = (match c with | .bad => 1 | .there => 0 | .other => 1 | .above => 91 | .full => 90 | .next => G.s.appendErr (Seg.recFrame r)) := by
    intro c hc
    unfold Seg.Sg.appErr
    rw [hc]
    cases c <;> rfl
  have HERR := Lib.hid herr
  have hlen : ∀ w', Ext w w' → Calls Tryz.prog 92 #[.pointer (some ⟨g, 0, none⟩)] w' fun e w'' => e = .returned (.int .i64 (L : Nat)) ∧ Ext w' w'' := fun w' hE => by
    rw [← hL]
    exact seglen_any (h.seg.ext hE) (by rw [hT, hL]; exact hgood) (by rw [hL]; omega)
  have HLEN := Lib.hid hlen
  clear ht hv h hw1 hE1 hx1 hX hL hT hb hcase hend0 herr hq0 hq1 hq3 hlen
  by_cases hneg : n < 0
  · have hc : G.case n r = .bad := by rw [HCASE.out, if_pos (.inl hneg)]
    have HC := Lib.hid hc
    clear hc
    go_enter Tryz.func54, Tryz.ntmps54
    go_wp2_with fail
    go_ret
    rw [HW1.out]
    exact HEND.out w1 .bad 1 HC.out trivial (HERR.out _ HC.out) HE1.out
  · go_enter Tryz.func54, Tryz.ntmps54
    go_upto_region 1 with fail
    rw [HW1.out, HX.out]
    go_wp2_with fail
    refine (right4_any _ r w1 HV1.out).mono ?_
    rintro e w2 ⟨rfl, hE2⟩
    have HE2 := Lib.hid (HE1.out.trans hE2)
    have HX2 := Lib.hid (heap_ext HX1.out hE2)
    clear x0 x1 x2 x3 hE2
    cases hr : Rec.right r with
    | false =>
      have hc : G.case n r = .bad := by rw [HCASE.out, if_pos (.inr hr)]
      have HC := Lib.hid hc
      clear hc hr
      go_wp2_with fail
      go_ret
      exact HEND.out w2 .bad 1 HC.out trivial (HERR.out _ HC.out) HE2.out
    | true =>
      have hcs := HCASE.out
      rw [if_neg (by rintro (h | h); omega; rw [hr] at h; cases h)] at hcs
      have HCS := Lib.hid hcs
      have HR := Lib.hid hr
      have c1 : w2.cell? ⟨g, 1, none⟩ = some (.int .i64 (T : Nat)) := by rw [← HL.out.2.1]; exact cell_of_heap (heap_ext H.out.seg.heap HE2.out) 1
      clear hcs hr
      by_cases hnt : n < (T : Int)
      · have hc : G.case n r = .there := by rw [HCS.out, if_pos (by omega), if_pos hnt]
        have HC := Lib.hid hc
        clear hc
        go_wp2_with fail
        go_ret
        exact HEND.out w2 .there 0 HC.out trivial (HERR.out _ HC.out) HE2.out
      · go_wp2_with fail
        refine (HLEN.out w2 HE2.out).mono ?_
        rintro e w3 ⟨rfl, hE3⟩
        have HE3 := Lib.hid (HE2.out.trans hE3)
        have HX3 := Lib.hid (heap_ext HX2.out hE3)
        clear c1 hE3
        by_cases hnl : n < (L : Int)
        · obtain ⟨i, hi⟩ : ∃ i : Nat, n - (T : Int) = (i : Int) := ⟨(n - (T : Int)).toNat, by omega⟩
          have hwi : IntKind.i64.wrap (i : Int) = (i : Int) := IntWalk.i64_in _ (by omega)
          have hseg3 := H.out.seg.ext (HE3.out.trans (Ext.drew w3))
          have hpl := hseg3.len
          rw [HL.out.1, HL.out.2.1] at hpl
          obtain ⟨la, lc, rfl, hlc, hlm, _⟩ := hseg3.open
          have hrec := hseg3.recsAt
          obtain ⟨_, _, e1, _, _, _, hcell⟩ := hrec
          have hil : i < (ps.map (·.2)).length := by rw [List.length_map]; omega
          obtain ⟨lb, lo, rfl, t9, p0, p1, p2, p3, ht9⟩ := hcell i hil
          injection e1 with e1 e2 e3
          subst e1
          clear e2 e3
          have hel : (ps.map (·.2))[i] = G.w.l.getD n.toNat Seg.zeroR := by
            have e0 := H.out.seg.recs
            have h1 : (ps.map (·.2))[i]? = (G.w.l.drop T)[i]? := by rw [e0, HL.out.2.1]
            rw [List.getElem?_eq_getElem hil, List.getElem?_drop] at h1
            have h2 : T + i = n.toNat := by omega
            rw [h2] at h1
            rw [List.getD_eq_getElem?_getD, ← h1]
            rfl
          obtain ⟨R9, hR9⟩ : ∃ R, (ps.map (·.2))[i] = R := ⟨_, rfl⟩
          rw [hR9] at p0 p1 p3 ht9 hel
          have HEL := Lib.hid hel
          obtain ⟨ta9, tn9, tc9, rfl⟩ : ∃ x y z, t9 = .slice x y z := by
            obtain ⟨a, c, e, _⟩ := ht9.open
            exact ⟨a, _, c, e⟩
          have hsame := same4_any (recV (.slice ta9 tn9 tc9) R9) _ R9 r w3.drew ⟨_, rfl, ht9⟩ (HV.out _ (TwS.ext (HE3.out.trans (Ext.drew w3))))
          simp only [recV] at hsame
          obtain ⟨y0, hy0⟩ : ∃ q : Int, R9.client = q := ⟨_, rfl⟩
          obtain ⟨y1, hy1⟩ : ∃ q : Int, R9.number = q := ⟨_, rfl⟩
          obtain ⟨y3, hy3⟩ : ∃ q : ByteArray, (⟨R9.data.toArray⟩ : ByteArray) = q := ⟨_, rfl⟩
          rw [hy0] at p0 hsame
          rw [hy1] at p1 hsame
          rw [hy3] at p3 hsame
          have HSM := Lib.hid hsame
          have c1 : w3.drew.cell? ⟨g, 1, none⟩ = some (.int .i64 (T : Nat)) := by rw [← HL.out.2.1]; exact cell_of_heap hseg3.heap 1
          obtain ⟨N, hN⟩ : ∃ N, ps.length = N := ⟨_, rfl⟩
          have c2 : w3.drew.cell? ⟨g, 2, none⟩ = some (.slice (some ⟨lb, lo, none⟩) N lc) := by rw [← hN]; exact cell_of_heap hseg3.heap 2
          rw [hN] at hpl hlc
          have hiN : i < N := by rw [List.length_map, hN] at hil; exact hil
          have hX3 := heap_ext HX3.out (Ext.drew w3)
          have x0 : w3.drew.cell? ⟨X, 0, none⟩ = some (.int .i64 q0) := cell_of_heap hX3 0
          have x1 : w3.drew.cell? ⟨X, 1, none⟩ = some (.int .i64 q1) := cell_of_heap hX3 1
          have x2 : w3.drew.cell? ⟨X, 2, none⟩ = some (.slice ta tn tc) := cell_of_heap hX3 2
          have x3 : w3.drew.cell? ⟨X, 3, none⟩ = some (.string q3) := cell_of_heap hX3 3
          have HPL := Lib.hid hpl
          have HHD := Lib.hid (Ext.drew w3)
          clear hsame hy0 hy1 hy3 hseg3 hcell hil hel hR9 ht9 hX3 hpl hN
          obtain ⟨sm, hsm⟩ : ∃ sm, Rec.same R9 r = sm := ⟨_, rfl⟩
          rw [hsm] at HSM
          have HS9 := Lib.hid hsm
          clear hsm
          go_wp2_with fail
          go_region_law (go_simp; go_at_call 57; refine HSM.out.mono ?_; rintro e w4 ⟨rfl, hE4⟩)
          all_goals
            have HE4 := Lib.hid ((HE3.out.trans (Ext.drew w3)).trans hE4)
            clear x0 x1 x2 x3 c1 c2 p0 p1 p2 p3 hE4
            cases sm with
            | true =>
              have HC := Lib.hid (show G.case n r = .there by rw [HCS.out, if_pos (by omega), if_neg (by omega), ← HEL.out, if_pos HS9.out])
              go_wp2_with fail
              go_ret
              exact HEND.out _ .there 0 HC.out trivial (HERR.out _ HC.out) HE4.out
            | false =>
              have HC := Lib.hid (show G.case n r = .other by rw [HCS.out, if_pos (by omega), if_neg (by omega), ← HEL.out, if_neg (by rw [HS9.out]; decide)])
              go_wp2_with fail
              go_ret
              exact HEND.out _ .other 1 HC.out trivial (HERR.out _ HC.out) HE4.out
        · go_wp2_with fail
          refine (HLEN.out w3 HE3.out).mono ?_
          rintro e w4 ⟨rfl, hE4⟩
          have HE4 := Lib.hid (HE3.out.trans hE4)
          have HX4 := Lib.hid (heap_ext HX3.out hE4)
          clear hE4
          by_cases hgt : (L : Int) < n
          · have hc : G.case n r = .above := by rw [HCS.out, if_neg (by omega), if_pos (by omega)]
            have HC := Lib.hid hc
            clear hc
            go_wp2_with fail
            go_ret
            exact HEND.out w4 .above 91 HC.out trivial (HERR.out _ HC.out) HE4.out
          · have c4 : w4.cell? ⟨g, 4, none⟩ = some (.bool b) := by rw [← HL.out.2.2]; exact cell_of_heap (heap_ext H.out.seg.heap HE4.out) 4
            have hfull : b = true ∨ 512 ≤ L → G.case n r = .full := fun h => by rw [HCS.out, if_neg (by omega), if_neg (by omega), if_pos h]
            have hnext : ¬ (b = true ∨ 512 ≤ L) → G.case n r = .next := fun h => by rw [HCS.out, if_neg (by omega), if_neg (by omega), if_neg h]
            have HFULL := Lib.hid hfull
            have HNEXT := Lib.hid hnext
            clear hfull hnext
            cases b with
            | true =>
              have HC := Lib.hid (HFULL.out (.inl rfl))
              go_wp2_with fail
              go_ret
              exact HEND.out w4 .full 90 HC.out trivial (HERR.out _ HC.out) HE4.out
            | false =>
              go_wp2_with fail
              refine (HLEN.out w4 HE4.out).mono ?_
              rintro e w5 ⟨rfl, hE5⟩
              have HE5 := Lib.hid (HE4.out.trans hE5)
              have HX5 := Lib.hid (heap_ext HX4.out hE5)
              clear hE5 c4
              by_cases h512 : 512 ≤ L
              · have HC := Lib.hid (HFULL.out (.inr h512))
                go_wp2_with fail
                go_ret
                exact HEND.out w5 .full 90 HC.out trivial (HERR.out _ HC.out) HE5.out
              · have HC := Lib.hid (HNEXT.out (by simp; omega))
                have x0 : w5.cell? ⟨X, 0, none⟩ = some (.int .i64 q0) := cell_of_heap HX5.out 0
                have x1 : w5.cell? ⟨X, 1, none⟩ = some (.int .i64 q1) := cell_of_heap HX5.out 1
                have x2 : w5.cell? ⟨X, 2, none⟩ = some (.slice ta tn tc) := cell_of_heap HX5.out 2
                have x3 : w5.cell? ⟨X, 3, none⟩ = some (.string q3) := cell_of_heap HX5.out 3
                have HNX := Lib.hid (Seg.app_next HC.out)
                go_wp2_with fail
                have henc := encode4_any _ r w5 (HV.out _ (TwS.ext HE5.out))
                unfold GivesEnc4 at henc
                rw [HR.out] at henc
                refine henc.mono ?_
                clear henc
                rintro e w6 ⟨u, rfl, hu, hE6⟩
                simp only [recErr_true]
                have hu2 : Bytes w6 u (Rec.enc r) := hu
                obtain ⟨ua, un, uc, rfl⟩ := hu2.isSlice
                have hel := Rec.enc_le HR.out
                have HU := Lib.hid hu2
                have HE6 := Lib.hid (HE5.out.trans hE6)
                have HX6 := Lib.hid (heap_ext HX5.out hE6)
                have hg6 : w6.heap[g]? = _ := heap_ext H.out.seg.heap HE6.out
                have hEd := Ext.drew w6
                have hEl := Ext.alloc w6 (.cells #[.int .u8 1] 5)
                have g0a : w6.drew.cell? ⟨g, 0, none⟩ = some (.pointer (some ⟨p, 0, none⟩)) := cell_of_heap (heap_ext hg6 hEd) 0
                have g0b : (w6.alloc (.cells #[.int .u8 1] 5)).cell? ⟨g, 0, none⟩ = some (.pointer (some ⟨p, 0, none⟩)) := cell_of_heap (heap_ext hg6 hEl) 0
                have hown6 : (w6.drew.alloc (.cells #[.int .u8 1] 5)).ownsRow w6.heap.size 5 1 (.slice (some ⟨w6.heap.size, 0, none⟩) 1 1) 1 (u8s [1]) := World.ownsRow_lit w6.drew #[.int .u8 1] 1 (Nat.le_refl _) (by simp [maxLen]) rfl
                have hsl6 : Sl (w6.drew.alloc (.cells #[.int .u8 1] 5)) (.slice ua un uc) (u8s (Rec.enc r)) := hu2.below (hEd.trans (Ext.alloc _ _))
                have hq1 : 1 + (u8s (Rec.enc r)).length ≤ maxLen := by rw [u8s_length]; unfold maxLen; omega
                have hq2 : (1 + (u8s (Rec.enc r)).length) * 1 ≤ 140737488355328 := by rw [u8s_length]; omega
                have hE6d : Ext w6 (w6.drew.alloc (.cells #[.int .u8 1] 5)) := hEd.trans (Ext.alloc _ _)
                have HO6 := Lib.hid (And.intro hown6 (And.intro hsl6 (And.intro hq1 (And.intro hq2 hE6d))))
                have HG6 := Lib.hid hg6
                have hsz6 : w6.heap.size ≤ (w6.drew.alloc (.cells #[.int .u8 1] 5)).heap.size := hE6d.size
                have hfl : (1 :: Rec.enc r).length ≤ 140737488355328 := by simp only [List.length_cons]; omega
                have HFL := Lib.hid hfl
                clear hu hu2 hE6 hEd hEl hown6 hsl6 hq1 hq2 hE6d hg6 x0 x1 x2 x3 hel hfl
                go_wp2_with fail
                go_region_law (first
                  | (go_simp; go_at_call 102; refine (append8_any (H.out.sto.ext hE7) (Nat.le_trans hB hE7.size) _ (1 :: Rec.enc r) hb7 HFL.out).mono ?_; rintro e w8 ⟨rfl, va8, vp8, hA8⟩)
                  | (rw [if_pos (by rfl)]; refine wp_app (.tmp 71) (.tmp 72) tB8 rfl rfl rfl HO6.out.1 HO6.out.2.1 (u8s_one _) HO6.out.2.2.1 HO6.out.2.2.2.1 hsz6 ?_; intro v7 w7 hown7 hg7; obtain ⟨a7, n7, c7, rfl⟩ := ownSlice hown7; have hb7 : Bytes w7 (.slice a7 n7 c7) (1 :: Rec.enc r) := (by have := Sl.ofOwn hown7; rw [← u8s_append] at this; exact this); have hE67 : Ext w6 w7 := Below.grown HO6.out.2.2.2.2 hg7 hsz6 (fun k hk => (HO6.out.1.lt k hk).1); have hE7 : Ext w w7 := HE6.out.trans hE67; have g0c := cell_of_heap (heap_ext HG6.out hE67) 0))
                all_goals
                  have hfr : (1 :: Rec.enc r : List UInt8) = Seg.recFrame r := rfl
                  rw [hfr] at hA8 ⊢
                  obtain ⟨y, hy⟩ : ∃ y, G.s.appendErr (Seg.recFrame r) = y := ⟨_, rfl⟩
                  rw [hy]
                  have hT78 := (H.out.ext hE7).appended hA8
                  have hx8 : w8.heap[X]? = some (.cells #[.int .i64 q0, .int .i64 q1, .slice ta tn tc, .string q3] 27 (0, 0)) := (hT78.block X (Array.getElem?_eq_some_iff.1 (heap_ext HX6.out hE67)).1 (fun e => by have := hU X e; rw [HX.out] at this; exact absurd this (Nat.lt_irrefl _))).trans (heap_ext HX6.out hE67)
                  have HX8 := Lib.hid hx8
                  have HK8 := Lib.hid ((K9.ext hE7).trans (K9.app hA8 (H.out.sto.ext hE7)))
                  have HT8 := Lib.hid ((TwS.ext hE7).trans ((H.out.ext hE7).appended hA8))
                  have HS8 := Lib.hid (And.intro hA8.sto ((H.out.seg.ext hE7).app (H.out.sto.ext hE7) hA8))
                  have happ : G.app n r = ⟨G.s.append (Seg.recFrame r), G.safe⟩ := by unfold Seg.Sg.app; rw [HC.out]
                  have herr : G.appErr n r = y := by rw [HERR.out _ HC.out]; exact hy
                  have HAP := Lib.hid (And.intro happ herr)
                  have HY := Lib.hid hy
                  have HNA := Lib.hid (And.intro (OrNew.of (w := w) hE7.size hA8.newA) (OrNew.of (w := w) hE7.size hA8.newP))
                  clear hA8 happ herr hy g0a g0b g0c hown7 hg7 hb7 hE67 hE7 hT78 hx8 hfr
                  by_cases hy0 : y = 0
                  · subst hy0
                    have hs8 := HS8.out.2
                    obtain ⟨la, lc, rfl, hlc, hlm, _⟩ := hs8.open
                    obtain ⟨N, hN⟩ : ∃ N, ps.length = N := ⟨_, rfl⟩
                    have hpl := hs8.len
                    rw [hN, HL.out.1] at hpl
                    rw [hN] at hlc
                    have hEd := Ext.drew w8
                    have hhd : w8.drew.heap[g]? = _ := heap_ext hs8.heap hEd
                    have k2a : w8.drew.cell? ⟨g, 2, none⟩ = some (.slice la N lc) := by rw [← hN]; exact cell_of_heap hhd 2
                    have hxd := heap_ext HX8.out hEd
                    have x0 : w8.drew.cell? ⟨X, 0, none⟩ = some (.int .i64 q0) := cell_of_heap hxd 0
                    have x1 : w8.drew.cell? ⟨X, 1, none⟩ = some (.int .i64 q1) := cell_of_heap hxd 1
                    have x2 : w8.drew.cell? ⟨X, 2, none⟩ = some (.slice ta tn tc) := cell_of_heap hxd 2
                    have x3 : w8.drew.cell? ⟨X, 3, none⟩ = some (.string q3) := cell_of_heap hxd 3
                    have htl : r.tags.length ≤ 1000000 := by have := (Rec.right_ok HR.out).2.2.2.2.1; omega
                    have hown : Calls Tryz.prog 103 #[.agg #[.int .i64 q0, .int .i64 q1, .slice ta tn tc, .string q3]] w8.drew fun e w' => ∃ a9 n9 c9, e = .returned (.agg #[.int .i64 q0, .int .i64 q1, .slice a9 n9 c9, .string q3]) ∧ RowF w8.heap.size w' (.slice a9 n9 c9) r.tags ∧ Ext w8 w' := by
                      refine (own9_any _ r w8.drew (HV.out _ (HT8.out.trans (TwS.ext hEd))) htl).mono ?_
                      rintro e w' ⟨t9, rfl, hf, hE⟩
                      obtain ⟨a9, n9, c9, rfl⟩ : ∃ x y z, t9 = .slice x y z := by
                        obtain ⟨b', n', _, ho⟩ := hf
                        exact ownSlice ho
                      refine ⟨a9, n9, c9, ?_, hf, hEd.trans hE⟩
                      unfold recV
                      rw [HQ.out.1, HQ.out.2.1, HQ.out.2.2]
                    have hn1 : N + 1 ≤ maxLen := by unfold maxLen; omega
                    have hn2 : (N + 1) * 56 ≤ 140737488355328 := by omega
                    have hrow9 : ∀ w9, Ext w8 w9 → w9.ownsRow B 27 4 (.slice la N lc) N (recFlat ps) := fun w9 hE => by rw [← hN]; exact rowExt hs8.row hE
                    have hB8 : B ≤ w8.heap.size := by have := H.out.g1; have := hs8.lt; omega
                    have h1y : ∀ a n c, ∀ y ∈ [Value.int .i64 q0, .int .i64 q1, .slice a n c, .string q3], y.oneCell' = true := fun a n c => by simp [Value.oneCell']
                    have hcell9 : ∀ w9, Ext w8 w9 → w9.cell? ⟨g, 2, none⟩ = some (.slice la N lc) := fun w9 hE => by rw [← hN]; exact cell_of_heap (heap_ext hs8.heap hE) 2
                    have HOWN := Lib.hid hown
                    have HROW := Lib.hid hrow9
                    have HONE := Lib.hid h1y
                    have HCELL := Lib.hid hcell9
                    have HS := Lib.hid hs8
                    have HN := Lib.hid hN
                    have tr := tR
                    have hne9 : ∀ w9, Ext w8 w9 → some g ≠ (Value.slice la N lc).ownBlock ∧ w9.heap[g]? = _ := fun w9 hE => ⟨by rw [← hN]; exact rowBeside (rowExt hs8.row hE) (heap_ext hs8.heap hE) (by decide), heap_ext hs8.heap hE⟩
                    have HNE := Lib.hid hne9
                    clear hown hrow9 h1y hcell9 hs8 hxd hhd hN hpl htl hne9
                    go_wp2_with fail
                    go_region_law (first
                      | (go_simp; go_at_call 103; refine HOWN.out.mono ?_; rintro e w9 ⟨a9, n9, c9, rfl, hf9, hE9⟩; have hEa : Ext w8 (w9.alloc (.cells #[.int .i64 q0, .int .i64 q1, .slice a9 n9 c9, .string q3] 27)) := hE9.trans (Ext.alloc _ _); have k2b := HCELL.out w9 hE9; have k2c := HCELL.out _ hEa; have hr9 := Lib.hid (HROW.out _ hEa); have hs9 := Lib.hid (slN_one w9 (.int .i64 q0) (.int .i64 q1) (.slice a9 n9 c9) (.string q3) 27); have hb9 := Nat.le_trans hB8 hEa.size; have hEA := Lib.hid hEa; clear hEa)
                      | (rw [if_pos (by rfl)]; refine wp_appN_at (.tmp 83) (.tmp 86) tr rfl rfl rfl hr9.out hs9.out (by omega) (HONE.out _ _ _) hn1 hn2 hb9 ?_; intro v10 w10 hown10 hg10 hat10; obtain ⟨a10, n10, c10, rfl⟩ := ownSlice hown10; have hg10 : (w9.alloc (.cells #[.int .i64 q0, .int .i64 q1, .slice a9 n9 c9, .string q3] 27)).grownBy w10 (Value.slice la N lc).ownBlock := hg10; have hat10 : (Value.slice a10 n10 c10).ownBlock = (Value.slice la N lc).ownBlock ∨ (Value.slice a10 n10 c10).ownBlock = some (w9.alloc (.cells #[.int .i64 q0, .int .i64 q1, .slice a9 n9 c9, .string q3] 27)).heap.size := hat10; have hh10 := (hg10.block g (Array.getElem?_eq_some_iff.1 (HNE.out _ hEA.out).2).1 (HNE.out _ hEA.out).1).trans (HNE.out _ hEA.out).2; have k10 := cell_of_heap hh10 2; have f10 := frozen_of_heap hh10 2))
                    all_goals
                      have hs5 := HS.out.ext hEA.out
                      have hE5 := hEA.out
                      rw [← HN.out] at hown10 hg10 hat10
                      have hT10 := TwS.grown (S := S) hg10 (fun k e => H.out.ul k e)
                      have htag := (hf9.tag (fun k hk => (HS8.out.1.places.lt k hk).2)).ext (Ext.alloc w9 (.cells #[.int .i64 q0, .int .i64 q1, .slice a9 n9 c9, .string q3] 27))
                      rw [← HQ.out.1, ← HQ.out.2.1, ← HQ.out.2.2] at hown10 hg10 hs5 hE5 hT10 htag
                      obtain ⟨hs6, hk6, _⟩ := SegAt.grow (r := r) hs5 (by rw [HL.out.1, HL.out.2.1]; exact hgood) htag (hf9.low hB8) hg10 hown10
                      have hT11 := HT8.out.trans ((TwS.ext hE5).trans (hT10.trans (TwS.but (butSet w10 g 2 (.slice a10 n10 c10)) H.out.g2)))
                      have hsto := (HS8.out.1.ext hE5).keep9 hk6
                      have hres : GivesSegS B S g p ps w (G.app n r) (G.appErr n r) (.returned (.int .i64 0)) (w10.setCell ⟨g, 2, none⟩ (.slice a10 n10 c10)) := by
                        rw [HAP.out.1, HAP.out.2]
                        refine ⟨rfl, ⟨_, _, .slice a10 n10 c10, ps ++ [(.slice a9 n9 c9, r)], H.out.of hsto ?_ HNA.out.1 HNA.out.2 (fun k hk => ?_), TagsNew.snoc (hf9.low HT8.out.size)⟩, hT11, HK8.out.trans ((K9.ext hE5).trans hk6.k9)⟩
                        have hw : (⟨G.s.append (Seg.recFrame r), G.safe⟩ : Seg.Sg).w = ⟨G.w.l ++ [r], G.w.trimmed, false⟩ := Seg.next_w (S := G.s) HNX.out.2.2.1 HNX.out.1 HY.out
                        rw [hw]
                        rw [HNX.out.2.2.1] at hs6
                        exact hs6
                        rcases hat10 with e | e
                        · exact .inl (e.symm.trans hk)
                        · refine .inr ?_
                          rw [e] at hk
                          injection hk with hk
                          have h9 := Nat.le_trans HT8.out.size hE5.size
                          rw [World.size_alloc] at h9 hk
                          omega
                      have HRES := Lib.hid hres
                      clear hres hsto hT11 hk6 hs6 htag hT10 hs5 hE5 hown10 hg10 hat10 hh10 k10 f10 x0 x1 x2 x3 k2a k2b k2c
                      go_wp2_with fail
                      go_ret
                      exact HRES.out
                  · have hy2 : (y == 0) = false := by simpa using hy0
                    have hsame : G.s.append (Seg.recFrame r) = G.s := Seg.same_w (by rw [HY.out]; exact hy0)
                    have hres : GivesSegS B S g p ps w (G.app n r) (G.appErr n r) (.returned (.int .i64 y)) w8 := by
                      rw [HAP.out.1, HAP.out.2, hsame]
                      have h1 := HS8.out.1
                      rw [hsame] at h1
                      exact ⟨rfl, ⟨_, _, _, _, H.out.of h1 HS8.out.2 HNA.out.1 HNA.out.2 (OrNew.refl _ _), TagsNew.refl _ _⟩, HT8.out, HK8.out⟩
                    have HRES := Lib.hid hres
                    clear hres hsame
                    go_wp2_with fail
                    go_ret
                    exact HRES.out
end Go.Proofs.YtaijgpdlgcgfaaaGreat
