/-
  Merged: Layer 9: Trim.
-/
import Derived.Test.YtaijgpdlgcgfaaaGreatBsSgG0

namespace Go.Proofs.YtaijgpdlgcgfaaaGreat
set_option linter.unusedSimpArgs false
set_option linter.unusedVariables false
set_option maxRecDepth 100000
open Go.RowKit
/- Layer 9: Trim. -/
section
variable {w w' : World} {B U g p : Nat} {va vp lv : Value} {ps : List (Value × Rec.R)} {G : Seg.Sg}
theorem IsSegB.base (h : IsSegB w B U g p va vp lv ps G) (hU : U ≤ w.heap.size) : B ≤ w.heap.size := by have := h.g1; have := h.g2; omega
theorem IsSegS.len_any {S : Nat → Prop} (h : IsSegS w B S g p va vp lv ps G) (hE : Ext w w') : Calls Tryz.prog 92 #[.pointer (some ⟨g, 0, none⟩)] w' fun e w'' => e = .returned (.int .i64 (G.len : Nat)) ∧ Ext w' w'' :=
  seglen_any (h.seg.ext hE) h.good.1 (Nat.le_trans h.good.2 (by omega))
theorem IsSegB.len_any (h : IsSegB w B U g p va vp lv ps G) (hE : Ext w w') : Calls Tryz.prog 92 #[.pointer (some ⟨g, 0, none⟩)] w' fun e w'' => e = .returned (.int .i64 (G.len : Nat)) ∧ Ext w' w'' :=
  seglen_any (h.seg.ext hE) h.good.1 (Nat.le_trans h.good.2 (by omega))
end

set_option maxHeartbeats 40000000 in
theorem trim9S {w : World} {B g p : Nat} {S : Nat → Prop} {va vp lv : Value} {ps : List (Value × Rec.R)} {G : Seg.Sg} (h : IsSegS w B S g p va vp lv ps G) (n : Int) :
    Calls Tryz.prog 93 #[.pointer (some ⟨g, 0, none⟩), .int .i64 n] w (GivesSegS B S g p ps w (G.trim n) (G.trimErr n)) := by
  obtain ⟨hgood, hcnt⟩ := h.good
  have H := Lib.hid h
  have hB : B ≤ w.heap.size := h.base
  obtain ⟨L, hL⟩ : ∃ L, G.w.l.length = L := ⟨_, rfl⟩
  obtain ⟨T, hT⟩ : ∃ T, G.w.trimmed = T := ⟨_, rfl⟩
  obtain ⟨b, hb⟩ : ∃ b, G.w.broken = b := ⟨_, rfl⟩
  have HL := Lib.hid (And.intro hL (And.intro hT hb))
  rw [hL] at hgood hcnt
  rw [hT] at hgood
  have hcase : G.tcase n = if n < 0 ∨ (L : Int) < n then .bad else if n ≤ (T : Int) then .done else if b = true then .full else .next := by
    unfold Seg.Sg.tcase Seg.Sg.len
    rw [hL, hT, hb]
  have HCASE := Lib.hid hcase
  have hend0 : ∀ (w' : World) (c : Seg.TCase) (er : Int), G.tcase n = c → (match c with | .next => False | _ => True) → (G.trimErr n = er) → Ext w w' → GivesSegS B S g p ps w (G.trim n) (G.trimErr n) (.returned (.int .i64 er)) w' := by
    intro w' c er hc hne her hE
    have ea : G.trim n = G := by
      unfold Seg.Sg.trim
      rw [hc]
      cases c <;> first | rfl | exact hne.elim
    rw [ea]
    exact ⟨by rw [her], ⟨va, vp, lv, ps, H.out.later hE, TagsNew.refl _ _⟩, TwS.ext hE, K9.ext hE⟩
  have HEND := Lib.hid hend0
  have herr : ∀ c, G.tcase n = c → G.trimErr n = (match c with | .bad => 1 | .done => 0 | .full => 90 | .next => G.s.appendErr (Seg.trimFrame n.toNat)) := by
    intro c hc
    unfold Seg.Sg.trimErr
    rw [hc]
    cases c <;> rfl
  have HERR := Lib.hid herr
  have hlen : ∀ w', Ext w w' → Calls Tryz.prog 92 #[.pointer (some ⟨g, 0, none⟩)] w' fun e w'' => e = .returned (.int .i64 (L : Nat)) ∧ Ext w' w'' := fun w' hE => by
    rw [← hL]
    exact h.len_any hE
  have HLEN := Lib.hid hlen
  have c1 : ∀ w', Ext w w' → w'.cell? ⟨g, 1, none⟩ = some (.int .i64 (T : Nat)) ∧ w'.cell? ⟨g, 4, none⟩ = some (.bool b) ∧ w'.cell? ⟨g, 0, none⟩ = some (.pointer (some ⟨p, 0, none⟩)) := fun w' hE => by
    rw [← hT, ← hb]
    exact ⟨cell_of_heap (heap_ext h.seg.heap hE) 1, cell_of_heap (heap_ext h.seg.heap hE) 4, cell_of_heap (heap_ext h.seg.heap hE) 0⟩
  have HCELL := Lib.hid c1
  clear h hL hT hb hcase hend0 herr hlen c1
  by_cases hneg : n < 0
  · have HC := Lib.hid (show G.tcase n = .bad by rw [HCASE.out, if_pos (.inl hneg)])
    go_enter Tryz.func93, Tryz.ntmps93
    go_wp2_with fail
    go_ret
    exact HEND.out w .bad 1 HC.out trivial (HERR.out _ HC.out) (Ext.refl _)
  · go_enter Tryz.func93, Tryz.ntmps93
    go_wp2_with fail
    refine (HLEN.out w (Ext.refl _)).mono ?_
    rintro e w1 ⟨rfl, hE1⟩
    have HE1 := Lib.hid hE1
    clear hE1
    by_cases hgt : (L : Int) < n
    · have HC := Lib.hid (show G.tcase n = .bad by rw [HCASE.out, if_pos (.inr hgt)])
      go_wp2_with fail
      go_ret
      exact HEND.out w1 .bad 1 HC.out trivial (HERR.out _ HC.out) HE1.out
    · obtain ⟨k1, k4, k0⟩ := HCELL.out w1 HE1.out
      by_cases hle : n ≤ (T : Int)
      · have HC := Lib.hid (show G.tcase n = .done by rw [HCASE.out, if_neg (by omega), if_pos hle])
        go_wp2_with fail
        go_ret
        exact HEND.out w1 .done 0 HC.out trivial (HERR.out _ HC.out) HE1.out
      · cases b with
        | true =>
          have HC := Lib.hid (show G.tcase n = .full by rw [HCASE.out, if_neg (by omega), if_neg (by omega), if_pos rfl])
          go_wp2_with fail
          go_ret
          exact HEND.out w1 .full 90 HC.out trivial (HERR.out _ HC.out) HE1.out
        | false =>
          have HC := Lib.hid (show G.tcase n = .next by rw [HCASE.out, if_neg (by omega), if_neg (by omega), if_neg (by decide)])
          have HNX := Lib.hid (Seg.tnext HC.out)
          obtain ⟨m, hm⟩ : ∃ m : Nat, n = (m : Int) := ⟨n.toNat, by omega⟩
          subst hm
          have hnx := HNX.out
          unfold Seg.Sg.len at hnx
          rw [HL.out.1, HL.out.2.1] at hnx
          have hfr : [(2 : UInt8)] ++ nums [(m : Int)] = Seg.trimFrame m := by simp [nums, Seg.trimFrame]
          have hok : [(m : Int)].all okNum = true := by
            rw [List.all_cons, List.all_nil, Bool.and_true]
            exact okNumOf (by omega)
          have hfl : (Seg.trimFrame m).length ≤ 140737488355328 := by
            have := Pack.num_nine (n := m) (by omega)
            unfold Seg.trimFrame
            simp only [List.length_cons]
            omega
          have hnum : ∀ w2, w2 = (w1.alloc (.cells #[.int .u8 2] 5)).alloc (.cells #[.int .i64 (m : Int)] 3) → Calls Tryz.prog 134 #[.slice (some ⟨w1.heap.size, 0, none⟩) 1 1, .slice (some ⟨w1.heap.size + 1, 0, none⟩) 1 1] w2 fun e w' => ∃ a n c, e = .returned (.tuple #[.slice a n c, .bool true]) ∧ Bytes w' (.slice a n c) (Seg.trimFrame m) ∧ Ext w w' := by
            rintro w2 rfl
            have h1 : Bytes ((w1.alloc (.cells #[.int .u8 2] 5)).alloc (.cells #[.int .i64 (m : Int)] 3)) (.slice (some ⟨w1.heap.size, 0, none⟩) 1 1) [2] := Bytes.below (Own.one_lt (w := w1) (n := 2) (by omega)) (Ext.alloc _ _)
            have h2 : Ints ((w1.alloc (.cells #[.int .u8 2] 5)).alloc (.cells #[.int .i64 (m : Int)] 3)) (.slice (some ⟨w1.heap.size + 1, 0, none⟩) 1 1) [(m : Int)] := by
              have := Ints.one (w1.alloc (.cells #[.int .u8 2] 5)) (m : Int)
              simpa using this
            refine (packNum_any _ _ [2] [(m : Int)] _ h1 h2 (by simp) (by simp)).mono ?_
            rw [hok, if_pos rfl, hfr]
            rintro e w' ⟨u, rfl, ho, hb⟩
            obtain ⟨a, n, c, rfl⟩ := ho.isSlice
            exact ⟨a, n, c, rfl, ho.bytes, (HE1.out.trans ((Ext.alloc _ _).trans (Ext.alloc _ _))).trans hb⟩
          have HNUM := Lib.hid hnum
          have HFL := Lib.hid hfl
          clear hfr hok hfl hnum hnx
          go_wp2_with fail
          refine (HNUM.out _ rfl).mono ?_
          rintro e w2 ⟨ua, un, uc, rfl, hu, hE2⟩
          obtain ⟨_, _, k0'⟩ := HCELL.out w2 hE2
          have HU := Lib.hid hu
          have HE2 := Lib.hid hE2
          clear hu hE2 k1 k4 k0
          go_wp2_with fail
          refine (append8_any (H.out.sto.ext HE2.out) (Nat.le_trans hB HE2.out.size) _ (Seg.trimFrame m) HU.out HFL.out).mono ?_
          rintro e w8 ⟨rfl, va8, vp8, hA8⟩
          obtain ⟨y, hy⟩ : ∃ y, G.s.appendErr (Seg.trimFrame m) = y := ⟨_, rfl⟩
          rw [hy]
          have HK8 := Lib.hid ((K9.ext HE2.out).trans (K9.app hA8 (H.out.sto.ext HE2.out)))
          have HT8 := Lib.hid ((TwS.ext HE2.out).trans ((H.out.ext HE2.out).appended hA8))
          have HS8 := Lib.hid (And.intro hA8.sto ((H.out.seg.ext HE2.out).app (H.out.sto.ext HE2.out) hA8))
          have happ : G.trim m = ⟨G.s.append (Seg.trimFrame m), G.safe⟩ := by unfold Seg.Sg.trim; rw [HC.out]; rfl
          have herr : G.trimErr m = y := by rw [HERR.out _ HC.out]; exact hy
          have HAP := Lib.hid (And.intro happ herr)
          have HY := Lib.hid hy
          have HNA := Lib.hid (And.intro (OrNew.of (w := w) HE2.out.size hA8.newA) (OrNew.of (w := w) HE2.out.size hA8.newP))
          clear hA8 happ herr hy k0'
          by_cases hy0 : y = 0
          · subst hy0
            have hnx := HNX.out
            unfold Seg.Sg.len at hnx
            have hdr := drop9_any HS8.out.2 (by rw [HL.out.1, HL.out.2.1]; exact hgood) (by rw [HL.out.1]; omega) m (by omega) (by omega)
            have HDR := Lib.hid hdr
            clear hdr hnx
            go_wp2_with fail
            refine HDR.out.mono ?_
            rintro e w9 ⟨rfl, lv', hd⟩
            have hnx := HNX.out
            unfold Seg.Sg.len at hnx
            have hw : (⟨G.s.append (Seg.trimFrame m), G.safe⟩ : Seg.Sg).w = ⟨G.w.l, m, false⟩ := Seg.trim_w (S := G.s) H.out.sto.ok hnx.2.2 (by have := hnx.1; show G.w.trimmed ≤ m; omega) (by have := hnx.2.1; show m ≤ G.w.l.length; omega) HY.out
            have hk9 := Keep9.drop HS8.out.2 hd
            have ht9 : TwS S w8 w9 := ⟨hd.os, hd.tape, hd.output, hd.size, fun k hk hu => hd.block k hk (fun e => hu (e ▸ H.out.g2)) (fun e => hu (H.out.ul k e.symm))⟩
            have hres : GivesSegS B S g p ps w (G.trim m) (G.trimErr m) (.returned (.int .i64 0)) w9 := by
              rw [HAP.out.1, HAP.out.2]
              refine ⟨rfl, ⟨_, _, lv', ps.drop (m - G.w.trimmed), H.out.of (HS8.out.1.keep9 hk9) ?_ HNA.out.1 HNA.out.2 (OrNew.same hd.newL), TagsNew.drop _ _ _⟩, HT8.out.trans ht9, HK8.out.trans hk9.k9⟩
              rw [hw]
              have := hd.seg
              rw [hnx.2.2] at this
              exact this
            have HRES := Lib.hid hres
            clear hres ht9 hk9 hw hd hnx
            go_wp2_with fail
            go_ret
            exact HRES.out
          · have hy2 : (y == 0) = false := by simpa using hy0
            have hsame : G.s.append (Seg.trimFrame m) = G.s := Seg.same_w (by rw [HY.out]; exact hy0)
            have hres : GivesSegS B S g p ps w (G.trim m) (G.trimErr m) (.returned (.int .i64 y)) w8 := by
              rw [HAP.out.1, HAP.out.2, hsame]
              have h1 := HS8.out.1
              rw [hsame] at h1
              exact ⟨rfl, ⟨_, _, _, _, H.out.of h1 HS8.out.2 HNA.out.1 HNA.out.2 (OrNew.refl _ _), TagsNew.refl _ _⟩, HT8.out, HK8.out⟩
            have HRES := Lib.hid hres
            clear hres hsame
            go_wp2_with fail
            go_ret
            exact HRES.out
end Go.Proofs.YtaijgpdlgcgfaaaGreat
