/-
  Layer 6: all that order or keep: the document's own answer, whole.
-/
import Derived.Test.YtpfodkgncachiaaGreatTrmN
namespace Go.Proofs.YtpfodkgncachiaaGreat
set_option linter.unusedSimpArgs false
set_option linter.unusedVariables false
set_option maxRecDepth 100000
open Go.RowKit

/-- These numbers, put one behind the other. -/
def putsOf (l : List Int) : List Int := l.foldl Term.put []
theorem puts_snoc (l : List Int) (x : Int) : putsOf (l ++ [x]) = Term.put (putsOf l) x := by unfold putsOf; rw [List.foldl_append]; rfl
theorem puts_rise (l : List Int) : Term.rises (putsOf l) := (Term.foldl_put l [] List.Pairwise.nil).1
theorem puts_len (l : List Int) : (putsOf l).length ≤ l.length := by
  have := Term.foldl_length l []
  simpa [putsOf] using this

set_option maxHeartbeats 8000000 in
theorem refNodes6_any (v : Value) (c : Term.C) (w : World) (hv : IsConf w v c) (hlen : (Term.all c).length ≤ 2000000) :
    Calls Tryz.prog 26 #[v] w (fun e w' => ∃ u, e = .returned u ∧ OwnI w' w.heap.size u (Term.nodes c) ∧ Ext w w') := by
  have hbx := box_confR
  obtain ⟨s, d, rfl, hs, hd⟩ := hv
  obtain ⟨t, S, D⟩ := c
  unfold confV
  simp only at hs hd ⊢
  have HS := Lib.hid hs
  have HD := Lib.hid hd
  obtain ⟨a1, cap1, rfl, hcap1, hmax1, _, hc1⟩ := hs.open
  obtain ⟨a2, cap2, rfl, hcap2, hmax2, hc2⟩ := hd.open
  unfold maxLen at hmax1 hmax2
  have HC1 := Lib.hid hc1
  have HC2 := Lib.hid hc2
  clear hs hd hc1 hc2
  have hall : Term.all ⟨t, S, D⟩ = S ++ D.flatten := rfl
  rw [hall, List.length_append] at hlen
  have HALL := Lib.hid (show Term.nodes ⟨t, S, D⟩ = putsOf (S ++ D.flatten) from rfl)
  have HLEN := Lib.hid hlen
  clear hall hlen
  have hE0 : Ext w (w.alloc (.cells #[.int .i64 t, .slice a1 S.length cap1, .slice a2 D.length cap2] 25)) := Ext.alloc _ _
  have HA0 := Lib.hid (ConfAt.new 25 w t (.slice a1 S.length cap1) (.slice a2 D.length cap2))
  go_enter Tryz.func26, Tryz.ntmps26
  go_wp2_with fail
  generalize hw0 : w.alloc (.cells #[.int .i64 t, .slice a1 S.length cap1, .slice a2 D.length cap2] 25) = w0 at *
  generalize hq : w.heap.size = q at *
  have HQ := Lib.hid hq
  have HW0 := Lib.hid hw0
  clear hq hw0
  go_loopw [3, 4] (fun o i wr => ∃ k : Nat, k ≤ S.length ∧ i = .int .i64 k ∧ ∃ ov : Value, ov = o ∧ Hid (OwnI wr q ov (putsOf (S.take k))) ∧ Ext w0 wr) (fun _ i _ => S.length - (intOf i).toNat)
  case atStart => exact ⟨0, by omega, rfl, _, rfl, OwnI.nil _ _, Ext.refl _⟩
  case round =>
    obtain ⟨k, hk, rfl, ov, rfl, hO, hE⟩ := hrel
    have hz : q ≤ wr.heap.size := Nat.le_trans (Nat.le_of_lt HA0.out.lt) hE.size
    by_cases hlt : k < S.length
    · obtain ⟨c0, c1, c2⟩ := (HA0.out.ext hE).cells
      obtain ⟨b, off, rfl, hcw⟩ := HC1.out k hlt
      have hcell := cellExtN (hE0.trans hE) hcw
      obtain ⟨oa, on, oc, rfl⟩ := hO.out.slice
      have HTK := Lib.hid (show putsOf (S.take (k + 1)) = Term.put (putsOf (S.take k)) S[k] by rw [take_succ_getD S k hlt, puts_snoc])
      have HPL := Lib.hid (show (putsOf (S.take k)).length ≤ 3000000 by
        have := puts_len (S.take k)
        rw [List.length_take] at this
        have := HLEN.out
        omega)
      clear hcw
      go_wp2_with fail
      refine (refPut6_any q _ _ S[k] _ hO.out (puts_rise _) hz HPL.out).mono ?_
      rw [← HTK.out]
      rintro e w2 ⟨u, rfl, ho2, hE2⟩
      have O2 := Lib.hid ho2
      clear ho2 c0 c1 c2 hcell
      go_wp2_with fail
      go_roundw
      case rel => exact ⟨k + 1, by omega, by go_num, _, rfl, O2.out, hE.trans hE2⟩
      case measure => simp [intOf]; omega
    · have HK := Lib.hid (show S.take k = S from List.take_of_length_le (by omega))
      have HO1 := Lib.hid (show OwnI wr q ov (putsOf (S ++ (D.take 0).flatten)) by rw [List.take_zero, List.flatten_nil, List.append_nil, ← HK.out]; exact hO.out)
      obtain ⟨c0, c1, c2⟩ := (HA0.out.ext hE).cells
      obtain ⟨w1, rfl⟩ : ∃ w1, w1 = wr := ⟨_, rfl⟩
      clear hO
      go_wp2_with fail
      clear c0 c1 c2
      go_loopw [3, 5, 6] (fun o i _ wr => ∃ k : Nat, k ≤ D.length ∧ i = .int .i64 k ∧ ∃ ov : Value, ov = o ∧ Hid (OwnI wr q ov (putsOf (S ++ (D.take k).flatten))) ∧ Ext w0 wr) (fun _ i _ _ => D.length - (intOf i).toNat)
      case atStart => exact ⟨0, by omega, rfl, _, rfl, HO1.out, hE⟩
      case round =>
        obtain ⟨m, hm, rfl, ov2, rfl, hO2, hE2⟩ := hrel
        obtain ⟨w2, rfl⟩ : ∃ w2, w2 = wr := ⟨_, rfl⟩
        obtain ⟨c0, c1, c2⟩ := (HA0.out.ext hE2).cells
        by_cases hltm : m < D.length
        · obtain ⟨b, off, x, rfl, hcw, hx⟩ := HC2.out m hltm
          have HX := Lib.hid hx
          obtain ⟨ax, cx, rfl, hcx, hmx, _, hcells⟩ := hx.open
          unfold maxLen at hmx
          have HCS := Lib.hid hcells
          have HCW := Lib.hid hcw
          have HO3 := Lib.hid (show OwnI w2 q ov2 (putsOf ((S ++ (D.take m).flatten) ++ D[m].take 0)) by rw [List.take_zero, List.append_nil]; exact hO2.out)
          clear hx hcells hcw hO2
          go_wp2_with fail
          clear c0 c1 c2
          go_loopw [3, 6] (fun o i wr => ∃ k : Nat, k ≤ D[m].length ∧ i = .int .i64 k ∧ ∃ ov : Value, ov = o ∧ Hid (OwnI wr q ov (putsOf ((S ++ (D.take m).flatten) ++ D[m].take k))) ∧ Ext w0 wr) (fun _ i _ => D[m].length - (intOf i).toNat)
          case atStart => exact ⟨0, by omega, rfl, _, rfl, HO3.out, hE2⟩
          case round =>
            obtain ⟨j, hj, rfl, ov3, rfl, hO4, hE4⟩ := hrel
            obtain ⟨c0, c1, c2⟩ := (HA0.out.ext hE4).cells
            have hcell := cellExtN (hE0.trans hE4) HCW.out
            have hz4 : q ≤ wr.heap.size := Nat.le_trans (Nat.le_of_lt HA0.out.lt) hE4.size
            by_cases hltj : j < D[m].length
            · obtain ⟨b2, off2, rfl, hcw2⟩ := HCS.out j hltj
              have hcell2 := cellExtN (hE0.trans hE4) hcw2
              obtain ⟨oa, on, oc, rfl⟩ := hO4.out.slice
              have HTK := Lib.hid (show putsOf ((S ++ (D.take m).flatten) ++ D[m].take (j + 1)) = Term.put (putsOf ((S ++ (D.take m).flatten) ++ D[m].take j)) D[m][j] by rw [take_succ_getD _ j hltj, ← List.append_assoc, puts_snoc])
              have HPL := Lib.hid (show (putsOf ((S ++ (D.take m).flatten) ++ D[m].take j)).length ≤ 3000000 by
                have h1 := puts_len ((S ++ (D.take m).flatten) ++ D[m].take j)
                have h2 := flatLe2 hltm (Nat.le_of_lt hltj)
                have h3 := HLEN.out
                rw [List.append_assoc, @List.length_append _ S _] at h1
                rw [List.append_assoc]
                omega)
              clear hcw2
              go_wp2_with fail
              refine (refPut6_any q _ _ D[m][j] _ hO4.out (puts_rise _) hz4 HPL.out).mono ?_
              rw [← HTK.out]
              rintro e w5 ⟨u, rfl, ho5, hE5⟩
              have O5 := Lib.hid ho5
              clear ho5 c0 c1 c2 hcell hcell2
              go_wp2_with fail
              go_roundw
              case rel => exact ⟨j + 1, by omega, by go_num, _, rfl, O5.out, hE4.trans hE5⟩
              case measure => simp [intOf]; omega
            · have O5 := Lib.hid (show OwnI wr q ov3 (putsOf (S ++ (D.take (m + 1)).flatten)) by
                have h := hO4.out
                rw [List.take_of_length_le (show D[m].length ≤ j by omega), List.append_assoc, ← flatTake hltm] at h
                exact h)
              clear hO4
              go_wp2_with fail
              go_roundw
              case rel => exact ⟨m + 1, by omega, by go_num, _, rfl, O5.out, hE4⟩
              case measure => simp [intOf]; omega
        · have O5 := Lib.hid (show OwnI w2 q ov2 (Term.nodes ⟨t, S, D⟩) by
            have h := hO2.out
            rw [List.take_of_length_le (show D.length ≤ m by omega), ← HALL.out] at h
            exact h)
          clear hO2
          go_wp2_with fail
          go_ret
          exact ⟨_, rfl, by rw [HQ.out]; exact O5.out, hE0.trans hE2⟩
end Go.Proofs.YtpfodkgncachiaaGreat
