/-
  Layer 6: which configurations may be: the document's own answer.
-/
import Derived.Test.YtpfodkgncachiaaGreatTrmB
namespace Go.Proofs.YtpfodkgncachiaaGreat
set_option linter.unusedSimpArgs false
set_option linter.unusedVariables false
set_option maxRecDepth 100000
open Go.RowKit

theorem shardNot {l : List Int} (h : (l.length : Int) < 1 ∨ 3 < (l.length : Int) ∨ Term.unlike l = false) : Term.okShard l = false := by
  rw [← Bool.not_eq_true]
  intro g
  have := Term.shard_ok g
  rcases h with h | h | h
  · omega
  · omega
  · rw [this.2.2] at h; cases h
theorem shardYes {l : List Int} (h1 : ¬ (l.length : Int) < 1) (h2 : ¬ 3 < (l.length : Int)) (h3 : Term.unlike l = true) : Term.okShard l = true := by
  unfold Term.okShard
  rw [h3, Bool.and_true, decide_eq_true_eq]
  omega
/-- How many there may be, as the document asks it. -/
def odd7 (n : Int) : Bool := (n == 1 || n == 3) || (n == 5 || n == 7)
theorem odd7_eq (n : Nat) : decide (n = 1 ∨ n = 3 ∨ n = 5 ∨ n = 7) = odd7 n := by
  unfold odd7
  rw [Bool.eq_iff_iff, decide_eq_true_eq]
  simp only [Bool.or_eq_true, beq_iff_eq]
  omega

set_option maxHeartbeats 8000000 in
theorem refRight6_any (v : Value) (c : Term.C) (w : World) (hv : IsConf w v c) :
    Calls Tryz.prog 14 #[v] w fun x w' => x = .returned (.bool (Term.right c)) ∧ Ext w w' := by
  have hbx := box_confR
  obtain ⟨s, d, rfl, hs, hd⟩ := hv
  obtain ⟨t, S, D⟩ := c
  unfold confV
  simp only at hs hd ⊢
  have HS := Lib.hid hs
  have HD := Lib.hid hd
  obtain ⟨a, cap, rfl, hcap, hmax, _, _⟩ := hs.open
  obtain ⟨a2, cap2, rfl, hcap2, hmax2, _⟩ := hd.open
  unfold maxLen at hmax hmax2
  clear hs hd
  have hE0 : Ext w (w.alloc (.cells #[.int .i64 t, .slice a S.length cap, .slice a2 D.length cap2] 25)) := Ext.alloc _ _
  have HA0 := Lib.hid (ConfAt.new 25 w t (.slice a S.length cap) (.slice a2 D.length cap2))
  by_cases g1 : t < 1
  · have HR := Lib.hid (rightNo (c := ⟨t, S, D⟩) (.inl g1))
    go_enter Tryz.func14, Tryz.ntmps14
    go_wp2_with fail
    go_ret
    exact ⟨by rw [HR.out]; rfl, hE0⟩
  by_cases g2 : 64 < t
  · have HR := Lib.hid (rightNo (c := ⟨t, S, D⟩) (.inr (.inl g2)))
    go_enter Tryz.func14, Tryz.ntmps14
    go_wp2_with fail
    go_ret
    exact ⟨by rw [HR.out]; rfl, hE0⟩
  by_cases g3 : (D.length : Int) < 1
  · have HR := Lib.hid (rightNo (c := ⟨t, S, D⟩) (.inr (.inr (.inl g3))))
    go_enter Tryz.func14, Tryz.ntmps14
    go_wp2_with fail
    go_ret
    exact ⟨by rw [HR.out]; rfl, hE0⟩
  by_cases g4 : 8 < (D.length : Int)
  · have HR := Lib.hid (rightNo (c := ⟨t, S, D⟩) (.inr (.inr (.inr g4))))
    go_enter Tryz.func14, Tryz.ntmps14
    go_wp2_with fail
    go_ret
    exact ⟨by rw [HR.out]; rfl, hE0⟩
  have HY := Lib.hid (rightYes (c := ⟨t, S, D⟩) g1 g2 g3 g4)
  go_enter Tryz.func14, Tryz.ntmps14
  go_wp2_with fail
  generalize hw0 : w.alloc (.cells #[.int .i64 t, .slice a S.length cap, .slice a2 D.length cap2] 25) = w0 at *
  generalize hq : w.heap.size = q at *
  have HQ := Lib.hid hq
  have HW0 := Lib.hid hw0
  clear hq hw0
  go_loopw [3] (fun i wr => ∃ k : Nat, k ≤ D.length ∧ i = .int .i64 k ∧ Hid ((D.take k).all Term.okShard = true) ∧ Ext w0 wr) (fun i _ => D.length - (intOf i).toNat)
  case atStart => exact ⟨0, by omega, rfl, by simp [Hid], Ext.refl _⟩
  case round =>
    obtain ⟨k, hk, rfl, hr, hE⟩ := hrel
    obtain ⟨c0, c1, c2⟩ := (HA0.out.ext hE).cells
    by_cases hlt : k < D.length
    · obtain ⟨a', cap', e', _, _, hc⟩ := ((HD.out.below hE0).below hE).open
      obtain ⟨b, off, x, rfl, hcell, hx⟩ := hc k hlt
      injection e' with e1 e2 e3
      subst e1
      clear hc e2 e3
      have HX := Lib.hid hx
      obtain ⟨ax, cx, rfl, hcx, hmx, _⟩ := hx.open
      unfold maxLen at hmx
      clear hx
      by_cases s1 : (D[k].length : Int) < 1
      · have HB := Lib.hid (shardNot (.inl s1))
        have HR := Lib.hid (show Term.right ⟨t, S, D⟩ = false by rw [HY.out, allNot hlt HB.out, Bool.false_and])
        go_wp2_with fail
        go_ret
        exact ⟨by rw [HR.out]; rfl, hE0.trans hE⟩
      by_cases s2 : 3 < (D[k].length : Int)
      · have HB := Lib.hid (shardNot (.inr (.inl s2)))
        have HR := Lib.hid (show Term.right ⟨t, S, D⟩ = false by rw [HY.out, allNot hlt HB.out, Bool.false_and])
        go_wp2_with fail
        go_ret
        exact ⟨by rw [HR.out]; rfl, hE0.trans hE⟩
      cases hu : Term.unlike D[k] with
      | false =>
        have HU := Lib.hid hu
        have HB := Lib.hid (shardNot (.inr (.inr hu)))
        have HR := Lib.hid (show Term.right ⟨t, S, D⟩ = false by rw [HY.out, allNot hlt HB.out, Bool.false_and])
        clear hu
        go_wp2_with fail
        refine (refUnlike6_any _ D[k] _ HX.out).mono ?_
        rw [HU.out]
        rintro e w' ⟨rfl, hE2⟩
        go_wp2_with fail
        go_ret
        exact ⟨by rw [HR.out]; rfl, (hE0.trans hE).trans hE2⟩
      | true =>
        have HU := Lib.hid hu
        have HB := Lib.hid (shardYes s1 s2 hu)
        clear hu
        go_wp2_with fail
        refine (refUnlike6_any _ D[k] _ HX.out).mono ?_
        rw [HU.out]
        rintro e w' ⟨rfl, hE2⟩
        go_wp2_with fail
        go_roundw
        case rel => exact ⟨k + 1, by omega, by go_num, allSucc hlt hr.out HB.out, hE.trans hE2⟩
        case measure => simp [intOf]; omega
    · have hs := Lib.hid (allEnd hk hlt hr.out)
      have HY2 := Lib.hid (show Term.right ⟨t, S, D⟩ = (odd7 S.length && Term.unlike S) by rw [HY.out, hs.out, Bool.true_and, odd7_eq])
      clear hr
      have hE1 := hE0.trans hE
      have HS1 := Lib.hid (HS.out.below hE1)
      go_wp2_with fail
      all_goals first
        | (refine (refUnlike6_any _ S _ HS1.out).mono ?_
           rintro e w' ⟨rfl, hE2⟩
           go_wp2_with fail
           go_ret
           exact ⟨by rw [HY2.out, show odd7 (S.length : Int) = true from by rw [← odd7_eq, decide_eq_true_eq]; omega, Bool.true_and]; rfl, hE1.trans hE2⟩)
        | (go_ret
           exact ⟨by rw [HY2.out, show odd7 (S.length : Int) = false from by rw [← odd7_eq, decide_eq_false_iff_not]; omega, Bool.false_and]; rfl, hE1⟩)
end Go.Proofs.YtpfodkgncachiaaGreat
