/-
  Merged: Layer 4, the document's SameAll of two rows of the same records.
-/
import Derived.Test.YtfgjhagfpafmoaaGreatBsRec

namespace Go.Proofs.YtfgjhagfpafmoaaGreat
set_option linter.unusedSimpArgs false
set_option linter.unusedVariables false
set_option maxRecDepth 100000
open Go.RowKit
/- Layer 4, the document's SameAll of two rows of the same records. -/
set_option maxHeartbeats 4000000 in
theorem refSameAll9 (v u : Value) (l : List Rec.R) (w : World) (hv : Recs w v l) (hu : Recs w u l) :
    Calls Tryz.prog 44 #[v, u] w fun e w' => e = .returned (.bool true) ∧ Ext w w' := by
  have HV := Lib.hid hv
  have HU := Lib.hid hu
  obtain ⟨a, ca, rfl, h1, h2, h3, _⟩ := hv
  obtain ⟨b, cb, rfl, k1, k2, k3, _⟩ := hu
  obtain ⟨n, hn⟩ : ∃ n, l.length = n := ⟨_, rfl⟩
  have hnm : n ≤ 9223372036854775807 := by unfold maxLen at h2; omega
  rw [hn] at HV HU h1 k1 ⊢
  have HN := Lib.hid hn
  clear hn h2 k2 h3 k3
  go_enter Tryz.func44, Tryz.ntmps44
  go_wp2_with fail
  go_loopw [5] (fun i wr => ∃ k : Nat, k ≤ n ∧ i = .int .i64 k ∧ Ext w wr) (fun i _ => n - (intOf i).toNat)
  case atStart => exact ⟨0, by omega, rfl, Ext.refl _⟩
  case round =>
    obtain ⟨k, hk, rfl, hE⟩ := hrel
    by_cases hlt : k < n
    · have hkl : k < l.length := by rw [HN.out]; exact hlt
      have hEd := hE.trans (Ext.drew wr)
      obtain ⟨_, _, e1, _, _, _, hc⟩ := HV.out.below hEd
      obtain ⟨ab, ao, rfl, ta, p0, p1, p2, p3, hta⟩ := hc k hkl
      injection e1 with e1 e2 e3
      subst e1
      obtain ⟨_, _, f1, _, _, _, hd⟩ := HU.out.below hEd
      obtain ⟨bb, bo, rfl, tb, q0, q1, q2, q3, htb⟩ := hd k hkl
      injection f1 with f1 f2 f3
      subst f1
      obtain ⟨a1, a2, a3, rfl⟩ : ∃ x y z, ta = .slice x y z := by
        obtain ⟨x, c, e, _⟩ := hta.open
        exact ⟨x, _, c, e⟩
      obtain ⟨b1, b2, b3, rfl⟩ : ∃ x y z, tb = .slice x y z := by
        obtain ⟨x, c, e, _⟩ := htb.open
        exact ⟨x, _, c, e⟩
      have hsame := refSame4_any (recV (.slice a1 a2 a3) l[k]) (recV (.slice b1 b2 b3) l[k]) l[k] l[k] wr.drew ⟨_, rfl, hta⟩ ⟨_, rfl, htb⟩
      rw [Rec.same_self] at hsame
      simp only [recV] at hsame
      obtain ⟨y0, hy0⟩ : ∃ q : Int, (l[k]).client = q := ⟨_, rfl⟩
      obtain ⟨y1, hy1⟩ : ∃ q : Int, (l[k]).number = q := ⟨_, rfl⟩
      obtain ⟨y3, hy3⟩ : ∃ q : ByteArray, (⟨(l[k]).data.toArray⟩ : ByteArray) = q := ⟨_, rfl⟩
      rw [hy0, hy1, hy3] at hsame
      rw [hy0] at p0 q0
      rw [hy1] at p1 q1
      rw [hy3] at p3 q3
      have HSAME := Lib.hid hsame
      clear hsame hc hd e2 e3 f2 f3 hta htb hy0 hy1 hy3
      go_wp2_with fail
      go_region_law (go_simp; go_at_call 16; refine HSAME.out.mono ?_; rintro e w4 ⟨rfl, hE4⟩)
      all_goals
        have hE5 := hEd.trans hE4
        clear hE4 p0 p1 p2 p3 q0 q1 q2 q3
        go_wp2_with fail
        go_roundw
        case rel => exact ⟨k + 1, by omega, by go_num, hE5⟩
        case measure => simp [intOf]; omega
    · obtain rfl : k = n := by omega
      go_wp2_with fail
      go_ret
      exact ⟨rfl, hE⟩
end Go.Proofs.YtfgjhagfpafmoaaGreat
