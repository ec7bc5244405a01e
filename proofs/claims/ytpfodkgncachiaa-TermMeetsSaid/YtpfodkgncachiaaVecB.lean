/-
  Layer 3, the program: what compares rows of numbers, and adds them up.
-/
import Derived.Test.YtpfodkgncachiaaVecA
namespace Go.Proofs.Ytpfodkgncachiaa
open Go.RowKit

theorem Vec.ge_none {a b : List Int} (hl : a.length = b.length) (k : Nat) (hk : k < a.length) (hb : k < b.length) (h : a[k] < b[k]) : Vec.ge a b = false := by
  rw [← Bool.not_eq_true, Vec.ge_iff a b hl]
  intro g
  have := g k hk hb
  omega
theorem Vec.ge_all {a b : List Int} (hl : a.length = b.length) (h : ∀ i, i < a.length → ∀ (h1 : i < a.length) (h2 : i < b.length), b[i] ≤ a[i]) : Vec.ge a b = true := by
  rw [Vec.ge_iff a b hl]
  intro i h1 h2
  exact h i h1 h1 h2

theorem list_ne {a b : List Int} (k : Nat) (h1 : k < a.length) (h2 : k < b.length) (h : a[k] ≠ b[k]) : (a == b) = false := by
  rw [beq_eq_false_iff_ne]
  rintro rfl
  exact h rfl
theorem list_same {a b : List Int} (hl : a.length = b.length) (h : ∀ i, i < a.length → ∀ (h1 : i < a.length) (h2 : i < b.length), a[i] = b[i]) : (a == b) = true := by
  rw [beq_iff_eq]
  exact List.ext_getElem hl fun i h1 h2 => h i h1 h1 h2
theorem list_other {a b : List Int} (hl : ¬ a.length = b.length) : (a == b) = false := by
  rw [beq_eq_false_iff_ne]
  rintro rfl
  exact hl rfl

set_option maxRecDepth 100000 in
set_option maxHeartbeats 1000000 in
theorem equalS_any (v u : Value) (ns ms : List Int) (w : World) (hv : Ints w v ns) (hu : Ints w u ms) :
    Calls Try.prog 25 #[v, u] w fun e w' => e = .returned (.bool (ns == ms)) ∧ Ext w w' := by
  have HV := Lib.hid hv
  have HU := Lib.hid hu
  obtain ⟨a, cap, rfl, hcap, hmax, _, hc⟩ := hv.open
  obtain ⟨a2, cap2, rfl, hcap2, hmax2, _, hc2⟩ := hu.open
  unfold maxLen at hmax hmax2
  clear hv hu
  by_cases hl : ns.length = ms.length
  · have h1' : ((ns.length : Int) == (ms.length : Int)) = true := by rw [hl]; simp
    have HC := Lib.hid hc
    have HC2 := Lib.hid hc2
    have HL := Lib.hid hl
    clear hc hc2 hl
    go_enter Try.func25, Try.ntmps25
    go_wp2_with fail
    go_loopw [5, 13] (fun _ i wr => ∃ k : Nat, k ≤ ns.length ∧ i = .int .i64 k ∧ Hid (∀ i, i < k → ∀ (h1 : i < ns.length) (h2 : i < ms.length), ns[i] = ms[i]) ∧ Ext w wr) (fun _ i _ => ns.length - (intOf i).toNat)
    case atStart => exact ⟨0, by omega, rfl, fun i hi => absurd hi (by omega), Ext.refl _⟩
    case round =>
      obtain ⟨k, hk, rfl, hr, hE⟩ := hrel
      by_cases hlt : k < ns.length
      · have hlt2 : k < ms.length := by have := HL.out; omega
        obtain ⟨a', cap', e', _, _, _, hc⟩ := ((HV.out.below hE).below (Ext.drew wr)).open
        obtain ⟨b, off, rfl, hcell⟩ := hc k hlt
        injection e' with e1 e2 e3
        subst e1
        obtain ⟨a3, cap3, e', _, _, _, hc2⟩ := ((HU.out.below hE).below (Ext.drew wr)).open
        obtain ⟨b2, off2, rfl, hcell2⟩ := hc2 k hlt2
        injection e' with e4 e5 e6
        subst e4
        clear hc hc2 e2 e3 e5 e6
        by_cases h0 : ns[k] = ms[k]
        · have h0' : (ns[k] == ms[k]) = true := by rw [h0]; simp
          have H0 := Lib.hid h0
          clear h0
          go_wp2_with fail
          go_region
          go_wp2
          go_roundw
          case rel =>
            refine ⟨k + 1, by omega, by go_num, fun i hi h1 h2 => ?_, hE.trans (Ext.drew _)⟩
            rcases Nat.lt_or_ge i k with h | h
            · exact hr.out i h h1 h2
            · obtain rfl : i = k := by omega
              exact H0.out
          case measure => simp [intOf]; omega
        · have h0' : (ns[k] == ms[k]) = false := by rw [beq_eq_false_iff_ne]; exact h0
          have H0 := Lib.hid (list_ne k hlt hlt2 h0)
          clear h0
          go_wp2_with fail
          go_region
          go_wp2
          go_ret
          exact ⟨by rw [H0.out]; rfl, hE.trans (Ext.drew _)⟩
      · have hs := Lib.hid (list_same HL.out (fun i h => hr.out i (by omega)))
        clear hr
        go_wp2
        go_ret
        exact ⟨by rw [hs.out]; rfl, hE⟩
  · have h1' : ((ns.length : Int) == (ms.length : Int)) = false := by rw [beq_eq_false_iff_ne]; omega
    have HL := Lib.hid (list_other hl)
    clear hc hc2 hl
    go_enter Try.func25, Try.ntmps25
    go_wp2
    go_ret
    exact ⟨by rw [HL.out]; rfl, Ext.refl _⟩

theorem Vec.same_is (a b : List Int) : Vec.same a b = (Vec.kind a b && (a == b)) := by
  rw [Bool.eq_iff_iff, Bool.and_eq_true, beq_iff_eq]
  constructor
  · intro h
    refine ⟨?_, Vec.same_eq h⟩
    unfold Vec.same at h
    simp only [Bool.and_eq_true] at h
    exact Vec.covers_kind h.1
  · rintro ⟨h, rfl⟩
    exact Vec.same_self (Vec.kind_ok h).1

theorem ints_sum_snoc (l : List Int) (x : Int) : (l ++ [x]).sum = l.sum + x := by simp
theorem sum_take_bound {v : List Int} (h : Vec.right v = true) (k : Nat) : 0 ≤ (v.take k).sum ∧ (v.take k).sum ≤ 8796093022208 := by
  obtain ⟨h1, _, h3⟩ := Vec.right_ok h
  have := Vec.sum_bound (v.take k) (fun x hx => h1 x (List.mem_of_mem_take hx))
  have h4 : (v.take k).length ≤ 8 := by simp; omega
  omega

end Go.Proofs.Ytpfodkgncachiaa
