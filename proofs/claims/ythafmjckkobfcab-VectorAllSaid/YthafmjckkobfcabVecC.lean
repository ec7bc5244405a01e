/-
  Layer 3, the program: what makes vectors of two, number by number.
-/
import Derived.Test.YthafmjckkobfcabVecB
import Derived.Deep.RegionWith
namespace Go.Proofs.Ythafmjckkobfcab
open Go.RowKit

set_option maxRecDepth 100000 in
set_option maxHeartbeats 1000000 in
theorem bigOne_any (x y : Int) (w : World) : Calls Try.prog 54 #[.int .i64 x, .int .i64 y] w fun e w' => e = .returned (.int .i64 (Vec.big x y)) ∧ w = w' := by
  unfold Vec.big
  by_cases h : x < y
  · rw [if_pos h]
    go_enter Try.func54, Try.ntmps54
    go_wp2
    go_ret
    exact ⟨rfl, rfl⟩
  · rw [if_neg h]
    go_enter Try.func54, Try.ntmps54
    go_wp2
    go_ret
    exact ⟨rfl, rfl⟩
theorem Vec.small_is (x y : Int) : Vec.small x y = if y < x then y else x := by unfold Vec.small; split <;> split <;> omega
set_option maxRecDepth 100000 in
set_option maxHeartbeats 1000000 in
theorem smallOne_any (x y : Int) (w : World) : Calls Try.prog 56 #[.int .i64 x, .int .i64 y] w fun e w' => e = .returned (.int .i64 (Vec.small x y)) ∧ w = w' := by
  rw [Vec.small_is]
  by_cases h : y < x
  · rw [if_pos h]
    go_enter Try.func56, Try.ntmps56
    go_wp2
    go_ret
    exact ⟨rfl, rfl⟩
  · rw [if_neg h]
    go_enter Try.func56, Try.ntmps56
    go_wp2
    go_ret
    exact ⟨rfl, rfl⟩
set_option maxRecDepth 100000 in
set_option maxHeartbeats 1000000 in
theorem lessOne_any (x y : Int) (w : World) (hx : 0 ≤ x ∧ x ≤ 1099511627776) (hy : 0 ≤ y ∧ y ≤ 1099511627776) : Calls Try.prog 57 #[.int .i64 x, .int .i64 y] w fun e w' => e = .returned (.int .i64 (x - y)) ∧ w = w' := by
  go_enter Try.func57, Try.ntmps57
  go_wp2
  go_ret
  exact ⟨rfl, rfl⟩

/-- What is there when k numbers are made. -/
def part (f : Int → Int → Int) (a b : List Int) (k : Nat) : List Int := List.zipWith f (a.take k) (b.take k) ++ List.replicate (a.length - k) 0
theorem part_zero (f : Int → Int → Int) (a b : List Int) : part f a b 0 = List.replicate a.length 0 := by simp [part]
theorem part_all (f : Int → Int → Int) (a b : List Int) (h : a.length = b.length) : part f a b a.length = List.zipWith f a b := by
  unfold part
  rw [List.take_length, h, List.take_length]
  simp
theorem part_len (f : Int → Int → Int) (a b : List Int) (k : Nat) (h : a.length = b.length) (hk : k ≤ a.length) : (part f a b k).length = a.length := by
  simp [part]; omega
theorem part_succ (f : Int → Int → Int) (a b : List Int) (k : Nat) (h : a.length = b.length) (hk : k < a.length) (hk2 : k < b.length) : part f a b (k + 1) = (part f a b k).set k (f a[k] b[k]) := by
  have hz : (List.zipWith f (a.take k) (b.take k)).length = k := by simp; omega
  unfold part
  rw [List.set_append_right _ _ (by omega), hz, Nat.sub_self, take_succ_getD a k hk, take_succ_getD b k hk2, List.zipWith_append (by simp; omega)]
  rw [show a.length - k = (a.length - (k + 1)) + 1 from by omega, List.replicate_succ, List.set_cons_zero]
  simp
theorem zip_len (f : Int → Int → Int) {a b : List Int} (h : a.length = b.length) : (List.zipWith f a b).length = a.length := by simp; omega
theorem i64s_set (l : List Int) (k : Nat) (x : Int) : i64s (l.set k x) = (i64s l).set k (.int .i64 x) := by simp [i64s, List.map_set]

set_option maxRecDepth 100000 in
set_option maxHeartbeats 4000000 in
theorem togetherMax_any (v u : Value) (ns ms : List Int) (w : World) (hv : Ints w v ns) (hu : Ints w u ms) :
    Calls Try.prog 53 #[v, u, .func (.func 54) #[] #[]] w (GivesInts w (orNone (Vec.kind ns ms) (List.zipWith Vec.big ns ms)) (Vec.kind ns ms)) := by
  have HV := Lib.hid hv
  have HU := Lib.hid hu
  obtain ⟨a, cap, rfl, hcap, hmax, _, hc⟩ := hv.open
  obtain ⟨a2, cap2, rfl, hcap2, hmax2, _, hc2⟩ := hu.open
  unfold maxLen at hmax hmax2
  clear hv hu hc hc2
  cases hk : Vec.kind ns ms with
  | false =>
    have HK := Lib.hid hk
    clear hk
    go_enter Try.func53, Try.ntmps53
    go_wp2_with fail
    refine (oneKind_any _ _ ns ms _ HV.out HU.out).mono ?_
    rintro e w1 ⟨rfl, rfl⟩
    rw [HK.out]
    go_wp2_with fail
    go_ret2
    exact ⟨_, rfl, ints_none _, Ext.refl _⟩
  | true =>
    have HK := Lib.hid hk
    have HL := Lib.hid (Vec.kind_ok hk).2.2
    have hR := Vec.right_ok (Vec.kind_ok hk).1
    have hz : zeros (ns.length : Nat) = List.replicate ns.length 0 := by unfold zeros; rw [if_pos (by omega)]; simp
    have hn1 := hR.2.1
    have HR := Lib.hid hR
    have HR2 := Lib.hid (Vec.right_ok (Vec.kind_ok hk).2.1)
    clear hk hR
    go_enter Try.func53, Try.ntmps53
    go_wp2_with fail
    refine (oneKind_any _ _ ns ms _ HV.out HU.out).mono ?_
    rintro e w1 ⟨rfl, rfl⟩
    rw [HK.out]
    go_wp2_with fail
    refine (zero_any _ _).mono ?_
    rintro e w1 ⟨v1, rfl, ho1, hb1⟩
    rw [hz] at ho1
    clear hz
    unfold OwnI at ho1
    rw [List.length_replicate] at ho1
    obtain ⟨g, cap1, rfl⟩ := Joins.ownsRow_form ho1 (by omega)
    have hg := ho1.lt g rfl
    have hge := hg.1
    clear hg
    go_wp2_with fail
    go_loopw [9, 19] (fun _ i wr => ∃ k : Nat, k ≤ ns.length ∧ i = .int .i64 k ∧ wr.ownsRow w.heap.size 3 1 (.slice (some ⟨g, 0, none⟩) ns.length cap1) ns.length (i64s (part Vec.big ns ms k)) ∧ Ext w wr) (fun _ i _ => ns.length - (intOf i).toNat)
    case atStart => exact ⟨0, by omega, rfl, by rw [part_zero]; exact ho1, hb1⟩
    case round =>
      obtain ⟨k, hk, rfl, ho, hE⟩ := hrel
      by_cases hlt : k < ns.length
      · have hlt2 : k < ms.length := by have := HL.out; omega
        obtain ⟨a', cap', e', _, _, _, hc⟩ := ((HV.out.below hE).below (Ext.drew wr)).open
        obtain ⟨b, off, rfl, hcell⟩ := hc k hlt
        injection e' with e1 e2 e3
        subst e1
        obtain ⟨a3, cap3, e', _, _, _, hc2⟩ := ((HU.out.below hE).below (Ext.drew wr)).open
        obtain ⟨b2, off2, rfl, hcell2⟩ := hc2 k hlt2
        injection e' with e4 e5 e6
        subst e4
        clear hc hc2 e2 e3 e5 e6
        have hst := ho.drew.stored k (.int .i64 (Vec.big ns[k] ms[k]))
        rw [← i64s_set, ← part_succ Vec.big ns ms k HL.out hlt hlt2] at hst
        have hco : wr.drew.cell? ⟨g, k, none⟩ = some (.int .i64 ((part Vec.big ns ms k)[k]'(by rw [part_len _ _ _ _ HL.out (by omega)]; exact hlt))) := by
          rw [ho.drew.cellAt k (by omega)]
          simp [i64s]
        have hfo := ho.drew.frozenAt k
        have HO := Lib.hid hst
        clear ho hst
        go_wp2_with fail
        go_region_with (go_at_call 54; refine (bigOne_any _ _ _).mono ?_; rintro e w' ⟨rfl, rfl⟩)
        all_goals
          go_wp2
          go_roundw
          case rel => exact ⟨k + 1, by omega, by go_num, HO.out.1, (hE.setCell (p := ⟨g, k, none⟩) hge _).drew⟩
          case measure => simp [intOf]; omega
      · obtain rfl : k = ns.length := by omega
        rw [part_all _ _ _ HL.out] at ho
        go_wp2
        go_ret2
        exact ⟨_, rfl, Sl.ofOwn (by simpa [zip_len Vec.big HL.out] using ho), hE⟩
def less (x y : Int) : Int := x - y
set_option maxRecDepth 100000 in
set_option maxHeartbeats 4000000 in
theorem togetherMin_any (v u : Value) (ns ms : List Int) (w : World) (hv : Ints w v ns) (hu : Ints w u ms) :
    Calls Try.prog 53 #[v, u, .func (.func 56) #[] #[]] w (GivesInts w (orNone (Vec.kind ns ms) (List.zipWith Vec.small ns ms)) (Vec.kind ns ms)) := by
  have HV := Lib.hid hv
  have HU := Lib.hid hu
  obtain ⟨a, cap, rfl, hcap, hmax, _, hc⟩ := hv.open
  obtain ⟨a2, cap2, rfl, hcap2, hmax2, _, hc2⟩ := hu.open
  unfold maxLen at hmax hmax2
  clear hv hu hc hc2
  cases hk : Vec.kind ns ms with
  | false =>
    have HK := Lib.hid hk
    clear hk
    go_enter Try.func53, Try.ntmps53
    go_wp2_with fail
    refine (oneKind_any _ _ ns ms _ HV.out HU.out).mono ?_
    rintro e w1 ⟨rfl, rfl⟩
    rw [HK.out]
    go_wp2_with fail
    go_ret2
    exact ⟨_, rfl, ints_none _, Ext.refl _⟩
  | true =>
    have HK := Lib.hid hk
    have HL := Lib.hid (Vec.kind_ok hk).2.2
    have hR := Vec.right_ok (Vec.kind_ok hk).1
    have hz : zeros (ns.length : Nat) = List.replicate ns.length 0 := by unfold zeros; rw [if_pos (by omega)]; simp
    have hn1 := hR.2.1
    have HR := Lib.hid hR
    have HR2 := Lib.hid (Vec.right_ok (Vec.kind_ok hk).2.1)
    clear hk hR
    go_enter Try.func53, Try.ntmps53
    go_wp2_with fail
    refine (oneKind_any _ _ ns ms _ HV.out HU.out).mono ?_
    rintro e w1 ⟨rfl, rfl⟩
    rw [HK.out]
    go_wp2_with fail
    refine (zero_any _ _).mono ?_
    rintro e w1 ⟨v1, rfl, ho1, hb1⟩
    rw [hz] at ho1
    clear hz
    unfold OwnI at ho1
    rw [List.length_replicate] at ho1
    obtain ⟨g, cap1, rfl⟩ := Joins.ownsRow_form ho1 (by omega)
    have hg := ho1.lt g rfl
    have hge := hg.1
    clear hg
    go_wp2_with fail
    go_loopw [9, 19] (fun _ i wr => ∃ k : Nat, k ≤ ns.length ∧ i = .int .i64 k ∧ wr.ownsRow w.heap.size 3 1 (.slice (some ⟨g, 0, none⟩) ns.length cap1) ns.length (i64s (part Vec.small ns ms k)) ∧ Ext w wr) (fun _ i _ => ns.length - (intOf i).toNat)
    case atStart => exact ⟨0, by omega, rfl, by rw [part_zero]; exact ho1, hb1⟩
    case round =>
      obtain ⟨k, hk, rfl, ho, hE⟩ := hrel
      by_cases hlt : k < ns.length
      · have hlt2 : k < ms.length := by have := HL.out; omega
        obtain ⟨a', cap', e', _, _, _, hc⟩ := ((HV.out.below hE).below (Ext.drew wr)).open
        obtain ⟨b, off, rfl, hcell⟩ := hc k hlt
        injection e' with e1 e2 e3
        subst e1
        obtain ⟨a3, cap3, e', _, _, _, hc2⟩ := ((HU.out.below hE).below (Ext.drew wr)).open
        obtain ⟨b2, off2, rfl, hcell2⟩ := hc2 k hlt2
        injection e' with e4 e5 e6
        subst e4
        clear hc hc2 e2 e3 e5 e6
        have hst := ho.drew.stored k (.int .i64 (Vec.small ns[k] ms[k]))
        rw [← i64s_set, ← part_succ Vec.small ns ms k HL.out hlt hlt2] at hst
        have hco : wr.drew.cell? ⟨g, k, none⟩ = some (.int .i64 ((part Vec.small ns ms k)[k]'(by rw [part_len _ _ _ _ HL.out (by omega)]; exact hlt))) := by
          rw [ho.drew.cellAt k (by omega)]
          simp [i64s]
        have hfo := ho.drew.frozenAt k
        have HO := Lib.hid hst
        clear ho hst
        go_wp2_with fail
        go_region_with (go_at_call 56; refine (smallOne_any _ _ _).mono ?_; rintro e w' ⟨rfl, rfl⟩)
        all_goals
          go_wp2
          go_roundw
          case rel => exact ⟨k + 1, by omega, by go_num, HO.out.1, (hE.setCell (p := ⟨g, k, none⟩) hge _).drew⟩
          case measure => simp [intOf]; omega
      · obtain rfl : k = ns.length := by omega
        rw [part_all _ _ _ HL.out] at ho
        go_wp2
        go_ret2
        exact ⟨_, rfl, Sl.ofOwn (by simpa [zip_len Vec.small HL.out] using ho), hE⟩
set_option maxRecDepth 100000 in
set_option maxHeartbeats 4000000 in
theorem togetherGain_any (v u : Value) (ns ms : List Int) (w : World) (hv : Ints w v ns) (hu : Ints w u ms) :
    Calls Try.prog 53 #[v, u, .func (.func 57) #[] #[]] w (GivesInts w (orNone (Vec.kind ns ms) (List.zipWith less ns ms)) (Vec.kind ns ms)) := by
  have HV := Lib.hid hv
  have HU := Lib.hid hu
  obtain ⟨a, cap, rfl, hcap, hmax, _, hc⟩ := hv.open
  obtain ⟨a2, cap2, rfl, hcap2, hmax2, _, hc2⟩ := hu.open
  unfold maxLen at hmax hmax2
  clear hv hu hc hc2
  cases hk : Vec.kind ns ms with
  | false =>
    have HK := Lib.hid hk
    clear hk
    go_enter Try.func53, Try.ntmps53
    go_wp2_with fail
    refine (oneKind_any _ _ ns ms _ HV.out HU.out).mono ?_
    rintro e w1 ⟨rfl, rfl⟩
    rw [HK.out]
    go_wp2_with fail
    go_ret2
    exact ⟨_, rfl, ints_none _, Ext.refl _⟩
  | true =>
    have HK := Lib.hid hk
    have HL := Lib.hid (Vec.kind_ok hk).2.2
    have hR := Vec.right_ok (Vec.kind_ok hk).1
    have hz : zeros (ns.length : Nat) = List.replicate ns.length 0 := by unfold zeros; rw [if_pos (by omega)]; simp
    have hn1 := hR.2.1
    have HR := Lib.hid hR
    have HR2 := Lib.hid (Vec.right_ok (Vec.kind_ok hk).2.1)
    clear hk hR
    go_enter Try.func53, Try.ntmps53
    go_wp2_with fail
    refine (oneKind_any _ _ ns ms _ HV.out HU.out).mono ?_
    rintro e w1 ⟨rfl, rfl⟩
    rw [HK.out]
    go_wp2_with fail
    refine (zero_any _ _).mono ?_
    rintro e w1 ⟨v1, rfl, ho1, hb1⟩
    rw [hz] at ho1
    clear hz
    unfold OwnI at ho1
    rw [List.length_replicate] at ho1
    obtain ⟨g, cap1, rfl⟩ := Joins.ownsRow_form ho1 (by omega)
    have hg := ho1.lt g rfl
    have hge := hg.1
    clear hg
    go_wp2_with fail
    go_loopw [9, 19] (fun _ i wr => ∃ k : Nat, k ≤ ns.length ∧ i = .int .i64 k ∧ wr.ownsRow w.heap.size 3 1 (.slice (some ⟨g, 0, none⟩) ns.length cap1) ns.length (i64s (part less ns ms k)) ∧ Ext w wr) (fun _ i _ => ns.length - (intOf i).toNat)
    case atStart => exact ⟨0, by omega, rfl, by rw [part_zero]; exact ho1, hb1⟩
    case round =>
      obtain ⟨k, hk, rfl, ho, hE⟩ := hrel
      by_cases hlt : k < ns.length
      · have hlt2 : k < ms.length := by have := HL.out; omega
        obtain ⟨a', cap', e', _, _, _, hc⟩ := ((HV.out.below hE).below (Ext.drew wr)).open
        obtain ⟨b, off, rfl, hcell⟩ := hc k hlt
        injection e' with e1 e2 e3
        subst e1
        obtain ⟨a3, cap3, e', _, _, _, hc2⟩ := ((HU.out.below hE).below (Ext.drew wr)).open
        obtain ⟨b2, off2, rfl, hcell2⟩ := hc2 k hlt2
        injection e' with e4 e5 e6
        subst e4
        clear hc hc2 e2 e3 e5 e6
        have hst := ho.drew.stored k (.int .i64 ((ns[k] - ms[k])))
        rw [← i64s_set, show ns[k] - ms[k] = less ns[k] ms[k] from rfl, ← part_succ less ns ms k HL.out hlt hlt2] at hst
        have hco : wr.drew.cell? ⟨g, k, none⟩ = some (.int .i64 ((part less ns ms k)[k]'(by rw [part_len _ _ _ _ HL.out (by omega)]; exact hlt))) := by
          rw [ho.drew.cellAt k (by omega)]
          simp [i64s]
        have hfo := ho.drew.frozenAt k
        have HO := Lib.hid hst
        clear ho hst
        go_wp2_with fail
        go_region_with (go_at_call 57; refine (lessOne_any _ _ _ (HR.out.1 _ (List.getElem_mem _)) (HR2.out.1 _ (List.getElem_mem _))).mono ?_; rintro e w' ⟨rfl, rfl⟩)
        all_goals
          go_wp2
          go_roundw
          case rel => exact ⟨k + 1, by omega, by go_num, HO.out.1, (hE.setCell (p := ⟨g, k, none⟩) hge _).drew⟩
          case measure => simp [intOf]; omega
      · obtain rfl : k = ns.length := by omega
        rw [part_all _ _ _ HL.out] at ho
        go_wp2
        go_ret2
        exact ⟨_, rfl, Sl.ofOwn (by simpa [zip_len less HL.out] using ho), hE⟩
end Go.Proofs.Ythafmjckkobfcab
