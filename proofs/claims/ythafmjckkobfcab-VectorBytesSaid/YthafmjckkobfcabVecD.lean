/-
  Layer 3, the program and the document's own answers: what is greater, lesser, ahead; what is raised.
-/
import Derived.Test.YthafmjckkobfcabVecC
import Derived.Deep.RegionLaw
namespace Go.Proofs.Ythafmjckkobfcab
open Go.RowKit

set_option maxRecDepth 100000 in
set_option maxHeartbeats 1000000 in
theorem max_any (v u : Value) (ns ms : List Int) (w : World) (hv : Ints w v ns) (hu : Ints w u ms) :
    Calls Try.prog 19 #[v, u] w (GivesInts w (orNone (Vec.kind ns ms) (Vec.max ns ms)) (Vec.kind ns ms)) := by
  have hz := togetherMax_any v u ns ms w hv hu
  have HZ := Lib.hid hz
  clear hz hv hu
  go_enter Try.func19, Try.ntmps19
  go_wp2_with fail
  refine HZ.out.mono ?_
  rintro e w1 ⟨v1, rfl, hi1, hE1⟩
  go_wp2_with fail
  go_ret2
  exact ⟨_, rfl, hi1, hE1⟩

set_option maxRecDepth 100000 in
set_option maxHeartbeats 1000000 in
theorem min_any (v u : Value) (ns ms : List Int) (w : World) (hv : Ints w v ns) (hu : Ints w u ms) :
    Calls Try.prog 22 #[v, u] w (GivesInts w (orNone (Vec.kind ns ms) (Vec.min ns ms)) (Vec.kind ns ms)) := by
  have hz := togetherMin_any v u ns ms w hv hu
  have HZ := Lib.hid hz
  clear hz hv hu
  go_enter Try.func22, Try.ntmps22
  go_wp2_with fail
  refine HZ.out.mono ?_
  rintro e w1 ⟨v1, rfl, hi1, hE1⟩
  go_wp2_with fail
  go_ret2
  exact ⟨_, rfl, hi1, hE1⟩

set_option maxRecDepth 100000 in
set_option maxHeartbeats 1000000 in
theorem gain_any (v u : Value) (ns ms : List Int) (w : World) (hv : Ints w v ns) (hu : Ints w u ms) :
    Calls Try.prog 24 #[v, u] w (GivesInts w (orNone (Vec.covers ns ms) (Vec.gain ns ms)) (Vec.covers ns ms)) := by
  have HC := Lib.hid (covers_any v u ns ms w hv hu)
  cases hc : Vec.covers ns ms with
  | false =>
    have HK := Lib.hid hc
    clear hc hv hu
    go_enter Try.func24, Try.ntmps24
    go_wp2_with fail
    refine HC.out.mono ?_
    rintro e w1 ⟨rfl, rfl⟩
    rw [HK.out]
    go_wp2_with fail
    go_ret2
    exact ⟨_, rfl, ints_none _, Ext.refl _⟩
  | true =>
    have HK := Lib.hid hc
    have hz := togetherGain_any v u ns ms w hv hu
    rw [Vec.covers_kind hc] at hz
    have HZ := Lib.hid hz
    clear hc hv hu hz
    go_enter Try.func24, Try.ntmps24
    go_wp2_with fail
    refine HC.out.mono ?_
    rintro e w1 ⟨rfl, rfl⟩
    rw [HK.out]
    go_wp2_with fail
    refine HZ.out.mono ?_
    rintro e w1 ⟨v1, rfl, hi1, hE1⟩
    go_wp2_with fail
    go_ret2
    exact ⟨_, rfl, hi1, hE1⟩

/-- One number behind an own row. -/
theorem ints_one (w : World) (x : Int) : Sl (w.alloc (.cells #[.int .i64 x] 3)) (.slice (some ⟨w.heap.size, 0, none⟩) 1 1) (i64s [x]) := Ints.one w x
theorem zip_take_succ (f : Int → Int → Int) (a b : List Int) (k : Nat) (h1 : k < a.length) (h2 : k < b.length) : (List.zipWith f a b).take (k + 1) = (List.zipWith f a b).take k ++ [f a[k] b[k]] := by
  rw [take_succ_getD _ k (by simp; omega), List.getElem_zipWith]
theorem take_len {α : Type} (l : List α) (k : Nat) (h : k ≤ l.length) : (l.take k).length = k := by simp; omega

set_option maxRecDepth 100000 in
set_option maxHeartbeats 4000000 in
theorem refMax_any (v u : Value) (ns ms : List Int) (w : World) (hv : Ints w v ns) (hu : Ints w u ms) :
    Calls Try.prog 20 #[v, u] w (GivesInts w (orNone (Vec.kind ns ms) (Vec.max ns ms)) (Vec.kind ns ms)) := by
  have HV := Lib.hid hv
  have HU := Lib.hid hu
  obtain ⟨a, cap, rfl, hcap, hmax, _, hc⟩ := hv.open
  obtain ⟨a2, cap2, rfl, hcap2, hmax2, _, hc2⟩ := hu.open
  unfold maxLen at hmax hmax2
  clear hv hu hc hc2
  cases hk : Vec.kind ns ms with
  | false =>
    have HK := Lib.hid hk
    clear hk
    go_enter Try.func20, Try.ntmps20
    go_wp2_with fail
    refine (refKind_any _ _ ns ms _ HV.out HU.out).mono ?_
    rintro e w1 ⟨rfl, rfl⟩
    rw [HK.out]
    go_wp2_with fail
    go_ret2
    exact ⟨_, rfl, ints_none _, Ext.refl _⟩
  | true =>
    have HK := Lib.hid hk
    have HL := Lib.hid (Vec.kind_ok hk).2.2
    have HR := Lib.hid (Vec.right_ok (Vec.kind_ok hk).1)
    have HZ := Lib.hid (show (Vec.max ns ms).length = ns.length from zip_len Vec.big (Vec.kind_ok hk).2.2)
    clear hk
    go_enter Try.func20, Try.ntmps20
    go_wp2_with fail
    refine (refKind_any _ _ ns ms _ HV.out HU.out).mono ?_
    rintro e w1 ⟨rfl, rfl⟩
    rw [HK.out]
    go_wp2_with fail
    go_loopw [6, 7] (fun o i wr => ∃ k : Nat, k ≤ ns.length ∧ i = .int .i64 k ∧ wr.ownsRow w.heap.size 3 1 o k (i64s ((Vec.max ns ms).take k)) ∧ Ext w wr) (fun _ i _ => ns.length - (intOf i).toNat)
    case atStart => exact ⟨0, by omega, rfl, World.ownsRow_nil _ _ _ _, Ext.refl _⟩
    case round =>
      obtain ⟨k, hk, rfl, ho, hE⟩ := hrel
      by_cases hlt : k < ns.length
      · have hlt2 : k < ms.length := by have := HL.out; omega
        obtain ⟨a', cap', e', _, _, _, hc⟩ := ((HV.out.below hE).below (Ext.drew wr)).open
        obtain ⟨b, off, rfl, hcell⟩ := hc k hlt
        injection e' with e1 e2 e3
        subst e1
        obtain ⟨a3, cap3, e', _, _, _, hc2⟩ := ((HU.out.below hE).below (Ext.drew wr)).open
        obtain ⟨b2, off2, rfl, hcell2⟩ := hc2 k hlt2
        injection e' with e4 e5 e6
        subst e4
        clear hc hc2 e2 e3 e5 e6
        have hsz := hE.size
        have hk8 : k < 8 := by have := HR.out; omega
        have hz := zip_take_succ Vec.big ns ms k hlt hlt2
        have hd := ho.drew
        by_cases h0 : ns[k] < ms[k]
        · have HX := Lib.hid (show i64s ((Vec.max ns ms).take k) ++ i64s [ms[k]] = i64s ((Vec.max ns ms).take (k + 1)) by
            rw [← i64s_append]; congr 1; rw [show (Vec.max ns ms).take (k + 1) = _ from hz]; unfold Vec.big; rw [if_pos h0]; rfl)
          clear hz
          have hone := i64s_one [ms[k]]
          go_wp2_with fail
          go_region
          go_wp2_with (at_builtin; refine wpList_app rfl (.tmp 27) (.tmp 32) tI rfl (base := w.heap.size) (n := k) (xs := i64s ((Vec.max ns ms).take k)) (ys := i64s [ms[k]]) rfl rfl (hd.alloc _) (ints_one _ _) hone ?c3 ?c4 ?c5 ?_; rotate_right; intro v2 w2 hown2 hg2)
          case c3 => (try simp only [i64s_length, List.length_cons, List.length_nil]); (try unfold maxLen); omega
          case c4 => (try simp only [i64s_length, List.length_cons, List.length_nil]); omega
          case c5 => show _ ≤ (wr.alloc _).heap.size; rw [World.size_alloc]; omega
          go_roundw
          case rel =>
            rw [HX.out] at hown2
            exact ⟨k + 1, by omega, by go_num, by simpa using hown2, ((Below.drew hE).alloc hsz _).grown hg2 (by show _ ≤ (wr.alloc _).heap.size; rw [World.size_alloc]; omega) (fun j hj => (hd.lt j hj).1)⟩
          case measure => simp [intOf]; omega
        · have HX := Lib.hid (show i64s ((Vec.max ns ms).take k) ++ i64s [ns[k]] = i64s ((Vec.max ns ms).take (k + 1)) by
            rw [← i64s_append]; congr 1; rw [show (Vec.max ns ms).take (k + 1) = _ from hz]; unfold Vec.big; rw [if_neg h0]; rfl)
          clear hz
          have hone := i64s_one [ns[k]]
          go_wp2_with fail
          go_region
          go_wp2_with (at_builtin; refine wpList_app rfl (.tmp 34) (.tmp 39) tI rfl (base := w.heap.size) (n := k) (xs := i64s ((Vec.max ns ms).take k)) (ys := i64s [ns[k]]) rfl rfl (hd.alloc _) (ints_one _ _) hone ?c3 ?c4 ?c5 ?_; rotate_right; intro v2 w2 hown2 hg2)
          case c3 => (try simp only [i64s_length, List.length_cons, List.length_nil]); (try unfold maxLen); omega
          case c4 => (try simp only [i64s_length, List.length_cons, List.length_nil]); omega
          case c5 => show _ ≤ (wr.alloc _).heap.size; rw [World.size_alloc]; omega
          go_roundw
          case rel =>
            rw [HX.out] at hown2
            exact ⟨k + 1, by omega, by go_num, by simpa using hown2, ((Below.drew hE).alloc hsz _).grown hg2 (by show _ ≤ (wr.alloc _).heap.size; rw [World.size_alloc]; omega) (fun j hj => (hd.lt j hj).1)⟩
          case measure => simp [intOf]; omega
      · have hs := Lib.hid (show (Vec.max ns ms).take k = Vec.max ns ms from List.take_of_length_le (by have := HZ.out; omega))
        go_wp2
        go_ret2
        exact ⟨_, rfl, by show Ints _ _ (Vec.max ns ms); rw [← hs.out]; exact Sl.ofOwn (by simpa [take_len _ k (by rw [HZ.out]; exact hk)] using ho), hE⟩

set_option maxRecDepth 100000 in
set_option maxHeartbeats 4000000 in
theorem refMin_any (v u : Value) (ns ms : List Int) (w : World) (hv : Ints w v ns) (hu : Ints w u ms) :
    Calls Try.prog 23 #[v, u] w (GivesInts w (orNone (Vec.kind ns ms) (Vec.min ns ms)) (Vec.kind ns ms)) := by
  have HV := Lib.hid hv
  have HU := Lib.hid hu
  obtain ⟨a, cap, rfl, hcap, hmax, _, hc⟩ := hv.open
  obtain ⟨a2, cap2, rfl, hcap2, hmax2, _, hc2⟩ := hu.open
  unfold maxLen at hmax hmax2
  clear hv hu hc hc2
  cases hk : Vec.kind ns ms with
  | false =>
    have HK := Lib.hid hk
    clear hk
    go_enter Try.func23, Try.ntmps23
    go_wp2_with fail
    refine (refKind_any _ _ ns ms _ HV.out HU.out).mono ?_
    rintro e w1 ⟨rfl, rfl⟩
    rw [HK.out]
    go_wp2_with fail
    go_ret2
    exact ⟨_, rfl, ints_none _, Ext.refl _⟩
  | true =>
    have HK := Lib.hid hk
    have HL := Lib.hid (Vec.kind_ok hk).2.2
    have HR := Lib.hid (Vec.right_ok (Vec.kind_ok hk).1)
    have HZ := Lib.hid (show (Vec.min ns ms).length = ns.length from zip_len Vec.small (Vec.kind_ok hk).2.2)
    clear hk
    go_enter Try.func23, Try.ntmps23
    go_wp2_with fail
    refine (refKind_any _ _ ns ms _ HV.out HU.out).mono ?_
    rintro e w1 ⟨rfl, rfl⟩
    rw [HK.out]
    go_wp2_with fail
    go_loopw [6, 7] (fun o i wr => ∃ k : Nat, k ≤ ns.length ∧ i = .int .i64 k ∧ wr.ownsRow w.heap.size 3 1 o k (i64s ((Vec.min ns ms).take k)) ∧ Ext w wr) (fun _ i _ => ns.length - (intOf i).toNat)
    case atStart => exact ⟨0, by omega, rfl, World.ownsRow_nil _ _ _ _, Ext.refl _⟩
    case round =>
      obtain ⟨k, hk, rfl, ho, hE⟩ := hrel
      by_cases hlt : k < ns.length
      · have hlt2 : k < ms.length := by have := HL.out; omega
        obtain ⟨a', cap', e', _, _, _, hc⟩ := ((HV.out.below hE).below (Ext.drew wr)).open
        obtain ⟨b, off, rfl, hcell⟩ := hc k hlt
        injection e' with e1 e2 e3
        subst e1
        obtain ⟨a3, cap3, e', _, _, _, hc2⟩ := ((HU.out.below hE).below (Ext.drew wr)).open
        obtain ⟨b2, off2, rfl, hcell2⟩ := hc2 k hlt2
        injection e' with e4 e5 e6
        subst e4
        clear hc hc2 e2 e3 e5 e6
        have hsz := hE.size
        have hk8 : k < 8 := by have := HR.out; omega
        have hz := zip_take_succ Vec.small ns ms k hlt hlt2
        have hd := ho.drew
        by_cases h0 : ns[k] < ms[k]
        · have HX := Lib.hid (show i64s ((Vec.min ns ms).take k) ++ i64s [ns[k]] = i64s ((Vec.min ns ms).take (k + 1)) by
            rw [← i64s_append]; congr 1; rw [show (Vec.min ns ms).take (k + 1) = _ from hz]; unfold Vec.small; rw [if_pos h0]; rfl)
          clear hz
          have hone := i64s_one [ns[k]]
          go_wp2_with fail
          go_region
          go_wp2_with (at_builtin; refine wpList_app rfl (.tmp 27) (.tmp 32) tI rfl (base := w.heap.size) (n := k) (xs := i64s ((Vec.min ns ms).take k)) (ys := i64s [ns[k]]) rfl rfl (hd.alloc _) (ints_one _ _) hone ?c3 ?c4 ?c5 ?_; rotate_right; intro v2 w2 hown2 hg2)
          case c3 => (try simp only [i64s_length, List.length_cons, List.length_nil]); (try unfold maxLen); omega
          case c4 => (try simp only [i64s_length, List.length_cons, List.length_nil]); omega
          case c5 => show _ ≤ (wr.alloc _).heap.size; rw [World.size_alloc]; omega
          go_roundw
          case rel =>
            rw [HX.out] at hown2
            exact ⟨k + 1, by omega, by go_num, by simpa using hown2, ((Below.drew hE).alloc hsz _).grown hg2 (by show _ ≤ (wr.alloc _).heap.size; rw [World.size_alloc]; omega) (fun j hj => (hd.lt j hj).1)⟩
          case measure => simp [intOf]; omega
        · have HX := Lib.hid (show i64s ((Vec.min ns ms).take k) ++ i64s [ms[k]] = i64s ((Vec.min ns ms).take (k + 1)) by
            rw [← i64s_append]; congr 1; rw [show (Vec.min ns ms).take (k + 1) = _ from hz]; unfold Vec.small; rw [if_neg h0]; rfl)
          clear hz
          have hone := i64s_one [ms[k]]
          go_wp2_with fail
          go_region
          go_wp2_with (at_builtin; refine wpList_app rfl (.tmp 34) (.tmp 39) tI rfl (base := w.heap.size) (n := k) (xs := i64s ((Vec.min ns ms).take k)) (ys := i64s [ms[k]]) rfl rfl (hd.alloc _) (ints_one _ _) hone ?c3 ?c4 ?c5 ?_; rotate_right; intro v2 w2 hown2 hg2)
          case c3 => (try simp only [i64s_length, List.length_cons, List.length_nil]); (try unfold maxLen); omega
          case c4 => (try simp only [i64s_length, List.length_cons, List.length_nil]); omega
          case c5 => show _ ≤ (wr.alloc _).heap.size; rw [World.size_alloc]; omega
          go_roundw
          case rel =>
            rw [HX.out] at hown2
            exact ⟨k + 1, by omega, by go_num, by simpa using hown2, ((Below.drew hE).alloc hsz _).grown hg2 (by show _ ≤ (wr.alloc _).heap.size; rw [World.size_alloc]; omega) (fun j hj => (hd.lt j hj).1)⟩
          case measure => simp [intOf]; omega
      · have hs := Lib.hid (show (Vec.min ns ms).take k = Vec.min ns ms from List.take_of_length_le (by have := HZ.out; omega))
        go_wp2
        go_ret2
        exact ⟨_, rfl, by show Ints _ _ (Vec.min ns ms); rw [← hs.out]; exact Sl.ofOwn (by simpa [take_len _ k (by rw [HZ.out]; exact hk)] using ho), hE⟩

set_option maxRecDepth 100000 in
set_option maxHeartbeats 4000000 in
theorem refGain_any (v u : Value) (ns ms : List Int) (w : World) (hv : Ints w v ns) (hu : Ints w u ms) :
    Calls Try.prog 25 #[v, u] w (GivesInts w (orNone (Vec.covers ns ms) (Vec.gain ns ms)) (Vec.covers ns ms)) := by
  have HV := Lib.hid hv
  have HU := Lib.hid hu
  obtain ⟨a, cap, rfl, hcap, hmax, _, hc⟩ := hv.open
  obtain ⟨a2, cap2, rfl, hcap2, hmax2, _, hc2⟩ := hu.open
  unfold maxLen at hmax hmax2
  clear hv hu hc hc2
  cases hk : Vec.covers ns ms with
  | false =>
    have HK := Lib.hid hk
    clear hk
    go_enter Try.func25, Try.ntmps25
    go_wp2_with fail
    refine (refCovers_any _ _ ns ms _ HV.out HU.out).mono ?_
    rintro e w1 ⟨rfl, hE⟩
    rw [HK.out]
    go_wp2_with fail
    go_ret2
    exact ⟨_, rfl, ints_none _, hE⟩
  | true =>
    have HK := Lib.hid hk
    have hkk := Vec.covers_kind hk
    have HL := Lib.hid (Vec.kind_ok hkk).2.2
    have HR := Lib.hid (Vec.right_ok (Vec.kind_ok hkk).1)
    have HR2 := Lib.hid (Vec.right_ok (Vec.kind_ok hkk).2.1)
    have HZ := Lib.hid (show (Vec.gain ns ms).length = ns.length from zip_len _ (Vec.kind_ok hkk).2.2)
    clear hk hkk
    go_enter Try.func25, Try.ntmps25
    go_wp2_with fail
    refine (refCovers_any _ _ ns ms _ HV.out HU.out).mono ?_
    rintro e w1 ⟨rfl, hE1⟩
    rw [HK.out]
    go_wp2_with fail
    go_loopw [6, 7] (fun o i wr => ∃ k : Nat, k ≤ ns.length ∧ i = .int .i64 k ∧ wr.ownsRow w.heap.size 3 1 o k (i64s ((Vec.gain ns ms).take k)) ∧ Ext w wr) (fun _ i _ => ns.length - (intOf i).toNat)
    case atStart => exact ⟨0, by omega, rfl, World.ownsRow_nil _ _ _ _, hE1⟩
    case round =>
      obtain ⟨k, hk, rfl, ho, hE⟩ := hrel
      by_cases hlt : k < ns.length
      · have hlt2 : k < ms.length := by have := HL.out; omega
        obtain ⟨a', cap', e', _, _, _, hc⟩ := ((HV.out.below hE).below (Ext.drew wr)).open
        obtain ⟨b, off, rfl, hcell⟩ := hc k hlt
        injection e' with e1 e2 e3
        subst e1
        obtain ⟨a3, cap3, e', _, _, _, hc2⟩ := ((HU.out.below hE).below (Ext.drew wr)).open
        obtain ⟨b2, off2, rfl, hcell2⟩ := hc2 k hlt2
        injection e' with e4 e5 e6
        subst e4
        clear hc hc2 e2 e3 e5 e6
        have hsz := hE.size
        have hk8 : k < 8 := by have := HR.out; omega
        have hz := zip_take_succ (fun x y => x - y) ns ms k hlt hlt2
        have hd := ho.drew
        have hx := HR.out.1 _ (List.getElem_mem hlt)
        have hy := HR2.out.1 _ (List.getElem_mem hlt2)
        have HX := Lib.hid (show i64s ((Vec.gain ns ms).take k) ++ i64s [ns[k] - ms[k]] = i64s ((Vec.gain ns ms).take (k + 1)) by
            rw [← i64s_append]; congr 1; rw [show (Vec.gain ns ms).take (k + 1) = _ from hz]; rfl)
        clear hz
        have hone := i64s_one [ns[k] - ms[k]]
        have hwr : IntKind.i64.wrap (ns[k] - ms[k]) = ns[k] - ms[k] := IntWalk.i64_in _ (by omega)
        have hc3 : k + (i64s [ns[k] - ms[k]]).length ≤ maxLen := by simp [maxLen]; omega
        have hc4 : (k + (i64s [ns[k] - ms[k]]).length) * 8 ≤ 140737488355328 := by simp; omega
        have hc5 : w.heap.size ≤ (wr.drew.alloc (.cells #[.int .i64 (ns[k] - ms[k])] 3)).heap.size := by show _ ≤ (wr.alloc _).heap.size; rw [World.size_alloc]; omega
        have hone2 := ints_one wr.drew (ns[k] - ms[k])
        have hda := hd.alloc (.cells #[.int .i64 (ns[k] - ms[k])] 3)
        go_wp2_with fail
        go_region_law (rw [if_pos (by rfl)]; refine wp_app (.tmp 18) (.tmp 28) tI rfl rfl rfl hda hone2 hone hc3 hc4 hc5 ?_; intro v2 w2 hown2 hg2)
        all_goals
          go_wp2
          go_roundw
          case rel =>
            rw [HX.out] at hown2
            exact ⟨k + 1, by omega, by go_num, by simpa using hown2, ((Below.drew hE).alloc hsz _).grown hg2 (by show _ ≤ (wr.alloc _).heap.size; rw [World.size_alloc]; omega) (fun j hj => (hd.lt j hj).1)⟩
          case measure => simp [intOf]; omega
      · have hs := Lib.hid (show (Vec.gain ns ms).take k = Vec.gain ns ms from List.take_of_length_le (by have := HZ.out; omega))
        go_wp2
        go_ret2
        exact ⟨_, rfl, by show Ints _ _ (Vec.gain ns ms); rw [← hs.out]; exact Sl.ofOwn (by simpa [take_len _ k (by rw [HZ.out]; exact hk)] using ho), hE⟩

end Go.Proofs.Ythafmjckkobfcab
