/-
  VectorRaises: a number that is raised is at least what it was, and what it was raised to; all others are as they were: for every input the statement's function returns true, and leaves what came in as it was.
-/
import Derived.Test.YthafmjckkobfcabVecAlive
import Derived.Test.YthafmjckkobfcabVecRaw
import Derived.Test.YthafmjckkobfcabVecS
import Derived.Deep.QuietTactic
import Derived.BigQuiet
import Derived.Test.YthafmjckkobfcabPackNum
import Derived.Test.YthafmjckkobfcabRows
import Derived.Test.YthafmjckkobfcabChecked
import Derived.SizedLaws
namespace Go.Proofs.Ythafmjckkobfcab
open Go.ChangeShapes Go.WideShapes Go.ChangeAt Go.RowKit

theorem set_big (v : List Int) (k : Nat) (n : Int) (hk : k < v.length) : ∃ x, (Vec.set v k n)[k]? = some x ∧ n ≤ x ∧ v[k] ≤ x ∧ (x = n ∨ x = v[k]) := by
  refine ⟨if v[k] < n then n else v[k], ?_, ?_⟩
  · rw [set_eq v k n hk]
    simp [hk]
  · split <;> omega
theorem set_other (v : List Int) (k i : Nat) (n : Int) (hk : k < v.length) (hi : i < v.length) (hne : i ≠ k) : (Vec.set v k n)[i]? = some v[i] := by
  rw [set_eq v k n hk, List.getElem?_set_ne (by omega), List.getElem?_eq_getElem hi]
theorem set_len (v : List Int) (k : Nat) (n : Int) : (Vec.set v k n).length = v.length := by unfold Vec.set; simp
theorem set_right {v : List Int} {k : Nat} {n : Int} (h : Vec.right v = true) (hk : k < v.length) (hn : 0 ≤ n ∧ n ≤ 1099511627776) : Vec.right (Vec.set v k n) = true := by
  obtain ⟨h1, h2, h3⟩ := Vec.right_ok h
  refine Vec.right_of (fun x hx => ?_) (by rw [set_len]; exact h2) (by rw [set_len]; exact h3)
  rw [set_eq v k n hk] at hx
  rcases List.mem_or_eq_of_mem_set hx with hx | rfl
  · exact h1 x hx
  · split
    · exact hn
    · exact h1 _ (List.getElem_mem hk)
theorem set_covers {v : List Int} {k : Nat} {n : Int} (h : Vec.right v = true) (hk : k < v.length) (hn : 0 ≤ n ∧ n ≤ 1099511627776) : Vec.covers (Vec.set v k n) v = true := by
  rw [Vec.covers_iff (Vec.kind_of (set_right h hk hn) h (set_len v k n))]
  intro i hi hi'
  have hi2 : i < v.length := hi'
  by_cases hik : i = k
  · subst hik
    obtain ⟨x, hx, _, h2, _⟩ := set_big v i n hk
    rw [List.getElem?_eq_getElem hi] at hx
    injection hx with hx
    omega
  · have hx := set_other v k i n hk hi2 hik
    rw [List.getElem?_eq_getElem hi] at hx
    injection hx with hx
    omega

set_option maxRecDepth 100000 in
set_option maxHeartbeats 8000000 in
theorem vectorRaises_walk (v : Value) (ns : List Int) (k n : Int) (W : World) (hv : Ints W v ns) :
    Calls Try.prog 13 #[v, .int .i64 k, .int .i64 n] W fun e W' => e = .returned (.bool true) ∧ Below W.heap.size W W' := by
  have HV := Lib.hid hv
  have hs := set_any v ns k n W hv
  obtain ⟨a, cap, rfl, hcap, hmax, _⟩ := hv.open
  unfold maxLen at hmax
  clear hv
  cases hok : Vec.setOk ns k n with
  | false =>
    rw [hok, orNone_false] at hs
    have HS := Lib.hid hs
    clear hs hok
    go_enter Try.func13, Try.ntmps13
    go_wp2_with fail
    refine HS.out.mono ?_
    rintro e w1 ⟨v1, rfl, hi1, hE1⟩
    obtain ⟨a1, n1, c1, rfl⟩ := hi1.isSlice
    have hn1 := hi1.len.1
    rw [List.length_nil] at hn1
    subst hn1
    go_wp2_with fail
    refine (vecAlive_any _).mono ?_
    rintro e w2 ⟨rfl, hE2⟩
    go_wp2_with fail
    go_ret
    exact ⟨rfl, hE1.trans hE2⟩
  | true =>
    rw [hok, orNone_true] at hs
    have hparts : Vec.right ns = true ∧ (0 ≤ k ∧ k < ns.length) ∧ (0 ≤ n ∧ n ≤ 1099511627776) := by
      unfold Vec.setOk Vec.okOne at hok
      simp only [Bool.and_eq_true, decide_eq_true_eq] at hok
      exact hok
    obtain ⟨hr, hk, hn⟩ := hparts
    obtain ⟨j, rfl⟩ : ∃ j : Nat, k = (j : Int) := ⟨k.toNat, by omega⟩
    have hj : j < ns.length := by omega
    rw [show ((j : Int).toNat) = j from rfl] at hs
    obtain ⟨x, hx, x1, x2, x3⟩ := set_big ns j n hj
    have HCOV := Lib.hid (set_covers hr hj hn)
    have HOTH := Lib.hid (fun i hi hne => set_other ns j i n hj hi hne)
    have HLEN := Lib.hid (set_len ns j n)
    have HS := Lib.hid hs
    have HX := Lib.hid hx
    clear hs hok hx
    go_enter Try.func13, Try.ntmps13
    go_wp2_with fail
    refine HS.out.mono ?_
    rintro e w1 ⟨v1, rfl, hi1, hE1⟩
    have HI1 := Lib.hid hi1
    obtain ⟨a1, c1, rfl, hcap1, hmax1, _, hc1⟩ := hi1.open
    rw [HLEN.out]
    unfold maxLen at hmax1
    have hjl : j < (Vec.set ns j n).length := by rw [HLEN.out]; exact hj
    obtain ⟨b1, off1, rfl, hcell1⟩ := hc1 j hjl
    rw [List.getElem?_eq_getElem hjl] at HX
    have hxe := HX.out
    injection hxe with hxe
    rw [hxe] at hcell1
    obtain ⟨a2, c2, e2, _, _, _, hc2⟩ := (HV.out.below hE1).open
    obtain ⟨b2, off2, rfl, hcell2⟩ := hc2 j hj
    injection e2 with e3 e4 e5
    subst e3
    have HC1 := Lib.hid hc1
    have HC2 := Lib.hid hc2
    have hd1 : w1.drew.cell? ⟨b1, off1 + j, none⟩ = some (.int .i64 x) := hcell1
    have hd2 : w1.drew.cell? ⟨b2, off2 + j, none⟩ = some (.int .i64 ns[j]) := hcell2
    clear hc1 hc2 e4 e5 hi1 hxe
    have HCALL : ∀ q : Nat, Calls Try.prog 27 #[.slice (some ⟨b1, off1, none⟩) ns.length c1, .slice (some ⟨b2, off2, none⟩) ns.length cap] (w1.drewN q) fun e w' => e = .returned (.bool true) ∧ w' = w1.drewN q := by
      intro q
      have h1 := HI1.out
      rw [HLEN.out] at h1
      refine (covers_any _ _ _ _ _ (h1.below (Ext.drewN w1 q)) ((HV.out.below hE1).below (Ext.drewN w1 q))).mono ?_
      rintro e w' ⟨rfl, rfl⟩
      exact ⟨by rw [HCOV.out], rfl⟩
    have HQ := Lib.hid HCALL
    have hlt : ¬ x < n := by omega
    have dlt : decide (x < n) = false := decide_eq_false hlt
    have dlen : ((ns.length : Int) == (ns.length : Int)) = true := by simp
    have finish : ∀ (wr : World), Ext W wr → Calls Try.prog 26 #[] wr (fun e w' => e = .returned (.bool true) ∧ Ext wr w') := fun wr _ => vecAlive_any wr
    clear HCALL finish
    rcases (show x = n ∨ (x ≠ n ∧ x = ns[j]) by omega) with rfl | ⟨hne, rfl⟩
    · go_wp2_with fail
      go_quiet (first | (go_at_call 27; exact Calls.quiet_of_same (HQ.out _)))
      go_wp2_with fail
      go_loopw [9, 65] (fun _ i wr => ∃ q : Nat, q ≤ ns.length ∧ i = .int .i64 q ∧ Ext w1 wr) (fun _ i _ => ns.length - (intOf i).toNat)
      case atStart => exact ⟨0, by omega, rfl, Ext.drewN w1 _⟩
      case round =>
        obtain ⟨q, hq, rfl, hE⟩ := hrel
        by_cases hlt2 : q < ns.length
        · have hql : q < (Vec.set ns j x).length := by rw [HLEN.out]; exact hlt2
          obtain ⟨aa, ca, ea, _, _, _, hca⟩ := (HI1.out.below hE).open
          obtain ⟨bb, offb, rfl, hcb⟩ := hca q hql
          injection ea with ea ea3 ea4
          injection ea with ea
          clear ea3 ea4
          injection ea with ea1 ea2
          subst ea1 ea2
          obtain ⟨ad, cd, ed, _, _, _, hcd⟩ := ((HV.out.below hE1).below hE).open
          obtain ⟨be, offe, rfl, hce⟩ := hcd q hlt2
          injection ed with ed ed3 ed4
          injection ed with ed
          clear ed3 ed4
          injection ed with ed1 ed2
          subst ed1 ed2
          clear hca hcd
          by_cases hqj : q = j
          · have g1 : ((q : Int) != (j : Int)) = false := by rw [hqj]; simp
            have HQJ := Lib.hid hqj
            clear hqj
            go_wp2_with fail
            go_quiet (fail)
            go_wp2_with fail
            go_roundw
            case rel => exact ⟨q + 1, by omega, by go_num, hE.trans (Ext.drewN _ _)⟩
            case measure => simp [intOf]; omega
          · have g1 : ((q : Int) != (j : Int)) = true := by rw [bne_iff_ne]; omega
            have hx := HOTH.out q hlt2 hqj
            rw [List.getElem?_eq_getElem hql] at hx
            injection hx with hx
            rw [hx] at hcb
            clear hqj hx
            go_wp2_with fail
            go_quiet (fail)
            go_wp2_with fail
            go_roundw
            case rel => exact ⟨q + 1, by omega, by go_num, hE.trans (Ext.drewN _ _)⟩
            case measure => simp [intOf]; omega
        · go_wp2_with fail
          refine (vecAlive_any _).mono ?_
          rintro e w7 ⟨rfl, hE7⟩
          go_wp2_with fail
          go_ret
          exact ⟨rfl, (hE1.trans hE).trans hE7⟩
    · have g0 : (ns[j] != n) = true := by rw [bne_iff_ne]; exact hne
      clear hne
      go_wp2_with fail
      go_quiet (first | (go_at_call 27; exact Calls.quiet_of_same (HQ.out _)))
      go_wp2_with fail
      go_loopw [9, 65] (fun _ i wr => ∃ q : Nat, q ≤ ns.length ∧ i = .int .i64 q ∧ Ext w1 wr) (fun _ i _ => ns.length - (intOf i).toNat)
      case atStart => exact ⟨0, by omega, rfl, Ext.drewN w1 _⟩
      case round =>
        obtain ⟨q, hq, rfl, hE⟩ := hrel
        by_cases hlt2 : q < ns.length
        · have hql : q < (Vec.set ns j n).length := by rw [HLEN.out]; exact hlt2
          obtain ⟨aa, ca, ea, _, _, _, hca⟩ := (HI1.out.below hE).open
          obtain ⟨bb, offb, rfl, hcb⟩ := hca q hql
          injection ea with ea ea3 ea4
          injection ea with ea
          clear ea3 ea4
          injection ea with ea1 ea2
          subst ea1 ea2
          obtain ⟨ad, cd, ed, _, _, _, hcd⟩ := ((HV.out.below hE1).below hE).open
          obtain ⟨be, offe, rfl, hce⟩ := hcd q hlt2
          injection ed with ed ed3 ed4
          injection ed with ed
          clear ed3 ed4
          injection ed with ed1 ed2
          subst ed1 ed2
          clear hca hcd
          by_cases hqj : q = j
          · have g1 : ((q : Int) != (j : Int)) = false := by rw [hqj]; simp
            have HQJ := Lib.hid hqj
            clear hqj
            go_wp2_with fail
            go_quiet (fail)
            go_wp2_with fail
            go_roundw
            case rel => exact ⟨q + 1, by omega, by go_num, hE.trans (Ext.drewN _ _)⟩
            case measure => simp [intOf]; omega
          · have g1 : ((q : Int) != (j : Int)) = true := by rw [bne_iff_ne]; omega
            have hx := HOTH.out q hlt2 hqj
            rw [List.getElem?_eq_getElem hql] at hx
            injection hx with hx
            rw [hx] at hcb
            clear hqj hx
            go_wp2_with fail
            go_quiet (fail)
            go_wp2_with fail
            go_roundw
            case rel => exact ⟨q + 1, by omega, by go_num, hE.trans (Ext.drewN _ _)⟩
            case measure => simp [intOf]; omega
        · go_wp2_with fail
          refine (vecAlive_any _).mono ?_
          rintro e w7 ⟨rfl, hE7⟩
          go_wp2_with fail
          go_ret
          exact ⟨rfl, (hE1.trans hE).trans hE7⟩

namespace vectorRaises
theorem own : ownKnob Try.prog.godebug = none := by kernel_rfl
theorem laidOut : laidOutB Try.prog = true := by kernel_rfl
set_option linter.unusedVariables false in
set_option maxRecDepth 100000 in
theorem lifted (os : Os) (started : os.Started) (H : Type) (enc : TypeId × Value → H) :
    ReturnsInHanded {} Try.checked os 13 .any (Rows.vectorRaisesSpec.pre6 enc Try.prog Try.f13 Rows.vectorRaisesRow.domain false) (Rows.vectorRaisesSpec.post enc Try.prog Try.f13 false true false false) := by
  refine returnsInHanded_of_change_sized (C := Try.checked) own started (by kernel_rfl) Try.func13
    (ChangeSpec.witness6 (enc := enc) (C := Try.checked) false ⟨#[], #[.slice none 0 0, .int .i64 0, .int .i64 0], []⟩ 8 (by kernel_rfl) (by kernel_rfl) (by kernel_rfl) (by kernel_rfl)) ?_
  intro W base args ds gs before hval0 hW hcnd hsz _
  have hval : ∀ (j : Nat) t v, Try.f13.params[j]? = some t → args[j]? = some v → Value.okWide Try.prog W .any base t v := hval0
  have hW' := hW
  obtain ⟨p, q, hA0, hV, rfl, hfz, hnd⟩ := hW'
  have hA : DataW.TrodAll enc Try.prog W 0 (fun _ => true) true Try.f13.params.toList args.toList ds p := hA0
  rw [Try.params13] at hA hval
  obtain ⟨v0, vs0, d0, ds0, p0, q0, hargs, rfl, rfl, h0, r0⟩ := trodAll_cons hA
  obtain ⟨v1, vs1, d1, ds1, p1, q1, rfl, rfl, rfl, h1, r1⟩ := trodAll_cons r0
  obtain ⟨v2, vs2, d2, ds2, p2, q2, rfl, rfl, rfl, h2, r2⟩ := trodAll_cons r1
  obtain ⟨rfl, rfl, rfl⟩ := trodAll_nil r2
  obtain rfl : args = #[v0, v1, v2] := by cases args; simp_all
  obtain ⟨rfl, rfl⟩ := trodVars_none hV
  have k0 := h0
  have lt0 : ∀ x ∈ p0, x.block < W.heap.size := by obtain ⟨m, hm⟩ := k0; exact DataW.trod_lt m _ _ _ hm
  obtain ⟨a0, len0, cap0, rfl⟩ := okWide_slice Try.underlying32 (hval 0 32 v0 rfl rfl)
  obtain ⟨l0, w0⟩ : ∃ l, Ints W (.slice a0 len0 cap0) l := by
    obtain ⟨fuel, hf⟩ := h0
    obtain ⟨v, l, hcs, hb⟩ := ints_of_raw Try.underlying32 Try.underlying3 (by kernel_rfl) hf
    simp [Value.cells] at hcs
    subst hcs
    exact ⟨l, hb⟩
  have k1 := h1
  have lt1 : ∀ x ∈ p1, x.block < W.heap.size := by obtain ⟨m, hm⟩ := k1; exact DataW.trod_lt m _ _ _ hm
  obtain ⟨a1, rfl, _, _, w1⟩ := open_int Try.underlying3 (hval 1 3 v1 rfl rfl) h1
  have k2 := h2
  have lt2 : ∀ x ∈ p2, x.block < W.heap.size := by obtain ⟨m, hm⟩ := k2; exact DataW.trod_lt m _ _ _ hm
  obtain ⟨a2, rfl, _, _, w2⟩ := open_int Try.underlying3 (hval 2 3 v2 rfl rfl) h2
  clear hA0 hval0
  refine (vectorRaises_walk _ l0 a1 a2 W w0).mono fun e W' ⟨he, bel⟩ => ?_
  subst he
  exact ⟨_, rfl, _, _, _, [], _, [], hW, trodAll_mk1 (shut_bool Try.underlying4 _), (trodAll_cons_mk (Below.trod laidOut (by kernel_rfl) (of_decide_eq_true (by kernel_rfl)) k0 bel lt0) (trodAll_cons_mk (Below.trod laidOut (by kernel_rfl) (of_decide_eq_true (by kernel_rfl)) k1 bel lt1) (trodAll_cons_mk (Below.trod laidOut (by kernel_rfl) (of_decide_eq_true (by kernel_rfl)) k2 bel lt2) trodAll_mk0))), rfl, bel.frame _, fun h => by cases h⟩
theorem over : Rows.vectorRaisesRow.holds Try.pinned (OpenSpec.ofChange Rows.vectorRaisesSpec) :=
  OpenClaim.holds_of_wide 13 Try.f13 rfl rfl rfl rfl rfl rfl rfl ⟨rfl, rfl, rfl, rfl, rfl⟩ rfl rfl rfl rfl rfl (by kernel_rfl) Try.func13 (by kernel_rfl)
    (of_decide_eq_true (by kernel_rfl)) (by unfold Func.isWrapper; first | (rw [if_pos (by decide +kernel)]; kernel_rfl) | (rw [if_neg (by decide +kernel)]; exact ⟨rfl, rfl⟩))
    (fun os started H enc _ => lifted os started H enc)
theorem proved : Rows.VectorRaisesSaid := over
end vectorRaises
end Go.Proofs.Ythafmjckkobfcab
