/-
  VectorAll: what one has is the greatest of all, what all have the least; the more must have it, the less it is: for every input the statement's function returns true, and leaves what came in as it was.
-/
import Derived.Test.YthafmjckkobfcabVecAlive
import Derived.Test.YthafmjckkobfcabVecRaw
import Derived.Test.YthafmjckkobfcabVecR
import Derived.Test.YthafmjckkobfcabRows
import Derived.Test.YthafmjckkobfcabChecked
import Derived.SizedLaws
namespace Go.Proofs.Ythafmjckkobfcab
open Go.ChangeShapes Go.WideShapes Go.ChangeAt Go.RowKit

/-- All of one kind. -/
def allKind (ls : List (List Int)) : Prop := ∀ r ∈ ls, Vec.kind r (firstRow ls) = true
theorem quorOk_iff (ls : List (List Int)) (need : Int) : quorOk ls need = true ↔ (1 ≤ need ∧ need ≤ ls.length) ∧ allKind ls := by
  unfold quorOk allKind
  rw [Bool.and_eq_true, decide_eq_true_eq, List.all_eq_true]
theorem quor_is {ls : List (List Int)} {need : Int} (h : quorOk ls need = true) (k : Nat) (hk : k < rowLen ls) : Vec.IsQuorum (column ls k) need (Vec.quorumNum (column ls k) need) := by
  obtain ⟨⟨h1, h2⟩, h3⟩ := (quorOk_iff ls need).1 h
  refine Vec.quorum_is (fun x hx => ?_) h1 (by simpa using h2)
  obtain ⟨r, hr, rfl⟩ := List.mem_map.1 hx
  obtain ⟨k1, k2, k3⟩ := Vec.kind_ok (h3 r hr)
  have hkr : k < r.length := by rw [k3]; exact hk
  rw [List.getD_eq_getElem?_getD, List.getElem?_eq_getElem hkr]
  exact ((Vec.right_ok k1).1 _ (List.getElem_mem hkr)).1
theorem column_mem {ls : List (List Int)} {r : List Int} (hr : r ∈ ls) (k : Nat) (hk : k < r.length) : r[k] ∈ column ls k := by
  refine List.mem_map.2 ⟨r, hr, ?_⟩
  rw [List.getD_eq_getElem?_getD, List.getElem?_eq_getElem hk]
  rfl
theorem quor_right {ls : List (List Int)} {need : Int} (h : quorOk ls need = true) : Vec.right (quor ls need) = true := by
  obtain ⟨⟨h1, h2⟩, h3⟩ := (quorOk_iff ls need).1 h
  have hne : 0 < ls.length := by omega
  have h0 := Vec.right_ok (Vec.kind_ok (h3 _ (List.getElem_mem hne))).2.1
  refine Vec.right_of (fun x hx => ?_) (by rw [quor_length]; exact h0.2.1) (by rw [quor_length]; exact h0.2.2)
  obtain ⟨k, hk, rfl⟩ := List.getElem_of_mem hx
  rw [quor_get, ← best_all]
  refine best_bound _ _ (fun x hx => ?_) _
  obtain ⟨r, hr, rfl⟩ := List.mem_map.1 hx
  obtain ⟨k1, k2, k3⟩ := Vec.kind_ok (h3 r hr)
  have hkr : k < r.length := by rw [k3]; have h9 := hk; rw [quor_length] at h9; exact h9
  rw [List.getD_eq_getElem?_getD, List.getElem?_eq_getElem hkr]
  exact (Vec.right_ok k1).1 _ (List.getElem_mem hkr)
theorem quor_one {ls : List (List Int)} (h : quorOk ls 1 = true) : ∀ r ∈ ls, Vec.covers (quor ls 1) r = true := by
  intro r hr
  have h3 := ((quorOk_iff ls 1).1 h).2 r hr
  obtain ⟨k1, k2, k3⟩ := Vec.kind_ok h3
  have hl : (quor ls 1).length = r.length := by rw [quor_length, k3]; rfl
  rw [Vec.covers_iff (Vec.kind_of (quor_right h) k1 hl)]
  intro i hi hi'
  rw [quor_get]
  exact Vec.quorum_one (quor_is h i (by simpa using hi)) _ (column_mem hr i hi')
theorem quor_all {ls : List (List Int)} (h : quorOk ls ls.length = true) : ∀ r ∈ ls, Vec.covers r (quor ls ls.length) = true := by
  intro r hr
  have h3 := ((quorOk_iff ls ls.length).1 h).2 r hr
  obtain ⟨k1, k2, k3⟩ := Vec.kind_ok h3
  have hl : r.length = (quor ls ls.length).length := by rw [quor_length, k3]; rfl
  rw [Vec.covers_iff (Vec.kind_of k1 (quor_right h) hl)]
  intro i hi hi'
  rw [quor_get]
  have hq := quor_is h i (by simpa using hi')
  rw [show ((ls.length : Nat) : Int) = (((column ls i).length : Nat) : Int) from by simp] at hq ⊢
  exact Vec.quorum_all hq _ (column_mem hr i hi)
theorem quor_less {ls : List (List Int)} {n m : Int} (hnm : n ≤ m) (h : quorOk ls n = true) (h' : quorOk ls m = true) : Vec.covers (quor ls n) (quor ls m) = true := by
  rw [Vec.covers_iff (Vec.kind_of (quor_right h) (quor_right h') (by simp))]
  intro i hi hi'
  rw [quor_get, quor_get]
  exact Vec.quorum_less hnm (quor_is h i (by simpa using hi)) (quor_is h' i (by simpa using hi'))

set_option maxRecDepth 100000 in
set_option maxHeartbeats 8000000 in
theorem vectorAll_walk (v : Value) (ls : List (List Int)) (need : Int) (W : World) (hv : IRows W v ls) (hw : (Lit.int .i64 need).wf = true) :
    Calls Try.prog 10 #[v, .int .i64 need] W fun e W' => e = .returned (.bool true) ∧ Below W.heap.size W W' := by
  have HV := Lib.hid hv
  obtain ⟨a, cap, rfl, hcap, hmax, _⟩ := hv.open
  unfold maxLen at hmax
  clear hv
  by_cases h60 : (60 : Int) < (ls.length : Int)
  · go_enter Try.func10, Try.ntmps10
    go_wp2_with fail
    refine (vecAlive_any _).mono ?_
    rintro e w1 ⟨rfl, hE1⟩
    go_wp2_with fail
    go_ret
    exact ⟨rfl, hE1⟩
  · by_cases h1 : (ls.length : Int) < 1
    · go_enter Try.func10, Try.ntmps10
      go_wp2_with fail
      refine (vecAlive_any _).mono ?_
      rintro e w1 ⟨rfl, hE1⟩
      go_wp2_with fail
      go_ret
      exact ⟨rfl, hE1⟩
    · by_cases hall : allKind ls
      · have q1 : quorOk ls 1 = true := (quorOk_iff ls 1).2 ⟨by omega, hall⟩
        have qn : quorOk ls ls.length = true := (quorOk_iff ls _).2 ⟨by omega, hall⟩
        have HO := Lib.hid (quor_one q1)
        have HA := Lib.hid (quor_all qn)
        have Q1 := Lib.hid q1
        have QN := Lib.hid qn
        have HALL := Lib.hid hall
        have d1 : decide ((60 : Int) < (ls.length : Int)) = false := decide_eq_false h60
        have d2 : decide (60 < ls.length) = false := decide_eq_false (by omega)
        have d3 : decide ((ls.length : Int) < 1) = false := decide_eq_false h1
        have d4 : decide (ls.length = 0) = false := decide_eq_false (by omega)
        have hwn : -9223372036854775808 ≤ need ∧ need ≤ 9223372036854775807 := bounds_i64 hw
        have HWN := Lib.hid hwn
        clear q1 qn hall hw hwn
        go_enter Try.func10, Try.ntmps10
        go_wp2_with fail
        refine (quorum_any _ ls 1 _ HV.out (by omega)).mono ?_
        rw [Q1.out, orNone_true]
        rintro e w1 ⟨v1, rfl, hi1, hE1⟩
        go_wp2_with fail
        refine (quorum_any _ ls _ _ (HV.out.below hE1) (by omega)).mono ?_
        rw [QN.out, orNone_true]
        rintro e w2 ⟨v2, rfl, hi2, hE2⟩
        have e2 : Ext W w2 := hE1.trans hE2
        have hr2 := HV.out.below e2
        have H1 := Lib.hid (hi1.below hE2)
        have H2 := Lib.hid hi2
        have HR2 := Lib.hid hr2
        clear hi1 hi2 hr2
        go_wp2_with fail
        go_loop [10, 50] (fun _ i => ∃ j : Nat, j ≤ ls.length ∧ i = .int .i64 j) (fun _ i => ls.length - (intOf i).toNat)
        case atStart => exact ⟨0, by omega, rfl⟩
        case round =>
          obtain ⟨j, hj, rfl⟩ := hrel
          by_cases hlt : j < ls.length
          · obtain ⟨a2, cap2, e6, _, _, hrow⟩ := HR2.out.open
            obtain ⟨b, off, x, rfl, hcx, hix⟩ := hrow j hlt
            injection e6 with e6 e7 e8
            subst e6
            obtain ⟨ax, nx, cx, rfl⟩ := hix.isSlice
            have HX := Lib.hid hix
            have A1 := Lib.hid (HO.out _ (List.getElem_mem hlt))
            have A2 := Lib.hid (HA.out _ (List.getElem_mem hlt))
            clear hrow e7 e8 hix
            go_wp2_with fail
            refine (covers_any _ _ _ _ _ H1.out HX.out).mono ?_
            rintro e w4 ⟨rfl, rfl⟩
            rw [A1.out]
            go_wp2_with fail
            refine (covers_any _ _ _ _ _ HX.out H2.out).mono ?_
            rintro e w4 ⟨rfl, rfl⟩
            rw [A2.out]
            go_wp2_with fail
            go_round
            case rel => exact ⟨j + 1, by omega, by go_num⟩
            case measure => simp [intOf]; omega
          · cases hq : quorOk ls need with
            | false =>
              have HQ := Lib.hid hq
              clear hq
              go_wp2_with fail
              refine (quorum_any _ ls need _ HR2.out (by omega)).mono ?_
              rw [HQ.out]
              rintro e w5 ⟨v5, rfl, hi5, hE5⟩
              go_wp2_with fail
              refine (quorum_any _ ls _ _ (HR2.out.below hE5) (by omega)).mono ?_
              rintro e w6 ⟨v6, rfl, hi6, hE6⟩
              go_wp2_with fail
              refine (vecAlive_any _).mono ?_
              rintro e w7 ⟨rfl, hE7⟩
              go_wp2_with fail
              go_ret
              exact ⟨rfl, ((e2.trans hE5).trans hE6).trans hE7⟩
            | true =>
              have hnd := ((quorOk_iff ls need).1 hq).1
              have HQ := Lib.hid hq
              have hwr : IntKind.i64.wrap (need + 1) = need + 1 := IntWalk.i64_in _ (by omega)
              clear hq
              go_wp2_with fail
              refine (quorum_any _ ls need _ HR2.out (by omega)).mono ?_
              rw [HQ.out, orNone_true]
              rintro e w5 ⟨v5, rfl, hi5, hE5⟩
              go_wp2_with fail
              refine (quorum_any _ ls (need + 1) _ (HR2.out.below hE5) (by omega)).mono ?_
              cases hq' : quorOk ls (need + 1) with
              | false =>
                rintro e w6 ⟨v6, rfl, hi6, hE6⟩
                clear hq'
                go_wp2_with fail
                refine (vecAlive_any _).mono ?_
                rintro e w7 ⟨rfl, hE7⟩
                go_wp2_with fail
                go_ret
                exact ⟨rfl, ((e2.trans hE5).trans hE6).trans hE7⟩
              | true =>
                rw [orNone_true]
                rintro e w6 ⟨v6, rfl, hi6, hE6⟩
                have HLESS := Lib.hid (quor_less (by omega : need ≤ need + 1) HQ.out hq')
                clear hq'
                go_wp2_with fail
                refine (vecAlive_any _).mono ?_
                rintro e w7 ⟨rfl, hE7⟩
                go_wp2_with fail
                refine (covers_any _ _ _ _ _ ((hi5.below hE6).below hE7) (hi6.below hE7)).mono ?_
                rintro e w8 ⟨rfl, rfl⟩
                rw [HLESS.out]
                go_wp2_with fail
                go_ret
                exact ⟨rfl, ((e2.trans hE5).trans hE6).trans hE7⟩
      · have q1 : quorOk ls 1 = false := by
          rw [← Bool.not_eq_true, quorOk_iff]
          exact fun h => hall h.2
        have qn : quorOk ls ls.length = false := by
          rw [← Bool.not_eq_true, quorOk_iff]
          exact fun h => hall h.2
        have Q1 := Lib.hid q1
        have QN := Lib.hid qn
        clear q1 qn hall
        go_enter Try.func10, Try.ntmps10
        go_wp2_with fail
        refine (quorum_any _ ls 1 _ HV.out (by omega)).mono ?_
        rw [Q1.out]
        rintro e w1 ⟨v1, rfl, hi1, hE1⟩
        go_wp2_with fail
        refine (quorum_any _ ls _ _ (HV.out.below hE1) (by omega)).mono ?_
        rw [QN.out]
        rintro e w2 ⟨v2, rfl, hi2, hE2⟩
        go_wp2_with fail
        refine (vecAlive_any _).mono ?_
        rintro e w3 ⟨rfl, hE3⟩
        go_wp2_with fail
        go_ret
        exact ⟨rfl, (hE1.trans hE2).trans hE3⟩

namespace vectorAll
theorem own : ownKnob Try.prog.godebug = none := by kernel_rfl
theorem laidOut : laidOutB Try.prog = true := by kernel_rfl
set_option linter.unusedVariables false in
set_option maxRecDepth 100000 in
theorem lifted (os : Os) (started : os.Started) (H : Type) (enc : TypeId × Value → H) :
    ReturnsInHanded {} Try.checked os 10 .any (Rows.vectorAllSpec.pre6 enc Try.prog Try.f10 Rows.vectorAllRow.domain false) (Rows.vectorAllSpec.post enc Try.prog Try.f10 false true false false) := by
  refine returnsInHanded_of_change_sized (C := Try.checked) own started (by kernel_rfl) Try.func10
    (ChangeSpec.witness6 (enc := enc) (C := Try.checked) false ⟨#[], #[.slice none 0 0, .int .i64 0], []⟩ 8 (by kernel_rfl) (by kernel_rfl) (by kernel_rfl) (by kernel_rfl)) ?_
  intro W base args ds gs before hval0 hW hcnd hsz _
  have hval : ∀ (j : Nat) t v, Try.f10.params[j]? = some t → args[j]? = some v → Value.okWide Try.prog W .any base t v := hval0
  have hW' := hW
  obtain ⟨p, q, hA0, hV, rfl, hfz, hnd⟩ := hW'
  have hA : DataW.TrodAll enc Try.prog W 0 (fun _ => true) true Try.f10.params.toList args.toList ds p := hA0
  rw [Try.params10] at hA hval
  obtain ⟨v0, vs0, d0, ds0, p0, q0, hargs, rfl, rfl, h0, r0⟩ := trodAll_cons hA
  obtain ⟨v1, vs1, d1, ds1, p1, q1, rfl, rfl, rfl, h1, r1⟩ := trodAll_cons r0
  obtain ⟨rfl, rfl, rfl⟩ := trodAll_nil r1
  obtain rfl : args = #[v0, v1] := by cases args; simp_all
  obtain ⟨rfl, rfl⟩ := trodVars_none hV
  have k0 := h0
  have lt0 : ∀ x ∈ p0, x.block < W.heap.size := by obtain ⟨m, hm⟩ := k0; exact DataW.trod_lt m _ _ _ hm
  obtain ⟨a0, len0, cap0, rfl⟩ := okWide_slice Try.underlying41 (hval 0 41 v0 rfl rfl)
  obtain ⟨l0, w0⟩ : ∃ l, IRows W (.slice a0 len0 cap0) l := by
    obtain ⟨fuel, hf⟩ := h0
    obtain ⟨v, l, hcs, hb⟩ := irows_of_raw Try.underlying41 (by kernel_rfl) Try.underlying32 Try.underlying3 (by kernel_rfl) hf
    simp [Value.cells] at hcs
    subst hcs
    exact ⟨l, hb⟩
  have k1 := h1
  have lt1 : ∀ x ∈ p1, x.block < W.heap.size := by obtain ⟨m, hm⟩ := k1; exact DataW.trod_lt m _ _ _ hm
  obtain ⟨a1, rfl, _, _, w1⟩ := open_int Try.underlying3 (hval 1 3 v1 rfl rfl) h1
  clear hA0 hval0
  refine (vectorAll_walk _ l0 a1 W w0 w1).mono fun e W' ⟨he, bel⟩ => ?_
  subst he
  exact ⟨_, rfl, _, _, _, [], _, [], hW, trodAll_mk1 (shut_bool Try.underlying4 _), (trodAll_cons_mk (Below.trod laidOut (by kernel_rfl) (of_decide_eq_true (by kernel_rfl)) k0 bel lt0) (trodAll_cons_mk (Below.trod laidOut (by kernel_rfl) (of_decide_eq_true (by kernel_rfl)) k1 bel lt1) trodAll_mk0)), rfl, bel.frame _, fun h => by cases h⟩
theorem over : Rows.vectorAllRow.holds Try.pinned (OpenSpec.ofChange Rows.vectorAllSpec) :=
  OpenClaim.holds_of_wide 10 Try.f10 rfl rfl rfl rfl rfl rfl rfl ⟨rfl, rfl, rfl, rfl, rfl⟩ rfl rfl rfl rfl rfl (by kernel_rfl) Try.func10 (by kernel_rfl)
    (of_decide_eq_true (by kernel_rfl)) (by unfold Func.isWrapper; first | (rw [if_pos (by decide +kernel)]; kernel_rfl) | (rw [if_neg (by decide +kernel)]; exact ⟨rfl, rfl⟩))
    (fun os started H enc _ => lifted os started H enc)
theorem proved : Rows.VectorAllSaid := over
end vectorAll
end Go.Proofs.Ythafmjckkobfcab
