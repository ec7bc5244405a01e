/-
  TermMeets: two rows of as many sequencers as are more than half have one in common: for every input the statement's function returns true, and leaves what came in as it was.
-/
import Derived.Test.YtpfodkgncachiaaTrmRaw
namespace Go.Proofs.Ytpfodkgncachiaa
set_option maxRecDepth 100000
set_option linter.unusedSimpArgs false
set_option linter.unusedVariables false
open Go.ChangeShapes Go.WideShapes Go.ChangeAt Go.RowKit

theorem countSucc {l : List Int} {k : Nat} (h : k < l.length) (p : Int → Bool) : (l.take (k + 1)).countP p = (l.take k).countP p + (if p l[k] = true then 1 else 0) := by
  rw [List.take_add_one, List.getElem?_eq_getElem h, List.countP_append]
  simp [List.countP_cons]
theorem anySucc {l : List Int} {k : Nat} (h : k < l.length) (p : Int → Bool) : (l.take (k + 1)).any p = ((l.take k).any p || p l[k]) := by
  rw [List.take_add_one, List.getElem?_eq_getElem h, List.any_append]
  simp

/-- How many of the first k are in the row. -/
def cnt (S us : List Int) (k : Nat) : Nat := (S.take k).countP (hasI us)
/-- Whether one of the first k is in both. -/
def bothI (S us ms : List Int) (k : Nat) : Bool := (S.take k).any (fun x => hasI us x && hasI ms x)
theorem cnt_succ {S us : List Int} {k : Nat} (h : k < S.length) : cnt S us (k + 1) = cnt S us k + (hasI us S[k]).toNat := by
  unfold cnt
  rw [countSucc h]
  cases hasI us S[k] <;> rfl
theorem both_succ {S us ms : List Int} {k : Nat} (h : k < S.length) : bothI S us ms (k + 1) = (bothI S us ms k || (hasI us S[k] && hasI ms S[k])) := by unfold bothI; rw [anySucc h]
theorem cnt_le (S us : List Int) (k : Nat) : cnt S us k ≤ S.length := by
  unfold cnt
  have := List.countP_le_length (p := hasI us) (l := S.take k)
  have := List.length_take_le' k S
  omega

set_option maxHeartbeats 16000000 in
theorem termMeets_walk (v av bv : Value) (c : Term.C) (us ms : List Int) (W : World) (hv : IsConf W v c) (ha : Ints W av us) (hb : Ints W bv ms) :
    Calls Try.prog 3 #[v, av, bv] W fun e W' => e = .returned (.bool true) ∧ Below W.heap.size W W' := by
  have HV := Lib.hid hv
  have HA := Lib.hid ha
  have HB := Lib.hid hb
  have hbx := box_confR
  obtain ⟨s, d, rfl, hs, hd⟩ := hv
  obtain ⟨a1, p1, rfl, hp1, hm1, _, hcell1⟩ := hs.open
  obtain ⟨b1, q1, rfl, _⟩ := hd.open
  obtain ⟨aa, ac, rfl, hac, ham, _⟩ := ha.open
  obtain ⟨ba, bc, rfl, hbc, hbm, _⟩ := hb.open
  unfold maxLen at hm1 ham hbm
  have HC1 := Lib.hid hcell1
  clear hs hd ha hb hcell1
  unfold confV at *
  have HRI := Lib.hid (fun (w : World) h => right6_any (.agg #[.int .i64 c.term, .slice a1 c.seqs.length p1, .slice b1 c.shards.length q1]) c w h)
  have HMAJ := Lib.hid (fun (w : World) h h47 => majority6_any (.agg #[.int .i64 c.term, .slice a1 c.seqs.length p1, .slice b1 c.shards.length q1]) c w h h47)
  have HEND := Lib.hid (fun (h1 : Term.majority c ≤ cnt c.seqs us c.seqs.length) (h2 : Term.majority c ≤ cnt c.seqs ms c.seqs.length) => show bothI c.seqs us ms c.seqs.length = true from by
    unfold cnt at h1 h2
    unfold bothI
    rw [List.take_length] at h1 h2 ⊢
    exact Term.majorities_meet h1 h2)
  have HR7 := Lib.hid (fun (h : Term.right c = true) => show c.seqs.length ≤ 7 from by have := (Term.right_ok h).2.2.2.1; omega)
  have HCY := Lib.hid (fun (us : List Int) (k : Nat) (h : k < c.seqs.length) => cnt_succ (us := us) h)
  have HBS := Lib.hid (fun (k : Nat) (h : k < c.seqs.length) => both_succ (us := us) (ms := ms) h)
  have HLE := Lib.hid (fun (us : List Int) (k : Nat) => cnt_le c.seqs us k)
  obtain ⟨r, hr⟩ : ∃ r, Term.right c = r := ⟨_, rfl⟩
  have HR := Lib.hid hr
  clear hr
  obtain ⟨t, ht⟩ : ∃ t, c.term = t := ⟨_, rfl⟩
  obtain ⟨S, hS⟩ : ∃ S, c.seqs = S := ⟨_, rfl⟩
  obtain ⟨nD, hD⟩ : ∃ nD, c.shards.length = nD := ⟨_, rfl⟩
  rw [ht, hS, hD] at HV HRI HMAJ ⊢
  rw [hS] at HC1 HEND HR7 HCY HBS HLE
  have HS := Lib.hid hS
  clear ht hS hD
  have hE0 : Ext W (W.alloc (.cells #[.int .i64 t, .slice a1 S.length p1, .slice b1 nD q1] 25)) := Ext.alloc _ _
  have hE1 : Ext (W.alloc (.cells #[.int .i64 t, .slice a1 S.length p1, .slice b1 nD q1] 25)) ((W.alloc (.cells #[.int .i64 t, .slice a1 S.length p1, .slice b1 nD q1] 25)).alloc (.cells #[.int .i64 t, .slice a1 S.length p1, .slice b1 nD q1] 26)) := Ext.alloc _ _
  have HA1 := Lib.hid ((ConfAt.new 25 W t (.slice a1 S.length p1) (.slice b1 nD q1)).ext hE1)
  have HX1 := Lib.hid (ConfAt.new 26 (W.alloc (.cells #[.int .i64 t, .slice a1 S.length p1, .slice b1 nD q1] 25)) t (.slice a1 S.length p1) (.slice b1 nD q1))
  have e1 := hE0.trans hE1
  have hsz : (W.alloc (.cells #[.int .i64 t, .slice a1 S.length p1, .slice b1 nD q1] 25)).heap.size = W.heap.size + 1 := by simp
  rw [hsz] at HX1
  clear hE0 hE1
  go_enter Try.func3, Try.ntmps3
  obtain ⟨y0, y1, y2⟩ := HX1.out.cells
  go_wp2_with fail
  obtain ⟨q, hq⟩ : ∃ q, W.heap.size = q := ⟨_, rfl⟩
  rw [hq] at HA1 HX1 ⊢
  obtain ⟨w1, hw1⟩ : ∃ w1, (W.alloc (.cells #[.int .i64 t, .slice a1 S.length p1, .slice b1 nD q1] 25)).alloc (.cells #[.int .i64 t, .slice a1 S.length p1, .slice b1 nD q1] 26) = w1 := ⟨_, rfl⟩
  rw [hw1] at e1 HA1 HX1 y0 y1 y2 ⊢
  clear hw1 hsz
  refine (HRI.out _ (HV.out.below e1)).mono ?_
  rw [HR.out]
  rintro e w2 ⟨rfl, hE2⟩
  have e2 := e1.trans hE2
  have A2 := Lib.hid (HA1.out.ext hE2)
  have X2 := Lib.hid (HX1.out.ext hE2)
  clear y0 y1 y2
  cases r with
  | false =>
    go_wp2_with fail
    refine (termAlive_any _).mono ?_
    rintro e w3 ⟨rfl, hE3⟩
    go_wp2_with fail
    go_ret
    exact ⟨rfl, e2.trans hE3⟩
  | true =>
    by_cases hl1 : (50 : Int) < (us.length : Int)
    · go_wp2_with fail
      refine (termAlive_any _).mono ?_
      rintro e w3 ⟨rfl, hE3⟩
      go_wp2_with fail
      go_ret
      exact ⟨rfl, e2.trans hE3⟩
    · by_cases hl2 : (50 : Int) < (ms.length : Int)
      · go_wp2_with fail
        refine (termAlive_any _).mono ?_
        rintro e w3 ⟨rfl, hE3⟩
        go_wp2_with fail
        go_ret
        exact ⟨rfl, e2.trans hE3⟩
      · have h7 := HR7.out HR.out
        obtain ⟨y0, y1, y2⟩ := A2.out.cells
        go_wp2_with fail
        clear y0 y1 y2
        go_loopw [8, 9, 10, 12, 13, 14, 34] (fun o t b _ _ _ i wr => ∃ k : Nat, k ≤ S.length ∧ i = .int .i64 k ∧ o = .int .i64 (cnt S us k : Nat) ∧ t = .int .i64 (cnt S ms k : Nat) ∧ b = .bool (bothI S us ms k) ∧ Ext w2 wr) (fun _ _ _ _ _ _ i _ => S.length - (intOf i).toNat)
        case atStart => exact ⟨0, by omega, rfl, rfl, rfl, rfl, Ext.refl _⟩
        case round =>
          obtain ⟨k, hk, rfl, rfl, rfl, rfl, hE⟩ := hrel
          have e3 := e2.trans hE
          have hn1 := HLE.out us k
          have hn2 := HLE.out ms k
          by_cases hlt : k < S.length
          · obtain ⟨bb, off, rfl, hcw⟩ := HC1.out k hlt
            have hcell := cellExtN e3 hcw
            have hs1 := HCY.out us k hlt
            have hs3 := HCY.out ms k hlt
            have hs5 := HBS.out k hlt
            obtain ⟨P, hP⟩ : ∃ P, hasI us S[k] = P := ⟨_, rfl⟩
            obtain ⟨Q, hQ⟩ : ∃ Q, hasI ms S[k] = Q := ⟨_, rfl⟩
            rw [hP] at hs1 hs5
            rw [hQ] at hs3 hs5
            have HP := Lib.hid hP
            have HQ := Lib.hid hQ
            have H1 := Lib.hid hs1
            have H3 := Lib.hid hs3
            have H5 := Lib.hid hs5
            clear hcw hP hQ hs1 hs3 hs5
            obtain ⟨n1, hN1⟩ : ∃ n, cnt S us k = n := ⟨_, rfl⟩
            obtain ⟨n2, hN2⟩ : ∃ n, cnt S ms k = n := ⟨_, rfl⟩
            obtain ⟨b0, hB0⟩ : ∃ b, bothI S us ms k = b := ⟨_, rfl⟩
            rw [hN1] at H1 hn1 ⊢
            rw [hN2] at H3 hn2 ⊢
            rw [hB0] at H5 ⊢
            clear hN1 hN2 hB0
            go_wp2_with fail
            refine (refHas6_any _ us S[k] _ (HA.out.below e3)).mono ?_
            rw [HP.out]
            rintro e w4 ⟨rfl, rfl⟩
            go_wp2_with fail
            refine (refHas6_any _ ms S[k] _ (HB.out.below e3)).mono ?_
            rw [HQ.out]
            rintro e w5 ⟨rfl, rfl⟩
            cases P <;> cases Q <;> cases b0 <;>
            · go_wp2_with fail
              go_roundw
              case rel => exact ⟨k + 1, by omega, by go_num, by rw [H1.out]; rfl, by rw [H3.out]; rfl, by rw [H5.out]; rfl, hE⟩
              case measure => simp [intOf]; omega
          · have hke : k = S.length := by omega
            have HEQ := Lib.hid HEND.out
            rw [← hke] at HEQ
            obtain ⟨n1, hN1⟩ : ∃ n, cnt S us k = n := ⟨_, rfl⟩
            obtain ⟨n2, hN2⟩ : ∃ n, cnt S ms k = n := ⟨_, rfl⟩
            obtain ⟨b0, hB0⟩ : ∃ b, bothI S us ms k = b := ⟨_, rfl⟩
            rw [hN1] at HEQ hn1 ⊢
            rw [hN2] at HEQ hn2 ⊢
            rw [hB0] at HEQ ⊢
            clear hN1 hN2 hB0 hke
            have hm := HMAJ.out
            obtain ⟨m, hM⟩ : ∃ m, Term.majority c = m := ⟨_, rfl⟩
            rw [hM] at hm HEQ
            have HM := Lib.hid hm
            clear hm hM
            obtain ⟨y0, y1, y2⟩ := (X2.out.ext hE).cells
            have X3 := Lib.hid (X2.out.ext hE)
            go_wp2_with fail
            refine (HM.out _ (HV.out.below e3) (by omega)).mono ?_
            rintro e w4 ⟨rfl, hE4⟩
            clear y0 y1 y2
            go_wp2_with fail
            refine (termAlive_any _).mono ?_
            rintro e w5 ⟨rfl, hE5⟩
            by_cases h1 : (n1 : Int) < (m : Int)
            · go_wp2_with fail
              go_ret
              exact ⟨rfl, (e3.trans hE4).trans hE5⟩
            · by_cases h2 : (n2 : Int) < (m : Int)
              · go_wp2_with fail
                go_ret
                exact ⟨rfl, (e3.trans hE4).trans hE5⟩
              · have h3 := HEQ.out (by omega) (by omega)
                subst h3
                go_wp2_with fail
                go_ret
                exact ⟨rfl, (e3.trans hE4).trans hE5⟩

namespace termMeets
theorem own : ownKnob Try.prog.godebug = none := by kernel_rfl
theorem laidOut : laidOutB Try.prog = true := by kernel_rfl
set_option linter.unusedVariables false in
set_option maxRecDepth 100000 in
theorem lifted (os : Os) (started : os.Started) (H : Type) (enc : TypeId × Value → H) :
    ReturnsInHanded {} Try.checked os 3 .any (Rows.termMeetsSpec.pre6 enc Try.prog Try.f3 Rows.termMeetsRow.domain false) (Rows.termMeetsSpec.post enc Try.prog Try.f3 false true false false) := by
  refine returnsInHanded_of_change_sized (C := Try.checked) own started (by kernel_rfl) Try.func3
    (ChangeSpec.witness6 (enc := enc) (C := Try.checked) false ⟨#[], #[.agg #[.int .i64 0, .slice none 0 0, .slice none 0 0], .slice none 0 0, .slice none 0 0], []⟩ 8 (by kernel_rfl) (by kernel_rfl) (by kernel_rfl) (by kernel_rfl)) ?_
  intro W base args ds gs before hval0 hW hcnd hsz _
  have hval : ∀ (j : Nat) t v, Try.f3.params[j]? = some t → args[j]? = some v → Value.okWide Try.prog W .any base t v := hval0
  have hW' := hW
  obtain ⟨p, q, hA0, hV, rfl, hfz, hnd⟩ := hW'
  have hA : DataW.TrodAll enc Try.prog W 0 (fun _ => true) true Try.f3.params.toList args.toList ds p := hA0
  rw [Try.params3] at hA hval
  obtain ⟨v0, vs0, d0, ds0, p0, q0, hargs, rfl, rfl, h0, r0⟩ := trodAll_cons hA
  obtain ⟨v1, vs1, d1, ds1, p1, q1, rfl, rfl, rfl, h1, r1⟩ := trodAll_cons r0
  obtain ⟨v2, vs2, d2, ds2, p2, q2, rfl, rfl, rfl, h2, r2⟩ := trodAll_cons r1
  obtain ⟨rfl, rfl, rfl⟩ := trodAll_nil r2
  obtain rfl : args = #[v0, v1, v2] := by cases args; simp_all
  obtain ⟨rfl, rfl⟩ := trodVars_none hV
  have k0 := h0
  have lt0 : ∀ x ∈ p0, x.block < W.heap.size := by obtain ⟨m, hm⟩ := k0; exact DataW.trod_lt m _ _ _ hm
  obtain ⟨l0, w0⟩ := conf_arg (hval 0 25 v0 rfl rfl) h0
  have k1 := h1
  have lt1 : ∀ x ∈ p1, x.block < W.heap.size := by obtain ⟨m, hm⟩ := k1; exact DataW.trod_lt m _ _ _ hm
  obtain ⟨a1, len1, cap1, rfl⟩ := okWide_slice Try.underlying22 (hval 1 22 v1 rfl rfl)
  obtain ⟨l1, w1⟩ : ∃ l, Ints W (.slice a1 len1 cap1) l := by
    obtain ⟨fuel, hf⟩ := h1
    obtain ⟨v, l, hcs, hb⟩ := ints_of_raw Try.underlying22 Try.underlying3 (by kernel_rfl) hf
    simp [Value.cells] at hcs
    subst hcs
    exact ⟨l, hb⟩
  have k2 := h2
  have lt2 : ∀ x ∈ p2, x.block < W.heap.size := by obtain ⟨m, hm⟩ := k2; exact DataW.trod_lt m _ _ _ hm
  obtain ⟨a2, len2, cap2, rfl⟩ := okWide_slice Try.underlying22 (hval 2 22 v2 rfl rfl)
  obtain ⟨l2, w2⟩ : ∃ l, Ints W (.slice a2 len2 cap2) l := by
    obtain ⟨fuel, hf⟩ := h2
    obtain ⟨v, l, hcs, hb⟩ := ints_of_raw Try.underlying22 Try.underlying3 (by kernel_rfl) hf
    simp [Value.cells] at hcs
    subst hcs
    exact ⟨l, hb⟩
  clear hA0 hval0
  refine (termMeets_walk _ _ _ l0 l1 l2 W w0 w1 w2).mono fun e W' ⟨he, bel⟩ => ?_
  subst he
  exact ⟨_, rfl, _, _, _, [], _, [], hW, trodAll_mk1 (shut_bool Try.underlying4 _), (trodAll_cons_mk (Below.trod laidOut (by kernel_rfl) (of_decide_eq_true (by kernel_rfl)) k0 bel lt0) (trodAll_cons_mk (Below.trod laidOut (by kernel_rfl) (of_decide_eq_true (by kernel_rfl)) k1 bel lt1) (trodAll_cons_mk (Below.trod laidOut (by kernel_rfl) (of_decide_eq_true (by kernel_rfl)) k2 bel lt2) trodAll_mk0))), rfl, bel.frame _, fun h => by cases h⟩
theorem over : Rows.termMeetsRow.holds Try.pinned (OpenSpec.ofChange Rows.termMeetsSpec) :=
  OpenClaim.holds_of_wide 3 Try.f3 rfl rfl rfl rfl rfl rfl rfl ⟨rfl, rfl, rfl, rfl, rfl⟩ rfl rfl rfl rfl rfl (by kernel_rfl) Try.func3 (by kernel_rfl)
    (of_decide_eq_true (by kernel_rfl)) (by unfold Func.isWrapper; first | (rw [if_pos (by decide +kernel)]; kernel_rfl) | (rw [if_neg (by decide +kernel)]; exact ⟨rfl, rfl⟩))
    (fun os started H enc _ => lifted os started H enc)
theorem proved : Rows.TermMeetsSaid := over
end termMeets
end Go.Proofs.Ytpfodkgncachiaa
