/-
  PageCrashes: behind a crash all frames that were safe are there, and of the others some first ones, as they were: for every input the statement's function returns true, and leaves what came in as it was.
-/
import Derived.Test.YtejbcnolfdfndaaPgN
namespace Go.Proofs.Ytejbcnolfdfndaa
set_option linter.unusedSimpArgs false
set_option linter.unusedVariables false
open Go.ChangeShapes Go.WideShapes Go.ChangeAt Go.RowKit

namespace Page
theorem crash_neg {S : St} (h : S.Ok) {keep : Int} (hk : keep ≤ 0) : whole S.l (S.stay keep) = S.k := by
  have := crash_stop (S := S) (keep := keep) (n := S.k) (E := (S.syn : Nat)) h.le (fun k _ => by omega) (Int.le_refl _) (fun hlt => by
    have := bytes_take_lt S.l (i := S.k) (j := S.k + 1) (by omega) (by omega)
    unfold St.syn
    omega)
  exact congrArg St.k this
theorem crash_big {S : St} (h : S.Ok) {keep : Int} (hk : 70000 ≤ keep) : whole S.l (S.stay keep) = S.l.length := by
  have hb : ∀ k, (bytes (S.l.take k)).length ≤ 65536 := fun k => Nat.le_trans (bytes_take_le _ _) h.max
  have := crash_stop (S := S) (keep := keep) (n := S.l.length) (E := (S.syn : Nat) + keep) (Nat.le_refl _) (fun k _ => by have := hb k; omega) (by have := hb S.l.length; omega) (fun hlt => absurd hlt (by omega))
  exact congrArg St.k this
end Page
theorem frSlice {w : World} {v : Value} {l : List (List UInt8)} (h : FrRow w v l) : ∃ a c, v = .slice a l.length c := by
  obtain ⟨a, c, e, _⟩ := h
  exact ⟨a, c, e⟩

set_option maxRecDepth 100000 in
set_option maxHeartbeats 20000000 in
theorem pageCrashes_walk (a : Option Addr) (n c : Nat) (l : List Page.Op) (keep : Int) (W : World) (h0 : Ops W (.slice a n c) l) (hf : ∀ o ∈ l, o.Fits) (hkeep : -9223372036854775808 ≤ keep ∧ keep ≤ 9223372036854775807) :
    Calls Try.prog 5 #[.slice a n c, .int .i64 keep] W fun e W' => e = .returned (.bool true) ∧ Below W.heap.size W W' := by
  obtain ⟨hn, hnc, hc⟩ := h0.len
  have HV := Lib.hid h0
  have HF := Lib.hid hf
  obtain ⟨N, hN⟩ : ∃ N, l.length = N := ⟨_, rfl⟩
  rw [hN] at hn
  obtain rfl := hn
  have HN := Lib.hid hN
  clear h0 hN
  have hfew := fun w1 (hE1 : Ext W w1) => few8_any _ l w1 (HV.out.below hE1) hf
  have HFEW := Lib.hid hfew
  clear hf hfew
  go_enter Try.func5, Try.ntmps5
  go_wp2_with fail
  refine (new8_any (.slice none 0 0) [] W (bytes_none W)).mono ?_
  rintro e w1 ⟨va1, vp1, rfl, hs1, hE1⟩
  have HI0 := Lib.hid (And.intro hs1 hE1)
  clear hs1 hE1
  go_wp2_with fail
  refine (HFEW.out w1 HI0.out.2).mono ?_
  rintro e w2 ⟨rfl, hE2⟩
  have HI0 := Lib.hid (And.intro (HI0.out.1.ext hE2) (HI0.out.2.trans hE2))
  clear hE2
  cases hfw : Page.few l with
  | true =>
    clear hfw
    go_wp2_with fail
    go_loopw [5, 30] (fun s i wr => ∃ (k p : Nat) (va vp : Value) (S : Page.St), k ≤ n ∧ s = .pointer (some ⟨p, 0, none⟩) ∧ i = .int .i64 k ∧ W.heap.size ≤ p ∧ Hid (IsSto wr W.heap.size p va vp S ∧ Ext W wr)) (fun _ i _ => n - (intOf i).toNat)
    case atStart => exact ⟨0, _, _, _, _, by omega, rfl, rfl, Nat.le_refl _, HI0⟩
    case round =>
      obtain ⟨k, p, va, vp, S, hk, rfl, rfl, hp, hI⟩ := hrel
      by_cases hlt : k < n
      · have hkl : k < l.length := by rw [HN.out]; exact hlt
        obtain ⟨a', cap', e', _, _, _, hc⟩ := HV.out.below hI.out.2
        obtain ⟨b, off, rfl, t, p0, p1, p2, p3, ht⟩ := hc k hkl
        injection e' with e1 e2 e3
        subst e1
        obtain ⟨at', nt, ct, rfl⟩ := ht.isSlice
        have hfk := HF.out l[k] (List.getElem_mem _)
        obtain ⟨o, ho⟩ : ∃ o, l[k] = o := ⟨_, rfl⟩
        rw [ho] at p0 p1 p3 ht hfk
        clear hc e2 e3 ho
        obtain ⟨o0, o1, ob, o3⟩ := o
        simp only at p0 p1 p3 ht
        have HT := Lib.hid ht
        have HFK := Lib.hid hfk
        clear ht hfk
        go_wp2_with fail
        have hEa : Ext wr (wr.alloc (.cells #[.int .i64 o0, .int .i64 o1, .slice at' nt ct, .bool o3] 34)) := Ext.alloc _ _
        refine (does8_any (hI.out.1.ext hEa) (hI.out.2.trans hEa).size hp ⟨o0, o1, ob, o3⟩ (.slice at' nt ct) (HT.out.below hEa) HFK.out).mono ?_
        rintro e w3 ⟨p', va', vp', rfl, hs3, hp', hb3⟩
        have hE3 : Ext W w3 := Below.trans (B := W.heap.size) (hI.out.2.trans hEa) hb3
        obtain ⟨r, hr⟩ : ∃ r, (Page.step S ⟨o0, o1, ob, o3⟩).2 = r := ⟨_, rfl⟩
        rw [hr]
        obtain ⟨rn, re, rb, ri⟩ := r
        simp only [ansV, ansCells]
        have HS3 := Lib.hid (And.intro hs3 hE3)
        clear hs3 hE3 hb3 hr hEa
        go_wp2_with fail
        go_roundw
        case rel => exact ⟨k + 1, p', va', vp', _, by omega, rfl, by go_num, hp', Lib.hid ⟨HS3.out.1.ext (Ext.alloc _ _), HS3.out.2.trans (Ext.alloc _ _)⟩⟩
        case measure => simp [intOf]; omega
      · obtain rfl : k = n := by omega
        go_wp2_with fail
        refine (bytes8_any hI.out.1).mono ?_
        rintro e w3 ⟨u, rfl, ho3, hb3⟩
        have hE3 : Ext wr w3 := hb3
        have hby := ho3.bytes
        obtain ⟨ua, un, uc, rfl⟩ := ownSlice ho3
        have hbl : (Page.bytes (S.l.take S.k)).length ≤ 65536 := Nat.le_trans (Page.bytes_take_le _ _) hI.out.1.ok.max
        have hsa := Page.scan_all (l := S.l.take S.k) (fun x hx => hI.out.1.ok.small x (List.mem_of_mem_take hx))
        have HBY := Lib.hid (And.intro hby (And.intro hbl hsa))
        have HS3 := Lib.hid (And.intro (hI.out.1.ext hE3) (hI.out.2.trans hE3))
        clear ho3 hb3 hby hE3 hbl hsa
        go_wp2_with fail
        refine (scan8_any _ _ w3 HBY.out.1 (by have := HBY.out.2.1; omega)).mono ?_
        rintro e w4 ⟨es, u4, rfl, hx4, ho4, _, hE4⟩
        have hl4 : es.length = S.k := by
          have h1 := congrArg List.length hx4
          rw [List.length_map, HBY.out.2.2] at h1
          simp only [List.length_take] at h1
          have := HS3.out.1.ok.le
          omega
        rw [hl4] at ho4
        obtain ⟨a4, n4, c4, rfl⟩ := ownSlice ho4
        have hn4 : n4 = S.k := by rcases ho4.2 with ⟨h, h'⟩ | ⟨_, _, _, h, _⟩ <;> (injection h with _ h _; first | done | omega | skip)
        obtain ⟨sk, hsk⟩ : ∃ sk, S.k = sk := ⟨_, rfl⟩
        have HSK := Lib.hid hsk
        rw [hsk] at hn4
        subst hn4
        obtain ⟨N4, hN4⟩ : ∃ N4, (Page.scan (Page.bytes (S.l.take S.k))).2 = N4 := ⟨_, rfl⟩
        rw [hN4]
        have HS4 := Lib.hid (And.intro (HS3.out.1.ext hE4) (HS3.out.2.trans hE4))
        clear hx4 ho4 hE4 hl4 hsk hN4
        go_wp2_with fail
        refine (frames8_any HS4.out.1).mono ?_
        rintro e w5 ⟨es5, u5, rfl, hx5, ho5, hg5, hE5⟩
        have hfr5 := FrRow.of ho5 hx5 hg5
        obtain ⟨a5, c5, rfl⟩ := frSlice hfr5
        have HFR5 := Lib.hid hfr5
        have HS5 := Lib.hid (And.intro (HS4.out.1.ext hE5) (HS4.out.2.trans hE5))
        obtain ⟨n2, hn2⟩ : ∃ n2, S.l.length = n2 := ⟨_, rfl⟩
        have HN2 := Lib.hid hn2
        rw [hn2]
        clear hx5 ho5 hg5 hE5 hfr5 hn2
        go_wp2_with fail
        refine (crash8_any HS5.out.1 keep hkeep).mono ?_
        rintro e w6 ⟨rfl, hB6, va6, vp6, hs6⟩
        have HFR6 := Lib.hid (HFR5.out.keep (KeepU.but hB6 HS5.out.1.heap (by decide)) (KeepR.but hB6 HS5.out.1.heap (by decide)))
        have HS6 := Lib.hid (And.intro (hs6.lower HS5.out.2.size) (show Ext W w6 from belowBut HS5.out.2 hp (Nat.le_refl _) hB6))
        obtain ⟨K, hK⟩ : ∃ K, Page.whole S.l (S.stay keep) = K := ⟨_, rfl⟩
        have hCl : (S.crash keep).l = S.l.take K := by rw [← hK]; rfl
        have hKle : K ≤ n2 := by rw [← hK, ← HN2.out]; exact Page.whole_le _ _
        have hKge : n4 ≤ K := by rw [← hK, ← HSK.out]; exact Page.crash_ge HS5.out.1.ok keep
        have hneg : keep < 0 → K = n4 := fun h => by rw [← hK, ← HSK.out]; exact Page.crash_neg HS5.out.1.ok (by omega)
        have hbig : 70000 ≤ keep → K = n2 := fun h => by rw [← hK, ← HN2.out]; exact Page.crash_big HS5.out.1.ok h
        have HCL := Lib.hid hCl
        have HEND := Lib.hid (And.intro hneg hbig)
        clear hB6 hs6 hK hCl hneg hbig
        go_wp2_with fail
        refine (frames8_any HS6.out.1).mono ?_
        rintro e w7 ⟨es7, u7, rfl, hx7, ho7, hg7, hE7⟩
        have hfr7 := FrRow.of ho7 hx7 hg7
        rw [HCL.out] at hfr7
        obtain ⟨a7, c7, rfl⟩ := frSlice hfr7
        have HFR7 := Lib.hid hfr7
        have HFR5 := Lib.hid (HFR6.out.ext hE7)
        have HS7 := Lib.hid (And.intro (HS6.out.1.ext hE7) (HS6.out.2.trans hE7))
        have hlK : (S.l.take K).length = K := by rw [List.length_take, HN2.out]; omega
        have HLK := Lib.hid hlK
        rw [hlK]
        have d1 : decide (K < n4) = false := decide_eq_false (by omega)
        have d2 : decide (n2 < K) = false := decide_eq_false (by omega)
        have hcnt : n2 ≤ 65536 := by have := Page.count_le S.l; have := HS5.out.1.ok.max; have := HN2.out; omega
        clear hx7 ho7 hg7 hE7 hfr7 hlK HFR6 HS6
        go_wp2_with fail
        refine (synced8_any HS7.out.1).mono ?_
        rintro e w8 ⟨rfl, rfl⟩
        rw [Page.crash_syn]
        go_wp2_with fail
        refine (len8_any HS7.out.1).mono ?_
        rintro e w8 ⟨rfl, rfl⟩
        obtain ⟨L, hL⟩ : ∃ L, (Page.bytes (S.crash keep).l).length = L := ⟨_, rfl⟩
        rw [hL]
        clear hL
        go_wp2_with fail
        go_loopw [76] (fun i wr => ∃ k : Nat, k ≤ K ∧ i = .int .i64 k ∧ Ext w7 wr) (fun i _ => K - (intOf i).toNat)
        case atStart => exact ⟨0, by omega, rfl, Ext.refl _⟩
        case round =>
          obtain ⟨k, hk, rfl, hE⟩ := hrel
          by_cases hlt : k < K
          · obtain ⟨_, _, e1, _, hf1⟩ := HFR7.out.ext (hE.trans (Ext.drew wr))
            obtain ⟨b1, o1, a', n', c', rfl, hc1, hb1⟩ := hf1 k (by rw [HLK.out]; exact hlt)
            injection e1 with e1 e9 e3
            subst e1 e3
            clear e9
            obtain ⟨_, _, e1, _, hf2⟩ := HFR5.out.ext (hE.trans (Ext.drew wr))
            obtain ⟨b2, o2, a'', n'', c'', rfl, hc2, hb2⟩ := hf2 k (by rw [HN2.out]; omega)
            injection e1 with e1 e9 e3
            subst e1 e3
            clear e9
            have hs1 := run_str (P := Try.prog) 22 9 5 Try.underlying22 Try.underlying5 Try.underlying9 hb1.1
            have hs2 := run_str (P := Try.prog) 22 9 5 Try.underlying22 Try.underlying5 Try.underlying9 hb2.1
            rw [List.getElem_take] at hs1
            obtain ⟨X, hX⟩ : ∃ X, S.l[k]'(by rw [HN2.out]; omega) = X := ⟨_, rfl⟩
            rw [hX] at hs1 hs2
            have hkn : k < n2 := by omega
            clear hf1 hf2 hb1 hb2 hX
            go_wp2_with fail
            go_region
            all_goals
              go_wp2_with fail
              go_roundw
              case rel => exact ⟨k + 1, by omega, by go_num, hE.trans (Ext.drew wr)⟩
              case measure => simp [intOf]; omega
          · obtain rfl : k = K := by omega
            go_wp2_with fail
            refine (alive8_any wr).mono ?_
            rintro e w9 ⟨rfl, hE9⟩
            have HE9 := Lib.hid (HS7.out.2.trans (hE.trans hE9))
            by_cases hng : keep < 0
            · have hkk := HEND.out.1 hng
              obtain rfl : n4 = k := hkk.symm
              go_wp2_with fail
              go_ret
              exact ⟨by simp, HE9.out⟩
            · have hge : 0 ≤ keep := by omega
              by_cases hbg : keep < 70000
              · go_wp2_with fail
                go_ret
                exact ⟨by simp, HE9.out⟩
              · obtain rfl : n2 = k := (HEND.out.2 (by omega)).symm
                go_wp2_with fail
                go_ret
                exact ⟨by simp, HE9.out⟩
  | false =>
    go_wp2_with fail
    refine (alive8_any w2).mono ?_
    rintro e w3 ⟨rfl, hE3⟩
    go_wp2_with fail
    go_ret
    exact ⟨rfl, HI0.out.2.trans hE3⟩

namespace pageCrashes
theorem own : ownKnob Try.prog.godebug = none := by kernel_rfl
theorem laidOut : laidOutB Try.prog = true := by kernel_rfl
set_option linter.unusedVariables false in
set_option maxRecDepth 100000 in
theorem lifted (os : Os) (started : os.Started) (H : Type) (enc : TypeId × Value → H) :
    ReturnsInHanded {} Try.checked os 5 .any (Rows.pageCrashesSpec.pre6 enc Try.prog Try.f5 Rows.pageCrashesRow.domain false) (Rows.pageCrashesSpec.post enc Try.prog Try.f5 false true false false) := by
  refine returnsInHanded_of_change_sized (C := Try.checked) own started (by kernel_rfl) Try.func5
    (ChangeSpec.witness6 (enc := enc) (C := Try.checked) false ⟨#[], #[.slice none 0 0, .int .i64 0], []⟩ 8 (by kernel_rfl) (by kernel_rfl) (by kernel_rfl) (by kernel_rfl)) ?_
  intro W base args ds gs before hval0 hW hcnd hsz _
  have hval : ∀ (j : Nat) t v, Try.f5.params[j]? = some t → args[j]? = some v → Value.okWide Try.prog W .any base t v := hval0
  have hW' := hW
  obtain ⟨p, q, hA0, hV, rfl, hfz, hnd⟩ := hW'
  have hA : DataW.TrodAll enc Try.prog W 0 (fun _ => true) true Try.f5.params.toList args.toList ds p := hA0
  rw [Try.params5] at hA hval
  obtain ⟨v0, vs0, d0, ds0, p0, q0, hargs, rfl, rfl, h0, r0⟩ := trodAll_cons hA
  obtain ⟨v1, vs1, d1, ds1, p1, q1, rfl, rfl, rfl, h1, r1⟩ := trodAll_cons r0
  obtain ⟨rfl, rfl, rfl⟩ := trodAll_nil r1
  obtain rfl : args = #[v0, v1] := by cases args; simp_all
  obtain ⟨rfl, rfl⟩ := trodVars_none hV
  have k0 := h0
  have lt0 : ∀ x ∈ p0, x.block < W.heap.size := by obtain ⟨m, hm⟩ := k0; exact DataW.trod_lt m _ _ _ hm
  obtain ⟨a0, len0, cap0, rfl⟩ := okWide_slice Try.underlying23 (hval 0 23 v0 rfl rfl)
  obtain ⟨l0, w0, f0⟩ : ∃ l, Ops W (.slice a0 len0 cap0) l ∧ ∀ o ∈ l, o.Fits := by
    obtain ⟨fuel, hf⟩ := h0
    obtain ⟨v, l, hcs, hb, hft⟩ := ops_of_raw (x := (d0, p0)) hf (fun m hm => of_decide_eq_true (List.all_eq_true.1 hsz _ (DataW.weights_mem_each (j := 0) (by rw [Try.params5]; rfl) rfl m hm)))
    simp [Value.cells] at hcs
    subst hcs
    exact ⟨l, hb, hft⟩
  have k1 := h1
  have lt1 : ∀ x ∈ p1, x.block < W.heap.size := by obtain ⟨m, hm⟩ := k1; exact DataW.trod_lt m _ _ _ hm
  obtain ⟨a1, rfl, _, _, w1⟩ := open_int Try.underlying3 (hval 1 3 v1 rfl rfl) h1
  clear hA0 hval0
  refine (pageCrashes_walk a0 len0 cap0 l0 a1 W w0 f0 (bounds_i64 w1)).mono fun e W' ⟨he, bel⟩ => ?_
  subst he
  exact ⟨_, rfl, _, _, _, [], _, [], hW, trodAll_mk1 (shut_bool Try.underlying4 _), (trodAll_cons_mk (Below.trod laidOut (by kernel_rfl) (of_decide_eq_true (by kernel_rfl)) k0 bel lt0) (trodAll_cons_mk (Below.trod laidOut (by kernel_rfl) (of_decide_eq_true (by kernel_rfl)) k1 bel lt1) trodAll_mk0)), rfl, bel.frame _, fun h => by cases h⟩
theorem over : Rows.pageCrashesRow.holds Try.pinned (OpenSpec.ofChange Rows.pageCrashesSpec) :=
  OpenClaim.holds_of_wide 5 Try.f5 rfl rfl rfl rfl rfl rfl rfl ⟨rfl, rfl, rfl, rfl, rfl⟩ rfl rfl rfl rfl rfl (by kernel_rfl) Try.func5 (by kernel_rfl)
    (of_decide_eq_true (by kernel_rfl)) (by unfold Func.isWrapper; first | (rw [if_pos (by decide +kernel)]; kernel_rfl) | (rw [if_neg (by decide +kernel)]; exact ⟨rfl, rfl⟩))
    (fun os started H enc _ => lifted os started H enc)
theorem proved : Rows.PageCrashesSaid := over
end pageCrashes
end Go.Proofs.Ytejbcnolfdfndaa
