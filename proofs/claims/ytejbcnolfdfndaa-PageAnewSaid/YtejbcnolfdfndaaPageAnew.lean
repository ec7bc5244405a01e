/-
  PageAnew: a store that is made of a store's bytes has its frames, and goes on as that would: for every input the statement's function returns true, and leaves what came in as it was.
-/
import Derived.Test.YtejbcnolfdfndaaPgN
namespace Go.Proofs.Ytejbcnolfdfndaa
set_option linter.unusedSimpArgs false
set_option linter.unusedVariables false
open Go.ChangeShapes Go.WideShapes Go.ChangeAt Go.RowKit

set_option maxRecDepth 100000 in
set_option maxHeartbeats 20000000 in
theorem pageAnew_walk (a b : Option Addr) (n c nb cb : Nat) (l : List Page.Op) (m : List UInt8) (W : World) (h0 : Ops W (.slice a n c) l) (hf : ∀ o ∈ l, o.Fits) (h1 : Bytes W (.slice b nb cb) m) :
    Calls Try.prog 9 #[.slice a n c, .slice b nb cb] W fun e W' => e = .returned (.bool true) ∧ Below W.heap.size W W' := by
  obtain ⟨hn, hnc, hc⟩ := h0.len
  obtain ⟨hnb, hnbc, hcb⟩ := h1.len
  have HV := Lib.hid h0
  have HF := Lib.hid hf
  have HM := Lib.hid h1
  obtain ⟨N, hN⟩ : ∃ N, l.length = N := ⟨_, rfl⟩
  rw [hN] at hn
  obtain rfl := hn
  have HN := Lib.hid hN
  have HNB := Lib.hid hnb
  clear h0 h1 hN hnb
  have hfew := fun w1 (hE1 : Ext W w1) => few8_any _ l w1 (HV.out.below hE1) hf
  have HFEW := Lib.hid hfew
  clear hf hfew
  go_enter Try.func9, Try.ntmps9
  go_wp2_with fail
  refine (new8_any (.slice none 0 0) [] W (bytes_none W)).mono ?_
  rintro e w1 ⟨va1, vp1, rfl, hs1, hE1⟩
  have HI0 := Lib.hid (And.intro hs1 hE1)
  clear hs1 hE1
  go_wp2_with fail
  refine (HFEW.out w1 HI0.out.2).mono ?_
  rintro e w2 ⟨rfl, hE2⟩
  have HI0 := Lib.hid (And.intro (HI0.out.1.ext hE2) (HI0.out.2.trans hE2))
  clear hE2
  by_cases hfw : Page.few l = true ∧ nb ≤ 1000
  · obtain ⟨hfw, hnb⟩ := hfw
    rw [hfw]
    have hnot : ¬ (1000 : Int) < (nb : Int) := by omega
    clear hfw
    go_wp2_with fail
    go_loopw [5, 35] (fun s i wr => ∃ (k p : Nat) (va vp : Value) (S : Page.St), k ≤ n ∧ s = .pointer (some ⟨p, 0, none⟩) ∧ i = .int .i64 k ∧ W.heap.size ≤ p ∧ Hid (IsSto wr W.heap.size p va vp S ∧ Ext W wr)) (fun _ i _ => n - (intOf i).toNat)
    case atStart => exact ⟨0, _, _, _, _, by omega, rfl, rfl, Nat.le_refl _, HI0⟩
    case round =>
      obtain ⟨k, p, va, vp, S, hk, rfl, rfl, hp, hI⟩ := hrel
      by_cases hlt : k < n
      · have hkl : k < l.length := by rw [HN.out]; exact hlt
        obtain ⟨a', cap', e', _, _, _, hc⟩ := HV.out.below hI.out.2
        obtain ⟨b, off, rfl, t, p0, p1, p2, p3, ht⟩ := hc k hkl
        injection e' with e1 e2 e3
        subst e1
        obtain ⟨at', nt, ct, rfl⟩ := ht.isSlice
        have hfk := HF.out l[k] (List.getElem_mem _)
        obtain ⟨o, ho⟩ : ∃ o, l[k] = o := ⟨_, rfl⟩
        rw [ho] at p0 p1 p3 ht hfk
        clear hc e2 e3 ho
        obtain ⟨o0, o1, ob, o3⟩ := o
        simp only at p0 p1 p3 ht
        have HT := Lib.hid ht
        have HFK := Lib.hid hfk
        clear ht hfk
        go_wp2_with fail
        have hEa : Ext wr (wr.alloc (.cells #[.int .i64 o0, .int .i64 o1, .slice at' nt ct, .bool o3] 34)) := Ext.alloc _ _
        refine (does8_any (hI.out.1.ext hEa) (hI.out.2.trans hEa).size hp ⟨o0, o1, ob, o3⟩ (.slice at' nt ct) (HT.out.below hEa) HFK.out).mono ?_
        rintro e w3 ⟨p', va', vp', rfl, hs3, hp', hb3⟩
        have hE3 : Ext W w3 := Below.trans (B := W.heap.size) (hI.out.2.trans hEa) hb3
        obtain ⟨r, hr⟩ : ∃ r, (Page.step S ⟨o0, o1, ob, o3⟩).2 = r := ⟨_, rfl⟩
        rw [hr]
        obtain ⟨rn, re, rb, ri⟩ := r
        simp only [ansV, ansCells]
        have HS3 := Lib.hid (And.intro hs3 hE3)
        clear hs3 hE3 hb3 hr hEa
        go_wp2_with fail
        go_roundw
        case rel => exact ⟨k + 1, p', va', vp', _, by omega, rfl, by go_num, hp', Lib.hid ⟨HS3.out.1.ext (Ext.alloc _ _), HS3.out.2.trans (Ext.alloc _ _)⟩⟩
        case measure => simp [intOf]; omega
      · obtain rfl : k = n := by omega
        go_wp2_with fail
        refine (off8_any hI.out.1 false).mono ?_
        rintro e w3 ⟨rfl, hB3, hs3⟩
        have hE3 : Ext W w3 := belowBut hI.out.2 hp (Nat.le_refl _) hB3
        have HS3 := Lib.hid (And.intro hs3 hE3)
        clear hs3 hE3 hB3
        go_wp2_with fail
        refine (sync8_any HS3.out.1).mono ?_
        rintro e w4 ⟨rfl, hB4, hs4⟩
        have hE4 : Ext W w4 := belowBut HS3.out.2 hp (Nat.le_refl _) hB4
        have hsy : (⟨S.l, S.k, false⟩ : Page.St).sync = ⟨S.l, S.l.length, false⟩ := by unfold Page.St.sync; simp
        rw [hsy] at hs4
        have HS4 := Lib.hid (And.intro hs4 hE4)
        have hsc := Page.syn_scan hs4.ok
        simp only [List.take_length] at hsc
        have HSC := Lib.hid hsc
        clear hs4 hE4 hB4 hsy hsc
        go_wp2_with fail
        refine (bytes8_any HS4.out.1).mono ?_
        rintro e w5 ⟨u, rfl, ho5, hb5⟩
        have hE5 : Ext w4 w5 := hb5
        have hby := ho5.bytes
        simp only [List.take_length] at hby
        obtain ⟨ua, un, uc, rfl⟩ := ownSlice ho5
        have HBY := Lib.hid hby
        have HS5 := Lib.hid (And.intro (HS4.out.1.ext hE5) (HS4.out.2.trans hE5))
        clear ho5 hb5 hby hE5
        go_wp2_with fail
        refine (new8_any _ _ w5 HBY.out).mono ?_
        rintro e w6 ⟨vc, vd, rfl, hs6, hE6⟩
        rw [HSC.out] at hs6
        have HT6 := Lib.hid hs6
        have HS6 := Lib.hid (And.intro (HS5.out.1.ext hE6) (HS5.out.2.trans hE6))
        have HAH := Lib.hid HS5.out.1.ahead
        have hszq := hs6.lt
        have hszW := HS5.out.2.size
        obtain ⟨q, hq⟩ : ∃ q, w5.heap.size = q := ⟨_, rfl⟩
        rw [hq] at HT6 HAH hszq hszW ⊢
        clear hs6 hE6 hq
        go_wp2_with fail
        refine (append8_any HS6.out.1 HS6.out.2.size _ m (HM.out.below HS6.out.2) (by have := HNB.out; omega)).mono ?_
        rintro e w7 ⟨rfl, va7, vp7, hA7⟩
        have HA7 := Lib.hid hA7
        have HT7 := Lib.hid (sto_behind hA7 HAH.out HT6.out (Nat.le_refl _))
        have HE7 := Lib.hid (show Ext W w7 from Below.trans (B := W.heap.size) HS6.out.2 (hA7.below HS6.out.1 (Nat.le_refl _) hp HS6.out.2.size))
        have hs7 := hA7.size
        obtain ⟨z, hz⟩ : ∃ z : Nat, (⟨S.l, S.l.length, false⟩ : Page.St).appendAt m = z := ⟨_, rfl⟩
        obtain ⟨y, hy⟩ : ∃ y : Int, (⟨S.l, S.l.length, false⟩ : Page.St).appendErr m = y := ⟨_, rfl⟩
        rw [hz, hy]
        have HZ := Lib.hid (And.intro hz hy)
        clear hA7 hz hy
        go_wp2_with fail
        refine (append8_any HT7.out (by omega) _ m (HM.out.below HE7.out) (by have := HNB.out; omega)).mono ?_
        rintro e w8 ⟨rfl, ve, vf, hA8⟩
        rw [HZ.out.1, HZ.out.2]
        have HS8 := Lib.hid (sto_before HA7.out HAH.out HT6.out (Nat.le_refl _) hA8)
        have HT8 := Lib.hid hA8.sto
        have HE8 := Lib.hid (show Ext W w8 from Below.trans (B := W.heap.size) HE7.out (hA8.below HT7.out (by omega) (by omega) HE7.out.size))
        clear hA8
        go_wp2_with fail
        refine (alive8_any w8).mono ?_
        rintro e w9 ⟨rfl, hE9⟩
        have HE9 := Lib.hid hE9
        clear hE9
        obtain ⟨U, hU⟩ : ∃ U, (⟨S.l, S.l.length, false⟩ : Page.St).append m = U := ⟨_, rfl⟩
        rw [hU] at HS8 HT8
        clear hU
        have hyy : (y == y) = true := by simp
        go_wp2_with fail
        refine (len8_any (HS8.out.ext HE9.out)).mono ?_
        rintro e w10 ⟨rfl, rfl⟩
        go_wp2_with fail
        refine (len8_any (HT8.out.ext HE9.out)).mono ?_
        rintro e w10 ⟨rfl, rfl⟩
        obtain ⟨L, hL⟩ : ∃ L, (Page.bytes U.l).length = L := ⟨_, rfl⟩
        rw [hL]
        clear hL
        go_wp2_with fail
        refine (frames8_any (HS8.out.ext HE9.out)).mono ?_
        rintro e w11 ⟨es, fu, rfl, hxs, ho, _, hE11⟩
        have HE11 := Lib.hid hE11
        have hl1 : es.length = U.l.length := by rw [← hxs, List.length_map]
        rw [hl1] at ho
        obtain ⟨fa, fn, fc, rfl⟩ := ownSlice ho
        have hfn : fn = U.l.length := by rcases ho.2 with ⟨h, h'⟩ | ⟨_, _, _, h, _⟩ <;> (injection h with _ h _; first | done | omega | skip)
        obtain ⟨F, hF⟩ : ∃ F, U.l.length = F := ⟨_, rfl⟩
        rw [hF] at hfn
        subst hfn
        have HFF := Lib.hid hF
        clear ho hxs hl1 hE11 hF
        go_wp2_with fail
        refine (frames8_any (HT8.out.ext (HE9.out.trans HE11.out))).mono ?_
        rintro e w12 ⟨es2, fu2, rfl, hxs2, ho2, _, hE12⟩
        have HE12 := Lib.hid hE12
        have hl2 : es2.length = fn := by rw [← HFF.out, ← hxs2, List.length_map]
        rw [hl2] at ho2
        obtain ⟨fa2, fn2, fc2, rfl⟩ := ownSlice ho2
        have hfn2 : fn2 = fn := by rcases ho2.2 with ⟨h, h'⟩ | ⟨_, _, _, h, _⟩ <;> (injection h with _ h _; first | done | omega | skip)
        subst hfn2
        clear ho2 hxs2 hl2 hE12
        go_wp2_with fail
        go_ret
        exact ⟨by simp, HE8.out.trans (HE9.out.trans (HE11.out.trans HE12.out))⟩
  · have HEND : Hid (∀ w1, Ext W w1 → Calls Try.prog 11 #[] w1 fun e w' => e = .returned (.bool true) ∧ Ext W w') := Lib.hid (fun w1 h => (alive8_any w1).mono fun e w' ⟨he, hE⟩ => ⟨he, h.trans hE⟩)
    cases hfw2 : Page.few l with
    | false =>
      clear hfw
      go_wp2_with fail
      refine (HEND.out w2 HI0.out.2).mono ?_
      rintro e w3 ⟨rfl, hE3⟩
      go_wp2_with fail
      go_ret
      exact ⟨rfl, hE3⟩
    | true =>
      have hbig : (1000 : Int) < (nb : Int) := by
        have : ¬ nb ≤ 1000 := fun h => hfw ⟨hfw2, h⟩
        omega
      clear hfw
      go_wp2_with fail
      refine (HEND.out w2 HI0.out.2).mono ?_
      rintro e w3 ⟨rfl, hE3⟩
      go_wp2_with fail
      go_ret
      exact ⟨rfl, hE3⟩

namespace pageAnew
theorem own : ownKnob Try.prog.godebug = none := by kernel_rfl
theorem laidOut : laidOutB Try.prog = true := by kernel_rfl
set_option linter.unusedVariables false in
set_option maxRecDepth 100000 in
theorem lifted (os : Os) (started : os.Started) (H : Type) (enc : TypeId × Value → H) :
    ReturnsInHanded {} Try.checked os 9 .any (Rows.pageAnewSpec.pre6 enc Try.prog Try.f9 Rows.pageAnewRow.domain false) (Rows.pageAnewSpec.post enc Try.prog Try.f9 false true false false) := by
  refine returnsInHanded_of_change_sized (C := Try.checked) own started (by kernel_rfl) Try.func9
    (ChangeSpec.witness6 (enc := enc) (C := Try.checked) false ⟨#[], #[.slice none 0 0, .slice none 0 0], []⟩ 8 (by kernel_rfl) (by kernel_rfl) (by kernel_rfl) (by kernel_rfl)) ?_
  intro W base args ds gs before hval0 hW hcnd hsz _
  have hval : ∀ (j : Nat) t v, Try.f9.params[j]? = some t → args[j]? = some v → Value.okWide Try.prog W .any base t v := hval0
  have hW' := hW
  obtain ⟨p, q, hA0, hV, rfl, hfz, hnd⟩ := hW'
  have hA : DataW.TrodAll enc Try.prog W 0 (fun _ => true) true Try.f9.params.toList args.toList ds p := hA0
  rw [Try.params9] at hA hval
  obtain ⟨v0, vs0, d0, ds0, p0, q0, hargs, rfl, rfl, h0, r0⟩ := trodAll_cons hA
  obtain ⟨v1, vs1, d1, ds1, p1, q1, rfl, rfl, rfl, h1, r1⟩ := trodAll_cons r0
  obtain ⟨rfl, rfl, rfl⟩ := trodAll_nil r1
  obtain rfl : args = #[v0, v1] := by cases args; simp_all
  obtain ⟨rfl, rfl⟩ := trodVars_none hV
  have k0 := h0
  have lt0 : ∀ x ∈ p0, x.block < W.heap.size := by obtain ⟨m, hm⟩ := k0; exact DataW.trod_lt m _ _ _ hm
  obtain ⟨a0, len0, cap0, rfl⟩ := okWide_slice Try.underlying23 (hval 0 23 v0 rfl rfl)
  obtain ⟨l0, w0, f0⟩ : ∃ l, Ops W (.slice a0 len0 cap0) l ∧ ∀ o ∈ l, o.Fits := by
    obtain ⟨fuel, hf⟩ := h0
    obtain ⟨v, l, hcs, hb, hft⟩ := ops_of_raw (x := (d0, p0)) hf (fun m hm => of_decide_eq_true (List.all_eq_true.1 hsz _ (DataW.weights_mem_each (j := 0) (by rw [Try.params9]; rfl) rfl m hm)))
    simp [Value.cells] at hcs
    subst hcs
    exact ⟨l, hb, hft⟩
  have k1 := h1
  have lt1 : ∀ x ∈ p1, x.block < W.heap.size := by obtain ⟨m, hm⟩ := k1; exact DataW.trod_lt m _ _ _ hm
  obtain ⟨a1, len1, cap1, rfl⟩ := okWide_slice Try.underlying22 (hval 1 22 v1 rfl rfl)
  obtain ⟨l1, w1⟩ : ∃ l, Bytes W (.slice a1 len1 cap1) l := by
    obtain ⟨fuel, hf⟩ := h1
    obtain ⟨v, l, hcs, hb⟩ := bytes_of_raw Try.underlying22 Try.underlying5 (by kernel_rfl) hf
    simp [Value.cells] at hcs
    subst hcs
    exact ⟨l, hb⟩
  have sz1 : len1 * 1 ≤ 140737488351232 := by obtain ⟨fuel, hf⟩ := h1; exact reach_of_raw (P := Try.prog) (x := (d1, p1)) (j := 1) hsz (by rw [Try.params9]; rfl) rfl Try.underlying22 (by kernel_rfl) hf
  clear hA0 hval0
  refine (pageAnew_walk a0 a1 len0 cap0 len1 cap1 l0 l1 W w0 f0 w1).mono fun e W' ⟨he, bel⟩ => ?_
  subst he
  exact ⟨_, rfl, _, _, _, [], _, [], hW, trodAll_mk1 (shut_bool Try.underlying4 _), (trodAll_cons_mk (Below.trod laidOut (by kernel_rfl) (of_decide_eq_true (by kernel_rfl)) k0 bel lt0) (trodAll_cons_mk (Below.trod laidOut (by kernel_rfl) (of_decide_eq_true (by kernel_rfl)) k1 bel lt1) trodAll_mk0)), rfl, bel.frame _, fun h => by cases h⟩
theorem over : Rows.pageAnewRow.holds Try.pinned (OpenSpec.ofChange Rows.pageAnewSpec) :=
  OpenClaim.holds_of_wide 9 Try.f9 rfl rfl rfl rfl rfl rfl rfl ⟨rfl, rfl, rfl, rfl, rfl⟩ rfl rfl rfl rfl rfl (by kernel_rfl) Try.func9 (by kernel_rfl)
    (of_decide_eq_true (by kernel_rfl)) (by unfold Func.isWrapper; first | (rw [if_pos (by decide +kernel)]; kernel_rfl) | (rw [if_neg (by decide +kernel)]; exact ⟨rfl, rfl⟩))
    (fun os started H enc _ => lifted os started H enc)
theorem proved : Rows.PageAnewSaid := over
end pageAnew
end Go.Proofs.Ytejbcnolfdfndaa
