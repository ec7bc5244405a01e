/-
  OrderGrows: behind each entry there are at least as many records as behind the one ahead, and behind a trim just as many: for every input the statement's function returns true, and leaves what came in as it was.
-/
import Derived.Test.YtnldbdgchkknpaaBsOrI
import Derived.Test.YtnldbdgchkknpaaBsOrK
import Derived.Test.YtnldbdgchkknpaaBsOrRaw
namespace Go.Proofs.Ytnldbdgchkknpaa
set_option linter.unusedSimpArgs false
set_option linter.unusedVariables false
open Go.ChangeShapes Go.WideShapes Go.ChangeAt Go.RowKit

set_option maxRecDepth 100000 in
set_option maxHeartbeats 20000000 in
theorem orderGrows_walk (shards : Int) (a : Option Addr) (len cap : Nat) (l : List Ent.E) (W : World) (hv : Ents W (.slice a len cap) l) (hsz : len * 64 ≤ 140737488351232) (hc : ∀ e ∈ l, e.cut.length ≤ 17592186043904) :
    Calls Try.prog 6 #[.int .i64 shards, .slice a len cap] W fun e W' => e = .returned (.bool true) ∧ Below W.heap.size W W' := by
  have hlen : len = l.length := by obtain ⟨_, _, e, _⟩ := hv.shape; injection e with _ e _
  subst hlen
  have HV := Lib.hid hv
  have HC := Lib.hid (fun e he => Nat.le_trans (hc e he) (show 17592186043904 ≤ 17592186044416 by omega))
  have HSZ := Lib.hid hsz
  clear hv hc hsz
  go_enter Try.func6, Try.ntmps6
  go_wp2_with fail
  refine (few15_any _ l W HV.out).mono ?_
  rintro e w1 ⟨b, rfl, hE1, hb⟩
  have HE1 := Lib.hid hE1
  cases b with
  | false =>
    go_wp2_with fail
    refine (alive15_any _).mono ?_
    rintro e w2 ⟨rfl, hE2⟩
    go_wp2_with fail
    go_ret
    exact ⟨rfl, HE1.out.trans hE2⟩
  | true =>
    have hl60 := (hb rfl).1
    clear hb hE1
    go_wp2_with fail
    refine (mine15_any _ l w1 (HV.out.below HE1.out) (by omega)).mono ?_
    rintro e w2 ⟨u, rfl, hu, hE2⟩
    have HU := Lib.hid (hu.ents hE2)
    have HE2 := Lib.hid (HE1.out.trans hE2)
    obtain ⟨ua, uc, rfl⟩ := hu.isSlice
    clear hu hE2
    go_wp2_with fail
    refine (of15_any shards _ l w2 HU.out (by omega) HC.out).mono ?_
    rintro e w3 (⟨hn, rfl, hE3⟩ | ⟨o, m, hn, rfl, hm, ho, hE3⟩)
    · have HE3 := Lib.hid (HE2.out.trans hE3)
      clear hE3
      go_wp2_with fail
      refine (alive15_any _).mono ?_
      rintro e w5 ⟨rfl, hE5⟩
      have HE5 := Lib.hid (HE3.out.trans hE5)
      clear hE5
      go_wp2_with fail
      go_ret
      exact ⟨rfl, HE5.out⟩
    · obtain ⟨sh, hok⟩ := ho.ok
      have HOK := Lib.hid hok
      have HO := Lib.hid ho
      have HE3 := Lib.hid (HE2.out.trans hE3)
      have HM := Lib.hid hm
      have hml : m ≤ l.length := by
        have := (Ord.of_long l (Ord.zero shards)).2
        have hz : (Ord.zero shards).length = 1 := rfl
        omega
      have HOK2 := Lib.hid (And.intro (fun k (hk : k < m) => Ord.after_up hok k (by omega)) (And.intro (fun k (hk : k < m) (hkl : k < l.length) hne => Ord.after_trim (n := shards) (l := l) hkl (by omega) hne) (Ord.after_last hok m hm)))
      obtain ⟨C, hC⟩ : ∃ z, Ord.of (Ord.zero shards) l = z := ⟨_, rfl⟩
      rw [hC] at HO HM HOK2
      clear hE3 ho hm hok HOK hn hC
      go_wp2_with fail
      go_loopw [7, 8, 9, 10, 11, 33] (fun _ _ _ _ _ i wr => ∃ k : Nat, k ≤ m ∧ i = .int .i64 k ∧ Hid (Ext w3 wr)) (fun _ _ _ _ _ i _ => m - (intOf i).toNat)
      case atStart => exact ⟨0, by omega, rfl, Lib.hid (Ext.refl _)⟩
      case round =>
        obtain ⟨k, hk, rfl, hI⟩ := hrel
        by_cases hlt : k < m
        · have hkl : k < l.length := by omega
          have hl3 := HV.out.below (HE3.out.trans hI.out)
          have HA1 := Lib.hid (after15_any (k : Int) (HO.out.ext hI.out))
          have hd1 : decide ((0 : Int) ≤ (k : Int) ∧ (k : Int) < (C.length : Int)) = true := decide_eq_true (by have := HM.out; omega)
          rw [hd1] at HA1
          have hup := HOK2.out.1 k hlt
          have htr := HOK2.out.2.1 k hlt hkl
          have hd2 : decide ((0 : Int) ≤ (k : Int) + 1 ∧ (k : Int) + 1 < (C.length : Int)) = true := decide_eq_true (by have := HM.out; omega)
          have HD2 := Lib.hid hd2
          obtain ⟨A1, hA1⟩ : ∃ z, Ord.after C k = z := ⟨_, rfl⟩
          obtain ⟨A2, hA2⟩ : ∃ z, Ord.after C ((k : Int) + 1) = z := ⟨_, rfl⟩
          rw [hA1] at HA1
          rw [hA1, hA2] at hup htr
          have HA2 := Lib.hid hA2
          obtain ⟨a', cap', e', _, _, _, hc⟩ := hl3
          obtain ⟨b, off, rfl, t, p0, p1, p2, p3, p4, p5, ht⟩ := hc k hkl
          injection e' with e1' e2' e3'
          subst e1'
          obtain ⟨kd, hkd⟩ : ∃ z, l[k].kind = z := ⟨_, rfl⟩
          rw [hkd] at p1 htr
          have HP1 := Lib.hid p1
          clear hc e2' e3' p0 p1 p2 p3 p4 p5 ht hd1 hd2 hA1 hA2 hkd
          go_wp2_with fail
          refine HA1.out.mono ?_
          rintro e w4 ⟨rfl, hE4⟩
          have HA3 := Lib.hid (after15_any ((k : Int) + 1) (HO.out.ext (hI.out.trans hE4)))
          rw [HD2.out, HA2.out] at HA3
          have hwk : IntKind.i64.wrap ((k : Int) + 1) = (k : Int) + 1 := IntWalk.i64_in _ (by omega)
          go_wp2_with fail
          refine HA3.out.mono ?_
          rintro e w5 ⟨rfl, hE5⟩
          have HE5 := Lib.hid (hI.out.trans (hE4.trans hE5))
          have q1 := cellExt15 HP1.out (hE4.trans hE5)
          have hnlt : ¬ A2 < A1 := by omega
          clear hE4 hE5
          by_cases hk2 : kd = 2
          · have heq := htr (by omega)
            subst hk2 heq
            clear htr hup
            go_wp2_with fail
            go_roundw
            case rel => exact ⟨k + 1, by omega, by simp, HE5⟩
            case measure => simp [intOf]; omega
          · clear htr
            go_wp2_with fail
            go_roundw
            case rel => exact ⟨k + 1, by omega, by simp, HE5⟩
            case measure => simp [intOf]; omega
        · obtain rfl : k = m := by omega
          have HA1 := Lib.hid (after15_any (k : Int) (HO.out.ext hI.out))
          have hd1 : decide ((0 : Int) ≤ (k : Int) ∧ (k : Int) < (C.length : Int)) = true := decide_eq_true (by have := HM.out; omega)
          rw [hd1, HOK2.out.2.2] at HA1
          clear hd1
          go_wp2_with fail
          refine HA1.out.mono ?_
          rintro e w4 ⟨rfl, hE4⟩
          have HO4 := Lib.hid (HO.out.ext (hI.out.trans hE4))
          have HE4 := Lib.hid (HE3.out.trans (hI.out.trans hE4))
          clear hE4
          go_wp2_with fail
          refine (alive15_any _).mono ?_
          rintro e w5 ⟨rfl, hE5⟩
          have HO5 := Lib.hid (HO4.out.ext hE5)
          have HE5 := Lib.hid (HE4.out.trans hE5)
          clear hE5
          go_wp2_with fail
          refine (len15_any HO5.out).mono ?_
          rintro e w6 ⟨rfl, hE6⟩
          have HE6 := Lib.hid (HE5.out.trans hE6)
          clear hE6
          go_wp2_with fail
          go_ret
          exact ⟨by simp, HE6.out⟩

namespace orderGrows
theorem own : ownKnob Try.prog.godebug = none := by kernel_rfl
theorem laidOut : laidOutB Try.prog = true := by kernel_rfl
set_option linter.unusedVariables false in
set_option maxRecDepth 100000 in
theorem lifted (os : Os) (started : os.Started) (H : Type) (enc : TypeId × Value → H) :
    ReturnsInHanded {} Try.checked os 6 .any (Rows.orderGrowsSpec.pre6 enc Try.prog Try.f6 Rows.orderGrowsRow.domain false) (Rows.orderGrowsSpec.post enc Try.prog Try.f6 false true false false) := by
  refine returnsInHanded_of_change_sized (C := Try.checked) own started (by kernel_rfl) Try.func6
    (ChangeSpec.witness6 (enc := enc) (C := Try.checked) false ⟨#[], #[.int .i64 0, .slice none 0 0], []⟩ 8 (by kernel_rfl) (by kernel_rfl) (by kernel_rfl) (by kernel_rfl)) ?_
  intro W base args ds gs before hval0 hW hcnd hsz _
  have hval : ∀ (j : Nat) t v, Try.f6.params[j]? = some t → args[j]? = some v → Value.okWide Try.prog W .any base t v := hval0
  have hW' := hW
  obtain ⟨p, q, hA0, hV, rfl, hfz, hnd⟩ := hW'
  have hA : DataW.TrodAll enc Try.prog W 0 (fun _ => true) true Try.f6.params.toList args.toList ds p := hA0
  rw [Try.params6] at hA hval
  obtain ⟨v0, vs0, d0, ds0, p0, q0, hargs, rfl, rfl, h0, r0⟩ := trodAll_cons hA
  obtain ⟨v1, vs1, d1, ds1, p1, q1, rfl, rfl, rfl, h1, r1⟩ := trodAll_cons r0
  obtain ⟨rfl, rfl, rfl⟩ := trodAll_nil r1
  obtain rfl : args = #[v0, v1] := by cases args; simp_all
  obtain ⟨rfl, rfl⟩ := trodVars_none hV
  have k0 := h0
  have lt0 : ∀ x ∈ p0, x.block < W.heap.size := by obtain ⟨m, hm⟩ := k0; exact DataW.trod_lt m _ _ _ hm
  obtain ⟨a0, rfl, _, _, w0⟩ := open_int Try.underlying3 (hval 0 3 v0 rfl rfl) h0
  have k1 := h1
  have lt1 : ∀ x ∈ p1, x.block < W.heap.size := by obtain ⟨m, hm⟩ := k1; exact DataW.trod_lt m _ _ _ hm
  obtain ⟨a1, len1, cap1, rfl⟩ := okWide_slice Try.underlying22 (hval 1 22 v1 rfl rfl)
  obtain ⟨l1, w1, f1⟩ : ∃ l, Ents W (.slice a1 len1 cap1) l ∧ ∀ e ∈ l, e.cut.length ≤ 17592186043904 := by
    obtain ⟨fuel, hf⟩ := h1
    obtain ⟨v, l, hcs, hb, hft⟩ := entsl_of_raw (x := (d1, p1)) hf (fun m hm => of_decide_eq_true (List.all_eq_true.1 hsz _ (DataW.weights_mem_each (j := 1) (by rw [Try.params6]; rfl) rfl m hm)))
    simp [Value.cells] at hcs
    subst hcs
    exact ⟨l, hb, hft⟩
  have sz1 : len1 * 64 ≤ 140737488351232 := by obtain ⟨fuel, hf⟩ := h1; exact reach_of_raw (P := Try.prog) (x := (d1, p1)) (j := 1) hsz (by rw [Try.params6]; rfl) rfl Try.underlying22 (by kernel_rfl) hf
  clear hA0 hval0
  refine (orderGrows_walk a0 a1 len1 cap1 l1 W w1 sz1 f1).mono fun e W' ⟨he, bel⟩ => ?_
  subst he
  exact ⟨_, rfl, _, _, _, [], _, [], hW, trodAll_mk1 (shut_bool Try.underlying4 _), (trodAll_cons_mk (Below.trod laidOut (by kernel_rfl) (of_decide_eq_true (by kernel_rfl)) k0 bel lt0) (trodAll_cons_mk (Below.trod laidOut (by kernel_rfl) (of_decide_eq_true (by kernel_rfl)) k1 bel lt1) trodAll_mk0)), rfl, bel.frame _, fun h => by cases h⟩
theorem over : Rows.orderGrowsRow.holds Try.pinned (OpenSpec.ofChange Rows.orderGrowsSpec) :=
  OpenClaim.holds_of_wide 6 Try.f6 rfl rfl rfl rfl rfl rfl rfl ⟨rfl, rfl, rfl, rfl, rfl⟩ rfl rfl rfl rfl rfl (by kernel_rfl) Try.func6 (by kernel_rfl)
    (of_decide_eq_true (by kernel_rfl)) (by unfold Func.isWrapper; first | (rw [if_pos (by decide +kernel)]; kernel_rfl) | (rw [if_neg (by decide +kernel)]; exact ⟨rfl, rfl⟩))
    (fun os started H enc _ => lifted os started H enc)
theorem proved : Rows.OrderGrowsSaid := over
end orderGrows
end Go.Proofs.Ytnldbdgchkknpaa
