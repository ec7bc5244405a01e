/-
  OrderMany: a row of entries is added up to the first that is refused, one by one or at once: for every input the statement's function returns true, and leaves what came in as it was.
-/
import Derived.Test.YtnldbdgchkknpaaBsOrI
import Derived.Test.YtnldbdgchkknpaaBsOrRaw
namespace Go.Proofs.Ytnldbdgchkknpaa
set_option linter.unusedSimpArgs false
set_option linter.unusedVariables false
open Go.ChangeShapes Go.WideShapes Go.ChangeAt Go.RowKit

set_option maxRecDepth 100000 in
set_option maxHeartbeats 20000000 in
theorem orderMany_walk (shards : Int) (a : Option Addr) (len cap : Nat) (l : List Ent.E) (W : World) (hv : Ents W (.slice a len cap) l) (hsz : len * 64 ≤ 140737488351232) (hc : ∀ e ∈ l, e.cut.length ≤ 17592186043904) :
    Calls Try.prog 5 #[.int .i64 shards, .slice a len cap] W fun e W' => e = .returned (.bool true) ∧ Below W.heap.size W W' := by
  have hlen : len = l.length := by obtain ⟨_, _, e, _⟩ := hv.shape; injection e with _ e _
  subst hlen
  have HV := Lib.hid hv
  have HC := Lib.hid (fun e he => Nat.le_trans (hc e he) (show 17592186043904 ≤ 17592186044416 by omega))
  have HSZ := Lib.hid hsz
  clear hv hc hsz
  go_enter Try.func5, Try.ntmps5
  go_wp2_with fail
  refine (few15_any _ l W HV.out).mono ?_
  rintro e w1 ⟨b, rfl, hE1, hb⟩
  have HE1 := Lib.hid hE1
  cases b with
  | false =>
    go_wp2_with fail
    refine (alive15_any _).mono ?_
    rintro e w2 ⟨rfl, hE2⟩
    go_wp2_with fail
    go_ret
    exact ⟨rfl, HE1.out.trans hE2⟩
  | true =>
    have hl60 := (hb rfl).1
    clear hb hE1
    go_wp2_with fail
    refine (mine15_any _ l w1 (HV.out.below HE1.out) (by omega)).mono ?_
    rintro e w2 ⟨u, rfl, hu, hE2⟩
    have HU := Lib.hid (hu.ents hE2)
    have HE2 := Lib.hid (HE1.out.trans hE2)
    obtain ⟨ua, uc, rfl⟩ := hu.isSlice
    clear hu hE2
    go_wp2_with fail
    refine (of15_any shards _ l w2 HU.out (by omega) HC.out).mono ?_
    rintro e w3 (⟨hn, rfl, hE3⟩ | ⟨o, m, hn, rfl, hm, ho, hE3⟩)
    · have HE3 := Lib.hid (HE2.out.trans hE3)
      clear hE3
      go_wp2_with fail
      refine (new15_any shards w3).mono ?_
      rintro e w4 (⟨_, rfl, hE4⟩ | ⟨p, hn2, _⟩)
      case inr => exact absurd hn2 hn
      have HE4 := Lib.hid (HE3.out.trans hE4)
      clear hE4
      go_wp2_with fail
      refine (alive15_any _).mono ?_
      rintro e w5 ⟨rfl, hE5⟩
      have HE5 := Lib.hid (HE4.out.trans hE5)
      clear hE5
      go_wp2_with fail
      go_ret
      exact ⟨rfl, HE5.out⟩
    · have HO := Lib.hid ho
      have HE3 := Lib.hid (HE2.out.trans hE3)
      have HM := Lib.hid hm
      clear hE3 ho hm
      go_wp2_with fail
      refine (new15_any shards w3).mono ?_
      rintro e w4 (⟨hn2, _, _⟩ | ⟨p, _, rfl, hp, hE4⟩)
      · exact absurd hn hn2
      obtain ⟨N, hN⟩ : ∃ z, w3.heap.size = z := ⟨_, rfl⟩
      rw [hN] at hp
      have HP := Lib.hid (show IsOrd w4 N p (Ord.of (Ord.zero shards) (l.take 0)) from hp)
      have HE4 := Lib.hid hE4
      have HNN := Lib.hid hN
      clear hp hE4 hN hn
      go_wp2_with fail
      go_loopw [9] (fun i wr => ∃ k : Nat, k ≤ l.length ∧ i = .int .i64 k ∧ Hid (IsOrd wr N p (Ord.of (Ord.zero shards) (l.take k)) ∧ Ext w3 wr ∧ (Ord.of (Ord.zero shards) (l.take k)).length = k + 1)) (fun i _ => l.length - (intOf i).toNat)
      case atStart => exact ⟨0, by omega, rfl, Lib.hid ⟨HP.out, HE4.out, rfl⟩⟩
      case round =>
        obtain ⟨k, hk, rfl, hI⟩ := hrel
        obtain ⟨ws, hws⟩ : ∃ z, z = wr := ⟨_, rfl⟩
        subst hws
        by_cases hlt : k < l.length
        · have hl3 := HV.out.below (HE3.out.trans hI.out.2.1)
          obtain ⟨a', cap', e', _, _, _, hc⟩ := hl3
          obtain ⟨b, off, rfl, t, p0, p1, p2, p3, p4, p5, ht⟩ := hc k hlt
          injection e' with e1' e2' e3'
          subst e1'
          clear hc e2' e3'
          obtain ⟨a2, cap2, rfl, hcap2, hmax2, _, _⟩ := ht.open
          have hcut := HC.out _ (List.getElem_mem hlt)
          obtain ⟨R, hR⟩ : ∃ z, l[k] = z := ⟨_, rfl⟩
          have HR := Lib.hid hR
          rw [hR] at p0 p1 p2 p3 p4 p5 ht hcut hcap2
          obtain ⟨q0, q1, c, q3, q4, q5⟩ := R
          simp only at p0 p1 p2 p3 p4 p5 ht hcut hcap2 ⊢
          have HADD := Lib.hid (add15_any (w := ws) (entV (.slice a2 c.length cap2) ⟨q0, q1, c, q3, q4, q5⟩) ⟨q0, q1, c, q3, q4, q5⟩ hI.out.1 ⟨_, rfl, ht⟩ hcut (by rw [hI.out.2.2]; omega) (by rw [← HNN.out]; exact hI.out.2.1.size))
          unfold entV at HADD
          simp only at HADD
          clear ht hR
          go_wp2_with fail
          refine HADD.out.mono ?_
          rintro x w5 ⟨rfl, hi3, hb3⟩
          have HE5 := Lib.hid (show Ext w3 w5 from by
            have h1 : Below N w3 ws := by rw [← HNN.out]; exact hI.out.2.1
            have h2 := Below.trans (B := N) h1 hb3
            rw [← HNN.out] at h2
            exact h2)
          have HI3 := Lib.hid hi3
          have HL := Lib.hid hI.out.2.2
          clear hi3 hb3
          obtain ⟨er, her⟩ : ∃ z, Ord.addErr (Ord.of (Ord.zero shards) (l.take k)) ⟨q0, q1, c, q3, q4, q5⟩ = z := ⟨_, rfl⟩
          rw [her]
          have HER := Lib.hid her
          clear her
          by_cases he : er = 0
          · subst he
            have hsucc := Ord.of_succ (cs := Ord.zero shards) hlt (by rw [HL.out, Nat.add_comm]; rfl) (by rw [HR.out]; exact HER.out)
            rw [HR.out] at hsucc
            have HS := Lib.hid hsucc
            clear hsucc
            go_wp2_with fail
            go_roundw
            case rel => exact ⟨k + 1, by omega, by simp, Lib.hid ⟨by rw [HS.out.1]; exact HI3.out, HE5.out, by rw [HS.out.1, HS.out.2, Nat.add_comm]; rfl⟩⟩
            case measure => simp [intOf]; omega
          · have hstop := Ord.of_stop (cs := Ord.zero shards) hlt (by rw [HL.out, Nat.add_comm]; rfl) (by rw [HR.out, HER.out]; exact he)
            have hsm := Ord.addErr_refused (cs := Ord.of (Ord.zero shards) (l.take k)) (e := ⟨q0, q1, c, q3, q4, q5⟩) (by rw [HER.out]; exact he)
            have HALL := Lib.hid hstop
            have hI5 : Hid (IsOrd w5 N p (Ord.of (Ord.zero shards) (l.take k)) ∧ Ext w3 w5 ∧ (Ord.of (Ord.zero shards) (l.take k)).length = k + 1) := Lib.hid ⟨by have := HI3.out; rwa [hsm] at this, HE5.out, HL.out⟩
            clear hstop hsm p0 p1 p2 p3 p4 p5
            obtain ⟨wo, hwo⟩ : ∃ z, z = ws := ⟨_, rfl⟩
            subst hwo
            obtain ⟨ws, hws⟩ : ∃ z, z = w5 := ⟨_, rfl⟩
            subst hws
            have hI4 := hI5
            clear hI5 hI
            have hkm : k = m := by have h1 := hI4.out.2.2; have h2 := HALL.out; rw [← h2, HM.out] at h1; omega
            subst hkm
            have HPF := Lib.hid (show IsOrd ws N p (Ord.of (Ord.zero shards) l) from by rw [HALL.out]; exact hI4.out.1)
            have HES := Lib.hid hI4.out.2.1
            clear hI4
            go_wp2_with fail
            refine (alive15_any _).mono ?_
            rintro e w6 ⟨rfl, hE6⟩
            have HP6 := Lib.hid (HPF.out.ext hE6)
            have HO6 := Lib.hid (HO.out.ext (HES.out.trans hE6))
            have HE6 := Lib.hid (HE3.out.trans (HES.out.trans hE6))
            clear hE6
            go_wp2_with fail
            refine (entries15_any HO6.out HM.out).mono ?_
            rintro e w7 ⟨rfl, rfl⟩
            go_wp2_with fail
            refine (len15_any HP6.out).mono ?_
            rintro e w7 ⟨rfl, hE7⟩
            have HP7 := Lib.hid (HP6.out.ext hE7)
            have HO7 := Lib.hid (HO6.out.ext hE7)
            have HE7 := Lib.hid (HE6.out.trans hE7)
            clear hE7
            go_wp2_with fail
            refine (len15_any HO7.out).mono ?_
            rintro e w8 ⟨rfl, hE8⟩
            have HP8 := Lib.hid (HP7.out.ext hE8)
            have HO8 := Lib.hid (HO7.out.ext hE8)
            have HE8 := Lib.hid (HE7.out.trans hE8)
            clear hE8
            go_wp2_with fail
            refine (cut15_any HO8.out).mono ?_
            rintro e w9 ⟨c1, rfl, hc1, hE9⟩
            obtain ⟨x1, x2, x3, rfl⟩ := hc1.slice
            have HC1 := Lib.hid hc1.ints
            have HP9 := Lib.hid (HP8.out.ext hE9)
            have HE9 := Lib.hid (HE8.out.trans hE9)
            clear hc1 hE9
            go_wp2_with fail
            refine (cut15_any HP9.out).mono ?_
            rintro e w10 ⟨c2, rfl, hc2, hE10⟩
            obtain ⟨y1, y2, y3, rfl⟩ := hc2.slice
            have HC2 := Lib.hid hc2.ints
            have HC3 := Lib.hid (HC1.out.below hE10)
            have HE10 := Lib.hid (HE9.out.trans hE10)
            clear hc2 hE10
            have hsame : (Ord.last (Ord.of (Ord.zero shards) l) == Ord.last (Ord.of (Ord.zero shards) l)) = true := by simp
            go_wp2_with fail
            refine (equal3_any _ _ _ _ _ HC3.out HC2.out).mono ?_
            rw [hsame]
            rintro e w11 ⟨rfl, hE11⟩
            have HE11 := Lib.hid (HE10.out.trans hE11)
            clear hE11
            go_wp2_with fail
            go_ret
            exact ⟨by simp, HE11.out⟩
        · have hall : l.take k = l := List.take_of_length_le (by omega)
          have HALL := Lib.hid (show Ord.of (Ord.zero shards) l = Ord.of (Ord.zero shards) (l.take k) by rw [hall])
          have hI4 := hI
          clear hall hI
          have hkm : k = m := by have h1 := hI4.out.2.2; have h2 := HALL.out; rw [← h2, HM.out] at h1; omega
          subst hkm
          have HPF := Lib.hid (show IsOrd ws N p (Ord.of (Ord.zero shards) l) from by rw [HALL.out]; exact hI4.out.1)
          have HES := Lib.hid hI4.out.2.1
          clear hI4
          go_wp2_with fail
          refine (alive15_any _).mono ?_
          rintro e w6 ⟨rfl, hE6⟩
          have HP6 := Lib.hid (HPF.out.ext hE6)
          have HO6 := Lib.hid (HO.out.ext (HES.out.trans hE6))
          have HE6 := Lib.hid (HE3.out.trans (HES.out.trans hE6))
          clear hE6
          go_wp2_with fail
          refine (entries15_any HO6.out HM.out).mono ?_
          rintro e w7 ⟨rfl, rfl⟩
          go_wp2_with fail
          refine (len15_any HP6.out).mono ?_
          rintro e w7 ⟨rfl, hE7⟩
          have HP7 := Lib.hid (HP6.out.ext hE7)
          have HO7 := Lib.hid (HO6.out.ext hE7)
          have HE7 := Lib.hid (HE6.out.trans hE7)
          clear hE7
          go_wp2_with fail
          refine (len15_any HO7.out).mono ?_
          rintro e w8 ⟨rfl, hE8⟩
          have HP8 := Lib.hid (HP7.out.ext hE8)
          have HO8 := Lib.hid (HO7.out.ext hE8)
          have HE8 := Lib.hid (HE7.out.trans hE8)
          clear hE8
          go_wp2_with fail
          refine (cut15_any HO8.out).mono ?_
          rintro e w9 ⟨c1, rfl, hc1, hE9⟩
          obtain ⟨x1, x2, x3, rfl⟩ := hc1.slice
          have HC1 := Lib.hid hc1.ints
          have HP9 := Lib.hid (HP8.out.ext hE9)
          have HE9 := Lib.hid (HE8.out.trans hE9)
          clear hc1 hE9
          go_wp2_with fail
          refine (cut15_any HP9.out).mono ?_
          rintro e w10 ⟨c2, rfl, hc2, hE10⟩
          obtain ⟨y1, y2, y3, rfl⟩ := hc2.slice
          have HC2 := Lib.hid hc2.ints
          have HC3 := Lib.hid (HC1.out.below hE10)
          have HE10 := Lib.hid (HE9.out.trans hE10)
          clear hc2 hE10
          have hsame : (Ord.last (Ord.of (Ord.zero shards) l) == Ord.last (Ord.of (Ord.zero shards) l)) = true := by simp
          go_wp2_with fail
          refine (equal3_any _ _ _ _ _ HC3.out HC2.out).mono ?_
          rw [hsame]
          rintro e w11 ⟨rfl, hE11⟩
          have HE11 := Lib.hid (HE10.out.trans hE11)
          clear hE11
          go_wp2_with fail
          go_ret
          exact ⟨by simp, HE11.out⟩

namespace orderMany
theorem own : ownKnob Try.prog.godebug = none := by kernel_rfl
theorem laidOut : laidOutB Try.prog = true := by kernel_rfl
set_option linter.unusedVariables false in
set_option maxRecDepth 100000 in
theorem lifted (os : Os) (started : os.Started) (H : Type) (enc : TypeId × Value → H) :
    ReturnsInHanded {} Try.checked os 5 .any (Rows.orderManySpec.pre6 enc Try.prog Try.f5 Rows.orderManyRow.domain false) (Rows.orderManySpec.post enc Try.prog Try.f5 false true false false) := by
  refine returnsInHanded_of_change_sized (C := Try.checked) own started (by kernel_rfl) Try.func5
    (ChangeSpec.witness6 (enc := enc) (C := Try.checked) false ⟨#[], #[.int .i64 0, .slice none 0 0], []⟩ 8 (by kernel_rfl) (by kernel_rfl) (by kernel_rfl) (by kernel_rfl)) ?_
  intro W base args ds gs before hval0 hW hcnd hsz _
  have hval : ∀ (j : Nat) t v, Try.f5.params[j]? = some t → args[j]? = some v → Value.okWide Try.prog W .any base t v := hval0
  have hW' := hW
  obtain ⟨p, q, hA0, hV, rfl, hfz, hnd⟩ := hW'
  have hA : DataW.TrodAll enc Try.prog W 0 (fun _ => true) true Try.f5.params.toList args.toList ds p := hA0
  rw [Try.params5] at hA hval
  obtain ⟨v0, vs0, d0, ds0, p0, q0, hargs, rfl, rfl, h0, r0⟩ := trodAll_cons hA
  obtain ⟨v1, vs1, d1, ds1, p1, q1, rfl, rfl, rfl, h1, r1⟩ := trodAll_cons r0
  obtain ⟨rfl, rfl, rfl⟩ := trodAll_nil r1
  obtain rfl : args = #[v0, v1] := by cases args; simp_all
  obtain ⟨rfl, rfl⟩ := trodVars_none hV
  have k0 := h0
  have lt0 : ∀ x ∈ p0, x.block < W.heap.size := by obtain ⟨m, hm⟩ := k0; exact DataW.trod_lt m _ _ _ hm
  obtain ⟨a0, rfl, _, _, w0⟩ := open_int Try.underlying3 (hval 0 3 v0 rfl rfl) h0
  have k1 := h1
  have lt1 : ∀ x ∈ p1, x.block < W.heap.size := by obtain ⟨m, hm⟩ := k1; exact DataW.trod_lt m _ _ _ hm
  obtain ⟨a1, len1, cap1, rfl⟩ := okWide_slice Try.underlying22 (hval 1 22 v1 rfl rfl)
  obtain ⟨l1, w1, f1⟩ : ∃ l, Ents W (.slice a1 len1 cap1) l ∧ ∀ e ∈ l, e.cut.length ≤ 17592186043904 := by
    obtain ⟨fuel, hf⟩ := h1
    obtain ⟨v, l, hcs, hb, hft⟩ := entsl_of_raw (x := (d1, p1)) hf (fun m hm => of_decide_eq_true (List.all_eq_true.1 hsz _ (DataW.weights_mem_each (j := 1) (by rw [Try.params5]; rfl) rfl m hm)))
    simp [Value.cells] at hcs
    subst hcs
    exact ⟨l, hb, hft⟩
  have sz1 : len1 * 64 ≤ 140737488351232 := by obtain ⟨fuel, hf⟩ := h1; exact reach_of_raw (P := Try.prog) (x := (d1, p1)) (j := 1) hsz (by rw [Try.params5]; rfl) rfl Try.underlying22 (by kernel_rfl) hf
  clear hA0 hval0
  refine (orderMany_walk a0 a1 len1 cap1 l1 W w1 sz1 f1).mono fun e W' ⟨he, bel⟩ => ?_
  subst he
  exact ⟨_, rfl, _, _, _, [], _, [], hW, trodAll_mk1 (shut_bool Try.underlying4 _), (trodAll_cons_mk (Below.trod laidOut (by kernel_rfl) (of_decide_eq_true (by kernel_rfl)) k0 bel lt0) (trodAll_cons_mk (Below.trod laidOut (by kernel_rfl) (of_decide_eq_true (by kernel_rfl)) k1 bel lt1) trodAll_mk0)), rfl, bel.frame _, fun h => by cases h⟩
theorem over : Rows.orderManyRow.holds Try.pinned (OpenSpec.ofChange Rows.orderManySpec) :=
  OpenClaim.holds_of_wide 5 Try.f5 rfl rfl rfl rfl rfl rfl rfl ⟨rfl, rfl, rfl, rfl, rfl⟩ rfl rfl rfl rfl rfl (by kernel_rfl) Try.func5 (by kernel_rfl)
    (of_decide_eq_true (by kernel_rfl)) (by unfold Func.isWrapper; first | (rw [if_pos (by decide +kernel)]; kernel_rfl) | (rw [if_neg (by decide +kernel)]; exact ⟨rfl, rfl⟩))
    (fun os started H enc _ => lifted os started H enc)
theorem proved : Rows.OrderManySaid := over
end orderMany
end Go.Proofs.Ytnldbdgchkknpaa
