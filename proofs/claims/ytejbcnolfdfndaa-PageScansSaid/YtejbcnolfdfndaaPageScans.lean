/-
  PageScans: with which frames any bytes begin, and how many bytes these have, is what the document says: for every input the statement's function returns true, and leaves what came in as it was.
-/
import Derived.Test.YtejbcnolfdfndaaPgV
import Derived.Test.YtejbcnolfdfndaaRead
import Derived.Test.YtejbcnolfdfndaaPackRaw
import Derived.Test.YtejbcnolfdfndaaRows
namespace Go.Proofs.Ytejbcnolfdfndaa
set_option linter.unusedSimpArgs false
set_option linter.unusedVariables false
open Go.ChangeShapes Go.WideShapes Go.ChangeAt Go.RowKit

set_option maxRecDepth 100000 in
set_option maxHeartbeats 4000000 in
theorem pageScans_walk (a : Option Addr) (n c : Nat) (l : List UInt8) (W : World) (h0 : Bytes W (.slice a n c) l) :
    Calls Try.prog 4 #[.slice a n c] W fun e W' => e = .returned (.bool true) ∧ Below W.heap.size W W' := by
  obtain ⟨hn, hnc, hc⟩ := h0.len
  by_cases hbad : 5000 < n
  · clear hn
    go_enter Try.func4, Try.ntmps4
    go_wp2_with fail
    refine (alive8_any _).mono ?_
    rintro e w1 ⟨rfl, hE⟩
    go_wp2_with fail
    go_ret
    exact ⟨rfl, hE⟩
  · have hll : l.length ≤ 5000 := by omega
    have H0 := Lib.hid h0
    clear hn h0
    go_enter Try.func4, Try.ntmps4
    go_wp2_with fail
    refine (scan8_any _ l W H0.out (by omega)).mono ?_
    rintro e w1 ⟨es, u, rfl, hx, ho, hg, hE1⟩
    have hfr := FrRow.of ho hx hg
    have hstr := run_str (P := Try.prog) 22 9 5 Try.underlying22 Try.underlying5 Try.underlying9 (H0.out.below hE1)
    have hR2 := scanRef_any l w1 (by omega)
    unfold GivesScan at *
    obtain ⟨N, hN⟩ : ∃ N, (Page.scan l).2 = N := ⟨_, rfl⟩
    obtain ⟨K, hK⟩ : ∃ K, (Page.scan l).1 = K := ⟨_, rfl⟩
    rw [hK] at hfr hR2
    rw [hN] at hR2 ⊢
    have HFR := Lib.hid hfr
    have HR2 := Lib.hid hR2
    obtain ⟨ua, uc, rfl, _, _⟩ := hfr
    clear hN hx ho hg hK hR2
    go_wp2_with fail
    refine HR2.out.mono ?_
    rintro e w2 ⟨v2, rfl, ho2, hE2⟩
    have hT := Txts.own ho2
    have HT := Lib.hid hT
    obtain ⟨a2, c2, rfl, hk1, hk2, _, _⟩ := hT.open
    unfold maxLen at hk2
    have hKm : (K.length : Int) ≤ 9223372036854775807 := by omega
    clear hT ho2 hstr hk1 hk2
    go_wp2_with fail
    go_loopw [35] (fun i wr => ∃ k : Nat, k ≤ K.length ∧ i = .int .i64 k ∧ Ext w2 wr) (fun i _ => K.length - (intOf i).toNat)
    case atStart => exact ⟨0, by omega, rfl, Ext.refl _⟩
    case round =>
      obtain ⟨k, hk, rfl, hE⟩ := hrel
      by_cases hlt : k < K.length
      · obtain ⟨_, _, e1, _, hf⟩ := HFR.out.ext (hE2.trans (hE.trans (Ext.drew wr)))
        obtain ⟨b1, o1, a', n', c', rfl, hc1, hb1⟩ := hf k hlt
        injection e1 with e1 _ e3
        subst e1 e3
        obtain ⟨_, _, e1, _, _, _, hf2⟩ := (HT.out.ext (hE.trans (Ext.drew wr))).open
        obtain ⟨b2, o2, rfl, hc2⟩ := hf2 k hlt
        injection e1 with e1 _ e3
        subst e1 e3
        have hs1 := run_str (P := Try.prog) 22 9 5 Try.underlying22 Try.underlying5 Try.underlying9 hb1.1
        obtain ⟨X, hX⟩ : ∃ X, K[k] = X := ⟨_, rfl⟩
        rw [hX] at hs1 hc2
        clear hf hf2 hb1 hX
        go_wp2_with fail
        go_region
        all_goals
          go_wp2_with fail
          exact ⟨⟨k + 1, by omega, by simp, hE.trans (Ext.drew wr)⟩, by simp [intOf]; omega⟩
      · obtain rfl : k = K.length := by omega
        go_wp2_with fail
        refine (alive8_any wr).mono ?_
        rintro e w3 ⟨rfl, hE3⟩
        go_wp2_with fail
        go_ret
        exact ⟨rfl, hE1.trans (hE2.trans (hE.trans hE3))⟩

namespace pageScans
theorem own : ownKnob Try.prog.godebug = none := by kernel_rfl
theorem laidOut : laidOutB Try.prog = true := by kernel_rfl
set_option linter.unusedVariables false in
set_option maxRecDepth 100000 in
theorem lifted (os : Os) (started : os.Started) (H : Type) (enc : TypeId × Value → H) :
    ReturnsInHanded {} Try.checked os 4 .any (Rows.pageScansSpec.pre6 enc Try.prog Try.f4 Rows.pageScansRow.domain false) (Rows.pageScansSpec.post enc Try.prog Try.f4 false true false false) := by
  refine returnsInHanded_of_change_sized (C := Try.checked) own started (by kernel_rfl) Try.func4
    (ChangeSpec.witness6 (enc := enc) (C := Try.checked) false ⟨#[], #[.slice none 0 0], []⟩ 8 (by kernel_rfl) (by kernel_rfl) (by kernel_rfl) (by kernel_rfl)) ?_
  intro W base args ds gs before hval0 hW hcnd hsz _
  have hval : ∀ (j : Nat) t v, Try.f4.params[j]? = some t → args[j]? = some v → Value.okWide Try.prog W .any base t v := hval0
  have hW' := hW
  obtain ⟨p, q, hA0, hV, rfl, hfz, hnd⟩ := hW'
  have hA : DataW.TrodAll enc Try.prog W 0 (fun _ => true) true Try.f4.params.toList args.toList ds p := hA0
  rw [Try.params4] at hA hval
  obtain ⟨v0, vs0, d0, ds0, p0, q0, hargs, rfl, rfl, h0, r0⟩ := trodAll_cons hA
  obtain ⟨rfl, rfl, rfl⟩ := trodAll_nil r0
  obtain rfl : args = #[v0] := by cases args; simp_all
  obtain ⟨rfl, rfl⟩ := trodVars_none hV
  have k0 := h0
  have lt0 : ∀ x ∈ p0, x.block < W.heap.size := by obtain ⟨m, hm⟩ := k0; exact DataW.trod_lt m _ _ _ hm
  obtain ⟨a0, len0, cap0, rfl⟩ := okWide_slice Try.underlying22 (hval 0 22 v0 rfl rfl)
  obtain ⟨l0, w0⟩ : ∃ l, Bytes W (.slice a0 len0 cap0) l := by
    obtain ⟨fuel, hf⟩ := h0
    obtain ⟨v, l, hcs, hb⟩ := bytes_of_raw Try.underlying22 Try.underlying5 (by kernel_rfl) hf
    simp [Value.cells] at hcs
    subst hcs
    exact ⟨l, hb⟩
  have sz0 : len0 * 1 ≤ 140737488351232 := by obtain ⟨fuel, hf⟩ := h0; exact reach_of_raw (P := Try.prog) (x := (d0, p0)) (j := 0) hsz (by rw [Try.params4]; rfl) rfl Try.underlying22 (by kernel_rfl) hf
  clear hA0 hval0
  refine (pageScans_walk a0 len0 cap0 l0 W w0).mono fun e W' ⟨he, bel⟩ => ?_
  subst he
  exact ⟨_, rfl, _, _, _, [], _, [], hW, trodAll_mk1 (shut_bool Try.underlying4 _), (trodAll_cons_mk (Below.trod laidOut (by kernel_rfl) (of_decide_eq_true (by kernel_rfl)) k0 bel lt0) trodAll_mk0), rfl, bel.frame _, fun h => by cases h⟩
theorem over : Rows.pageScansRow.holds Try.pinned (OpenSpec.ofChange Rows.pageScansSpec) :=
  OpenClaim.holds_of_wide 4 Try.f4 rfl rfl rfl rfl rfl rfl rfl ⟨rfl, rfl, rfl, rfl, rfl⟩ rfl rfl rfl rfl rfl (by kernel_rfl) Try.func4 (by kernel_rfl)
    (of_decide_eq_true (by kernel_rfl)) (by unfold Func.isWrapper; first | (rw [if_pos (by decide +kernel)]; kernel_rfl) | (rw [if_neg (by decide +kernel)]; exact ⟨rfl, rfl⟩))
    (fun os started H enc _ => lifted os started H enc)
theorem proved : Rows.PageScansSaid := over
end pageScans
end Go.Proofs.Ytejbcnolfdfndaa
