/-
  TermReads: any bytes are read as the configuration that they are, or refused: for every input the statement's function returns true, and leaves what came in as it was.
-/
import Derived.Test.YtpfodkgncachiaaGreatTrmRaw
namespace Go.Proofs.YtpfodkgncachiaaGreat
set_option maxRecDepth 100000
set_option linter.unusedSimpArgs false
set_option linter.unusedVariables false
open Go.ChangeShapes Go.WideShapes Go.ChangeAt Go.RowKit

set_option maxHeartbeats 8000000 in
theorem termReads_walk (v : Value) (l : List UInt8) (W : World) (hv : Bytes W v l) :
    Calls Tryz.prog 4 #[v] W fun e W' => e = .returned (.bool true) ∧ Below W.heap.size W W' := by
  have HV := Lib.hid hv
  obtain ⟨a, cap, rfl, hcap, hmax, _, _⟩ := hv.open
  unfold maxLen at hmax
  clear hv
  by_cases hl : (20000 : Int) < (l.length : Int)
  · go_enter Tryz.func4, Tryz.ntmps4
    go_wp2_with fail
    refine (termAlive_any _).mono ?_
    rintro e w1 ⟨rfl, hE1⟩
    go_wp2_with fail
    go_ret
    exact ⟨rfl, hE1⟩
  · have h1 := fun w h => decode6_any (.slice a l.length cap) l w h (by omega)
    have h2 := fun w h => refDecode6_any (.slice a l.length cap) l w h (by omega)
    unfold GivesDec6 at h1 h2
    generalize Term.confOf (Term.dec l) = D at *
    generalize Term.errOf (Term.dec l) = er at *
    have H1 := Lib.hid h1
    have H2 := Lib.hid h2
    have hself := Term.alike_self D
    have HD := Lib.hid hself
    clear h1 h2 hself
    go_enter Tryz.func4, Tryz.ntmps4
    go_wp2_with fail
    refine (H1.out _ HV.out).mono ?_
    rintro e w1 ⟨u1, rfl, hi1, hE1⟩
    obtain ⟨a1, n1, p1, b1, m1, q1, rfl⟩ := hi1.shape
    have X1 := Lib.hid (ConfAt.new 32 w1 D.term (.slice a1 n1 p1) (.slice b1 m1 q1))
    have hE1' : Ext w1 (w1.alloc (.cells #[.int .i64 D.term, .slice a1 n1 p1, .slice b1 m1 q1] 32)) := Ext.alloc _ _
    have HI1 := Lib.hid (hi1.below hE1')
    go_wp2_with fail
    refine (H2.out _ (HV.out.below (hE1.trans hE1'))).mono ?_
    rintro e w2 ⟨u2, rfl, hi2, hE2⟩
    obtain ⟨a2, n2, p2, b2, m2, q2, rfl⟩ := hi2.shape
    have X2 := Lib.hid (ConfAt.new 25 w2 D.term (.slice a2 n2 p2) (.slice b2 m2 q2))
    have hE2' : Ext w2 (w2.alloc (.cells #[.int .i64 D.term, .slice a2 n2 p2, .slice b2 m2 q2] 25)) := Ext.alloc _ _
    have HI2 := Lib.hid (hi2.below hE2')
    have hE : Ext W (w2.alloc (.cells #[.int .i64 D.term, .slice a2 n2 p2, .slice b2 m2 q2] 25)) := ((hE1.trans hE1').trans hE2).trans hE2'
    clear hi1 hi2
    go_wp2_with fail
    refine (termAlive_any _).mono ?_
    rintro e w3 ⟨rfl, hE3⟩
    obtain ⟨y0, y1, y2⟩ := (((X1.out.ext hE2).ext hE2').ext hE3).cells
    obtain ⟨z0, z1, z2⟩ := (X2.out.ext hE3).cells
    go_wp2_with fail
    refine (refSame6_any _ _ D D _ ((HI1.out.below (hE2.trans hE2')).below hE3) (HI2.out.below hE3)).mono ?_
    rw [HD.out]
    rintro e w4 ⟨rfl, hE4⟩
    go_wp2_with fail
    go_ret
    exact ⟨rfl, (hE.trans hE3).trans hE4⟩

namespace termReads
theorem own : ownKnob Tryz.prog.godebug = none := by kernel_rfl
theorem laidOut : laidOutB Tryz.prog = true := by kernel_rfl
set_option linter.unusedVariables false in
set_option maxRecDepth 100000 in
theorem lifted (os : Os) (started : os.Started) (H : Type) (enc : TypeId × Value → H) :
    ReturnsInHanded {} Tryz.checked os 4 .any (Rows.termReadsSpec.pre6 enc Tryz.prog Tryz.f4 Rows.termReadsRow.domain false) (Rows.termReadsSpec.post enc Tryz.prog Tryz.f4 false true false false) := by
  refine returnsInHanded_of_change_sized (C := Tryz.checked) own started (by kernel_rfl) Tryz.func4
    (ChangeSpec.witness6 (enc := enc) (C := Tryz.checked) false ⟨#[], #[.slice none 0 0], []⟩ 8 (by kernel_rfl) (by kernel_rfl) (by kernel_rfl) (by kernel_rfl)) ?_
  intro W base args ds gs before hval0 hW hcnd hsz _
  have hval : ∀ (j : Nat) t v, Tryz.f4.params[j]? = some t → args[j]? = some v → Value.okWide Tryz.prog W .any base t v := hval0
  have hW' := hW
  obtain ⟨p, q, hA0, hV, rfl, hfz, hnd⟩ := hW'
  have hA : DataW.TrodAll enc Tryz.prog W 0 (fun _ => true) true Tryz.f4.params.toList args.toList ds p := hA0
  rw [Tryz.params4] at hA hval
  obtain ⟨v0, vs0, d0, ds0, p0, q0, hargs, rfl, rfl, h0, r0⟩ := trodAll_cons hA
  obtain ⟨rfl, rfl, rfl⟩ := trodAll_nil r0
  obtain rfl : args = #[v0] := by cases args; simp_all
  obtain ⟨rfl, rfl⟩ := trodVars_none hV
  have k0 := h0
  have lt0 : ∀ x ∈ p0, x.block < W.heap.size := by obtain ⟨m, hm⟩ := k0; exact DataW.trod_lt m _ _ _ hm
  obtain ⟨a0, len0, cap0, rfl⟩ := okWide_slice Tryz.underlying28 (hval 0 28 v0 rfl rfl)
  obtain ⟨l0, w0⟩ : ∃ l, Bytes W (.slice a0 len0 cap0) l := by
    obtain ⟨fuel, hf⟩ := h0
    obtain ⟨v, l, hcs, hb⟩ := bytes_of_raw Tryz.underlying28 Tryz.underlying5 (by kernel_rfl) hf
    simp [Value.cells] at hcs
    subst hcs
    exact ⟨l, hb⟩
  have sz0 : len0 * 1 ≤ 140737488351232 := by obtain ⟨fuel, hf⟩ := h0; exact reach_of_raw (P := Tryz.prog) (x := (d0, p0)) (j := 0) hsz (by rw [Tryz.params4]; rfl) rfl Tryz.underlying28 (by kernel_rfl) hf
  clear hA0 hval0
  refine (termReads_walk _ l0 W w0).mono fun e W' ⟨he, bel⟩ => ?_
  subst he
  exact ⟨_, rfl, _, _, _, [], _, [], hW, trodAll_mk1 (shut_bool Tryz.underlying4 _), (trodAll_cons_mk (Below.trod laidOut (by kernel_rfl) (of_decide_eq_true (by kernel_rfl)) k0 bel lt0) trodAll_mk0), rfl, bel.frame _, fun h => by cases h⟩
theorem over : Rows.termReadsRow.holds Tryz.pinned (OpenSpec.ofChange Rows.termReadsSpec) :=
  OpenClaim.holds_of_wide 4 Tryz.f4 rfl rfl rfl rfl rfl rfl rfl ⟨rfl, rfl, rfl, rfl, rfl⟩ rfl rfl rfl rfl rfl (by kernel_rfl) Tryz.func4 (by kernel_rfl)
    (of_decide_eq_true (by kernel_rfl)) (by unfold Func.isWrapper; first | (rw [if_pos (by decide +kernel)]; kernel_rfl) | (rw [if_neg (by decide +kernel)]; exact ⟨rfl, rfl⟩))
    (fun os started H enc _ => lifted os started H enc)
theorem proved : Rows.TermReadsSaid := over
end termReads
end Go.Proofs.YtpfodkgncachiaaGreat
