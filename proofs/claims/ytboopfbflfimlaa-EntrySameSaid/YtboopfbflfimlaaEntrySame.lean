/-
  EntrySame: entries are the same just if they are written alike: for every input the statement's function returns true, and leaves what came in as it was.
-/
import Derived.Test.YtboopfbflfimlaaEntZ
namespace Go.Proofs.Ytboopfbflfimlaa
set_option maxRecDepth 100000
set_option linter.unusedSimpArgs false
set_option linter.unusedVariables false
open Go.ChangeShapes Go.WideShapes Go.ChangeAt Go.RowKit

theorem Ent.enc_same {a b : Ent.E} (ha : Ent.right a = true) (hb : Ent.right b = true) : (Ent.enc a == Ent.enc b) = Ent.alike a b := by
  cases h : Ent.alike a b with
  | true => rw [(Ent.alike_iff a b).1 h]; simp
  | false =>
    rw [beq_eq_false_iff_ne]
    intro e
    rw [Ent.enc_inj ha hb e, Ent.alike_self] at h
    cases h

set_option maxHeartbeats 8000000 in
theorem entrySame_walk (v u : Value) (r s : Ent.E) (W : World) (hv : IsEnt W v r) (hu : IsEnt W u s) :
    Calls Try.prog 8 #[v, u] W fun e W' => e = .returned (.bool true) ∧ Below W.heap.size W W' := by
  have hbx := box_entR
  have HV := Lib.hid hv
  have HU := Lib.hid hu
  obtain ⟨a, m, c, rfl⟩ := hv.shape
  obtain ⟨a', m', c', rfl⟩ := hu.shape
  clear hv hu
  have hE0 : Ext W ((W.alloc (.cells #[.int .i64 r.number, .int .i64 r.kind, .slice a m c, .int .i64 r.tag, .int .i64 r.term, .int .i64 r.pos] 26)).alloc (.cells #[.int .i64 s.number, .int .i64 s.kind, .slice a' m' c', .int .i64 s.tag, .int .i64 s.term, .int .i64 s.pos] 26)) := ext_two _ _ _
  have hh := heap_two W (.cells #[.int .i64 r.number, .int .i64 r.kind, .slice a m c, .int .i64 r.tag, .int .i64 r.term, .int .i64 r.pos] 26) (.cells #[.int .i64 s.number, .int .i64 s.kind, .slice a' m' c', .int .i64 s.tag, .int .i64 s.term, .int .i64 s.pos] 26)
  have HA0 := Lib.hid (show EntAt 26 _ W.heap.size (.slice a m c) r from hh.1)
  have HB0 := Lib.hid (show EntAt 26 _ (W.heap.size + 1) (.slice a' m' c') s from hh.2)
  have HSELF := Lib.hid (Ent.alike_self r)
  obtain ⟨S, hS⟩ : ∃ S, Ent.alike r s = S := ⟨_, rfl⟩
  have hes := fun h1 h2 => Ent.enc_same (a := r) (b := s) h1 h2
  rw [hS] at hes
  have HES := Lib.hid hes
  have HS := Lib.hid hS
  have hSS : (S == S) = true := by cases S <;> rfl
  have hSN : (S != S) = false := by cases S <;> rfl
  clear hh hS hes
  cases hr : Ent.right r with
  | false =>
    have HR := Lib.hid hr
    clear hr
    cases ht : Ent.right s with
    | false =>
      have HT := Lib.hid ht
      clear ht
      go_enter Try.func8, Try.ntmps8
      obtain ⟨y0, y1, y2, y3, y4, y5⟩ := HA0.out.cells
      go_wp2_with fail
      clear y0 y1 y2 y3 y4 y5
      refine (encode5_wrong _ r _ (HV.out.below hE0) HR.out).mono ?_
      rintro e w1 ⟨rfl, hE1⟩
      have e1 := hE0.trans hE1
      have A1 := Lib.hid (HA0.out.ext hE1)
      have C1 := Lib.hid (HB0.out.ext hE1)
      obtain ⟨z0, z1, z2, z3, z4, z5⟩ := C1.out.cells
      go_wp2_with fail
      clear z0 z1 z2 z3 z4 z5
      refine (encode5_wrong _ s _ (HU.out.below e1) HT.out).mono ?_
      rintro e w2 ⟨rfl, hE2⟩
      have e2 := e1.trans hE2
      have A2 := Lib.hid (A1.out.ext hE2)
      have C2 := Lib.hid (C1.out.ext hE2)
      obtain ⟨y0, y1, y2, y3, y4, y5⟩ := A2.out.cells
      obtain ⟨z0, z1, z2, z3, z4, z5⟩ := C2.out.cells
      go_wp2_with fail
      clear y0 y1 y2 y3 y4 y5 z0 z1 z2 z3 z4 z5
      refine (same5_any _ _ r s _ (HV.out.below e2) (HU.out.below e2)).mono ?_
      rw [HS.out]
      rintro e w3 ⟨rfl, hE3⟩
      have e3 := e2.trans hE3
      have A3 := Lib.hid (A2.out.ext hE3)
      have C3 := Lib.hid (C2.out.ext hE3)
      obtain ⟨y0, y1, y2, y3, y4, y5⟩ := A3.out.cells
      obtain ⟨z0, z1, z2, z3, z4, z5⟩ := C3.out.cells
      go_wp2_with fail
      clear y0 y1 y2 y3 y4 y5 z0 z1 z2 z3 z4 z5
      refine (refSame5_any _ _ r s _ (HV.out.below e3) (HU.out.below e3)).mono ?_
      rw [HS.out]
      rintro e w4 ⟨rfl, hE4⟩
      have e4 := e3.trans hE4
      have A4 := Lib.hid (A3.out.ext hE4)
      obtain ⟨y0, y1, y2, y3, y4, y5⟩ := A4.out.cells
      go_wp2_with fail
      clear y0 y1 y2 y3 y4 y5
      refine (same5_any _ _ r r _ (HV.out.below e4) (HV.out.below e4)).mono ?_
      rw [HSELF.out]
      rintro e w5 ⟨rfl, hE5⟩
      have e5 := e4.trans hE5
      go_wp2_with fail
      refine (entAlive_any _).mono ?_
      rintro e w6 ⟨rfl, hE6⟩
      have e6 := e5.trans hE6
      go_wp2_with fail
      go_ret
      exact ⟨rfl, e6⟩
    | true =>
      have HT := Lib.hid ht
      clear ht
      go_enter Try.func8, Try.ntmps8
      obtain ⟨y0, y1, y2, y3, y4, y5⟩ := HA0.out.cells
      go_wp2_with fail
      clear y0 y1 y2 y3 y4 y5
      refine (encode5_wrong _ r _ (HV.out.below hE0) HR.out).mono ?_
      rintro e w1 ⟨rfl, hE1⟩
      have e1 := hE0.trans hE1
      have A1 := Lib.hid (HA0.out.ext hE1)
      have C1 := Lib.hid (HB0.out.ext hE1)
      obtain ⟨z0, z1, z2, z3, z4, z5⟩ := C1.out.cells
      go_wp2_with fail
      clear z0 z1 z2 z3 z4 z5
      refine (encode5_own _ s _ (HU.out.below e1) HT.out).mono ?_
      unfold OwnsEnc5
      rintro e w2 ⟨u2, rfl, ho2, hE2⟩
      obtain ⟨a2, n2, c2, rfl⟩ := ownSlice ho2
      have B2 := Lib.hid (show Bytes w2 (.slice a2 n2 c2) (Ent.enc s) from Sl.ofOwn ho2)
      clear ho2
      have e2 := e1.trans hE2
      have A2 := Lib.hid (A1.out.ext hE2)
      have C2 := Lib.hid (C1.out.ext hE2)
      obtain ⟨y0, y1, y2, y3, y4, y5⟩ := A2.out.cells
      obtain ⟨z0, z1, z2, z3, z4, z5⟩ := C2.out.cells
      go_wp2_with fail
      clear y0 y1 y2 y3 y4 y5 z0 z1 z2 z3 z4 z5
      refine (same5_any _ _ r s _ (HV.out.below e2) (HU.out.below e2)).mono ?_
      rw [HS.out]
      rintro e w3 ⟨rfl, hE3⟩
      have e3 := e2.trans hE3
      have A3 := Lib.hid (A2.out.ext hE3)
      have C3 := Lib.hid (C2.out.ext hE3)
      obtain ⟨y0, y1, y2, y3, y4, y5⟩ := A3.out.cells
      obtain ⟨z0, z1, z2, z3, z4, z5⟩ := C3.out.cells
      go_wp2_with fail
      clear y0 y1 y2 y3 y4 y5 z0 z1 z2 z3 z4 z5
      refine (refSame5_any _ _ r s _ (HV.out.below e3) (HU.out.below e3)).mono ?_
      rw [HS.out]
      rintro e w4 ⟨rfl, hE4⟩
      have e4 := e3.trans hE4
      have A4 := Lib.hid (A3.out.ext hE4)
      obtain ⟨y0, y1, y2, y3, y4, y5⟩ := A4.out.cells
      go_wp2_with fail
      clear y0 y1 y2 y3 y4 y5
      refine (same5_any _ _ r r _ (HV.out.below e4) (HV.out.below e4)).mono ?_
      rw [HSELF.out]
      rintro e w5 ⟨rfl, hE5⟩
      have e5 := e4.trans hE5
      go_wp2_with fail
      refine (entAlive_any _).mono ?_
      rintro e w6 ⟨rfl, hE6⟩
      have e6 := e5.trans hE6
      go_wp2_with fail
      go_ret
      exact ⟨rfl, e6⟩
  | true =>
    have HR := Lib.hid hr
    clear hr
    cases ht : Ent.right s with
    | false =>
      have HT := Lib.hid ht
      clear ht
      go_enter Try.func8, Try.ntmps8
      obtain ⟨y0, y1, y2, y3, y4, y5⟩ := HA0.out.cells
      go_wp2_with fail
      clear y0 y1 y2 y3 y4 y5
      refine (encode5_own _ r _ (HV.out.below hE0) HR.out).mono ?_
      unfold OwnsEnc5
      rintro e w1 ⟨u1, rfl, ho1, hE1⟩
      obtain ⟨a1, n1, c1, rfl⟩ := ownSlice ho1
      have B1 := Lib.hid (show Bytes w1 (.slice a1 n1 c1) (Ent.enc r) from Sl.ofOwn ho1)
      clear ho1
      have e1 := hE0.trans hE1
      have A1 := Lib.hid (HA0.out.ext hE1)
      have C1 := Lib.hid (HB0.out.ext hE1)
      obtain ⟨z0, z1, z2, z3, z4, z5⟩ := C1.out.cells
      go_wp2_with fail
      clear z0 z1 z2 z3 z4 z5
      refine (encode5_wrong _ s _ (HU.out.below e1) HT.out).mono ?_
      rintro e w2 ⟨rfl, hE2⟩
      have e2 := e1.trans hE2
      have A2 := Lib.hid (A1.out.ext hE2)
      have C2 := Lib.hid (C1.out.ext hE2)
      obtain ⟨y0, y1, y2, y3, y4, y5⟩ := A2.out.cells
      obtain ⟨z0, z1, z2, z3, z4, z5⟩ := C2.out.cells
      go_wp2_with fail
      clear y0 y1 y2 y3 y4 y5 z0 z1 z2 z3 z4 z5
      refine (same5_any _ _ r s _ (HV.out.below e2) (HU.out.below e2)).mono ?_
      rw [HS.out]
      rintro e w3 ⟨rfl, hE3⟩
      have e3 := e2.trans hE3
      have A3 := Lib.hid (A2.out.ext hE3)
      have C3 := Lib.hid (C2.out.ext hE3)
      obtain ⟨y0, y1, y2, y3, y4, y5⟩ := A3.out.cells
      obtain ⟨z0, z1, z2, z3, z4, z5⟩ := C3.out.cells
      go_wp2_with fail
      clear y0 y1 y2 y3 y4 y5 z0 z1 z2 z3 z4 z5
      refine (refSame5_any _ _ r s _ (HV.out.below e3) (HU.out.below e3)).mono ?_
      rw [HS.out]
      rintro e w4 ⟨rfl, hE4⟩
      have e4 := e3.trans hE4
      have A4 := Lib.hid (A3.out.ext hE4)
      obtain ⟨y0, y1, y2, y3, y4, y5⟩ := A4.out.cells
      go_wp2_with fail
      clear y0 y1 y2 y3 y4 y5
      refine (same5_any _ _ r r _ (HV.out.below e4) (HV.out.below e4)).mono ?_
      rw [HSELF.out]
      rintro e w5 ⟨rfl, hE5⟩
      have e5 := e4.trans hE5
      go_wp2_with fail
      refine (entAlive_any _).mono ?_
      rintro e w6 ⟨rfl, hE6⟩
      have e6 := e5.trans hE6
      go_wp2_with fail
      go_ret
      exact ⟨rfl, e6⟩
    | true =>
      have HT := Lib.hid ht
      clear ht
      go_enter Try.func8, Try.ntmps8
      obtain ⟨y0, y1, y2, y3, y4, y5⟩ := HA0.out.cells
      go_wp2_with fail
      clear y0 y1 y2 y3 y4 y5
      refine (encode5_own _ r _ (HV.out.below hE0) HR.out).mono ?_
      unfold OwnsEnc5
      rintro e w1 ⟨u1, rfl, ho1, hE1⟩
      obtain ⟨a1, n1, c1, rfl⟩ := ownSlice ho1
      have B1 := Lib.hid (show Bytes w1 (.slice a1 n1 c1) (Ent.enc r) from Sl.ofOwn ho1)
      clear ho1
      have e1 := hE0.trans hE1
      have A1 := Lib.hid (HA0.out.ext hE1)
      have C1 := Lib.hid (HB0.out.ext hE1)
      obtain ⟨z0, z1, z2, z3, z4, z5⟩ := C1.out.cells
      go_wp2_with fail
      clear z0 z1 z2 z3 z4 z5
      refine (encode5_own _ s _ (HU.out.below e1) HT.out).mono ?_
      unfold OwnsEnc5
      rintro e w2 ⟨u2, rfl, ho2, hE2⟩
      obtain ⟨a2, n2, c2, rfl⟩ := ownSlice ho2
      have B2 := Lib.hid (show Bytes w2 (.slice a2 n2 c2) (Ent.enc s) from Sl.ofOwn ho2)
      clear ho2
      have e2 := e1.trans hE2
      have A2 := Lib.hid (A1.out.ext hE2)
      have C2 := Lib.hid (C1.out.ext hE2)
      obtain ⟨y0, y1, y2, y3, y4, y5⟩ := A2.out.cells
      obtain ⟨z0, z1, z2, z3, z4, z5⟩ := C2.out.cells
      go_wp2_with fail
      clear y0 y1 y2 y3 y4 y5 z0 z1 z2 z3 z4 z5
      refine (same5_any _ _ r s _ (HV.out.below e2) (HU.out.below e2)).mono ?_
      rw [HS.out]
      rintro e w3 ⟨rfl, hE3⟩
      have e3 := e2.trans hE3
      have A3 := Lib.hid (A2.out.ext hE3)
      have C3 := Lib.hid (C2.out.ext hE3)
      obtain ⟨y0, y1, y2, y3, y4, y5⟩ := A3.out.cells
      obtain ⟨z0, z1, z2, z3, z4, z5⟩ := C3.out.cells
      go_wp2_with fail
      clear y0 y1 y2 y3 y4 y5 z0 z1 z2 z3 z4 z5
      refine (refSame5_any _ _ r s _ (HV.out.below e3) (HU.out.below e3)).mono ?_
      rw [HS.out]
      rintro e w4 ⟨rfl, hE4⟩
      have e4 := e3.trans hE4
      have A4 := Lib.hid (A3.out.ext hE4)
      obtain ⟨y0, y1, y2, y3, y4, y5⟩ := A4.out.cells
      go_wp2_with fail
      clear y0 y1 y2 y3 y4 y5
      refine (same5_any _ _ r r _ (HV.out.below e4) (HV.out.below e4)).mono ?_
      rw [HSELF.out]
      rintro e w5 ⟨rfl, hE5⟩
      have e5 := e4.trans hE5
      go_wp2_with fail
      refine (entAlive_any _).mono ?_
      rintro e w6 ⟨rfl, hE6⟩
      have e6 := e5.trans hE6
      have hst := run_str (P := Try.prog) 27 9 5 Try.underlying27 Try.underlying5 Try.underlying9 (B1.out.below (hE2.trans (hE3.trans (hE4.trans (hE5.trans hE6)))))
      have hst2 := run_str (P := Try.prog) 27 9 5 Try.underlying27 Try.underlying5 Try.underlying9 (B2.out.below (hE3.trans (hE4.trans (hE5.trans hE6))))
      have hes := HES.out HR.out HT.out
      obtain ⟨X, hX⟩ : ∃ X, Ent.enc r = X := ⟨_, rfl⟩
      obtain ⟨Y, hY⟩ : ∃ Y, Ent.enc s = Y := ⟨_, rfl⟩
      rw [hX] at hst hes
      rw [hY] at hst2 hes
      clear hX hY
      go_wp2_with fail
      go_ret
      exact ⟨rfl, e6⟩

namespace entrySame
theorem own : ownKnob Try.prog.godebug = none := by kernel_rfl
theorem laidOut : laidOutB Try.prog = true := by kernel_rfl
set_option linter.unusedVariables false in
set_option maxRecDepth 100000 in
theorem lifted (os : Os) (started : os.Started) (H : Type) (enc : TypeId × Value → H) :
    ReturnsInHanded {} Try.checked os 8 .any (Rows.entrySameSpec.pre6 enc Try.prog Try.f8 Rows.entrySameRow.domain false) (Rows.entrySameSpec.post enc Try.prog Try.f8 false true false false) := by
  refine returnsInHanded_of_change_sized (C := Try.checked) own started (by kernel_rfl) Try.func8
    (ChangeSpec.witness6 (enc := enc) (C := Try.checked) false ⟨#[], #[.agg #[.int .i64 0, .int .i64 0, .slice none 0 0, .int .i64 0, .int .i64 0, .int .i64 0], .agg #[.int .i64 0, .int .i64 0, .slice none 0 0, .int .i64 0, .int .i64 0, .int .i64 0]], []⟩ 8 (by kernel_rfl) (by kernel_rfl) (by kernel_rfl) (by kernel_rfl)) ?_
  intro W base args ds gs before hval0 hW hcnd hsz _
  have hval : ∀ (j : Nat) t v, Try.f8.params[j]? = some t → args[j]? = some v → Value.okWide Try.prog W .any base t v := hval0
  have hW' := hW
  obtain ⟨p, q, hA0, hV, rfl, hfz, hnd⟩ := hW'
  have hA : DataW.TrodAll enc Try.prog W 0 (fun _ => true) true Try.f8.params.toList args.toList ds p := hA0
  rw [Try.params8] at hA hval
  obtain ⟨v0, vs0, d0, ds0, p0, q0, hargs, rfl, rfl, h0, r0⟩ := trodAll_cons hA
  obtain ⟨v1, vs1, d1, ds1, p1, q1, rfl, rfl, rfl, h1, r1⟩ := trodAll_cons r0
  obtain ⟨rfl, rfl, rfl⟩ := trodAll_nil r1
  obtain rfl : args = #[v0, v1] := by cases args; simp_all
  obtain ⟨rfl, rfl⟩ := trodVars_none hV
  have k0 := h0
  have lt0 : ∀ x ∈ p0, x.block < W.heap.size := by obtain ⟨m, hm⟩ := k0; exact DataW.trod_lt m _ _ _ hm
  obtain ⟨l0, w0⟩ := ent_arg (hval 0 26 v0 rfl rfl) h0
  have k1 := h1
  have lt1 : ∀ x ∈ p1, x.block < W.heap.size := by obtain ⟨m, hm⟩ := k1; exact DataW.trod_lt m _ _ _ hm
  obtain ⟨l1, w1⟩ := ent_arg (hval 1 26 v1 rfl rfl) h1
  clear hA0 hval0
  refine (entrySame_walk v0 v1 l0 l1 W w0 w1).mono fun e W' ⟨he, bel⟩ => ?_
  subst he
  exact ⟨_, rfl, _, _, _, [], _, [], hW, trodAll_mk1 (shut_bool Try.underlying4 _), (trodAll_cons_mk (Below.trod laidOut (by kernel_rfl) (of_decide_eq_true (by kernel_rfl)) k0 bel lt0) (trodAll_cons_mk (Below.trod laidOut (by kernel_rfl) (of_decide_eq_true (by kernel_rfl)) k1 bel lt1) trodAll_mk0)), rfl, bel.frame _, fun h => by cases h⟩
theorem over : Rows.entrySameRow.holds Try.pinned (OpenSpec.ofChange Rows.entrySameSpec) :=
  OpenClaim.holds_of_wide 8 Try.f8 rfl rfl rfl rfl rfl rfl rfl ⟨rfl, rfl, rfl, rfl, rfl⟩ rfl rfl rfl rfl rfl (by kernel_rfl) Try.func8 (by kernel_rfl)
    (of_decide_eq_true (by kernel_rfl)) (by unfold Func.isWrapper; first | (rw [if_pos (by decide +kernel)]; kernel_rfl) | (rw [if_neg (by decide +kernel)]; exact ⟨rfl, rfl⟩))
    (fun os started H enc _ => lifted os started H enc)
theorem proved : Rows.EntrySameSaid := over
end entrySame
end Go.Proofs.Ytboopfbflfimlaa
