/-
  EntryWrites: any entry is written as the document says, or refused: for every input the statement's function returns true, and leaves what came in as it was.
-/
import Derived.Test.YtboopfbflfimlaaEntZ
namespace Go.Proofs.Ytboopfbflfimlaa
set_option maxRecDepth 100000
set_option linter.unusedSimpArgs false
set_option linter.unusedVariables false
open Go.ChangeShapes Go.WideShapes Go.ChangeAt Go.RowKit

set_option maxHeartbeats 8000000 in
theorem entryWrites_walk (v : Value) (r : Ent.E) (W : World) (hv : IsEnt W v r) :
    Calls Try.prog 3 #[v] W fun e W' => e = .returned (.bool true) ∧ Below W.heap.size W W' := by
  have hbx := box_entR
  have HV := Lib.hid hv
  obtain ⟨a, m, c, rfl⟩ := hv.shape
  obtain ⟨R, hR⟩ : ∃ R, Ent.right r = R := ⟨_, rfl⟩
  obtain ⟨E, hE⟩ : ∃ E, bytesOr R (Ent.enc r) = E := ⟨_, rfl⟩
  obtain ⟨er, her⟩ : ∃ er, orErr 50 R = er := ⟨_, rfl⟩
  have henc := fun v w h => encode5_any v r w h
  have href := fun v w h => refEncode5_any v r w h
  have hri := fun v w h => right5_any v r w h
  have hrr := fun v w h => refRight5_any v r w h
  unfold GivesEnc5 at henc href
  rw [hR, hE, her] at henc href
  rw [hR] at hri hrr
  have HENC := Lib.hid henc
  have HREF := Lib.hid href
  have HRI := Lib.hid hri
  have HRR := Lib.hid hrr
  have hE0 : Ext W (W.alloc (.cells #[.int .i64 r.number, .int .i64 r.kind, .slice a m c, .int .i64 r.tag, .int .i64 r.term, .int .i64 r.pos] 26)) := Ext.alloc _ _
  have HA0 := Lib.hid (EntAt.new 26 W (.slice a m c) r)
  clear henc href hri hrr hR hE her hv
  go_enter Try.func3, Try.ntmps3
  go_wp2_with fail
  refine (HENC.out _ _ (HV.out.below hE0)).mono ?_
  rintro e w1 ⟨v1, rfl, hb1, hE1⟩
  obtain ⟨a1, n1, c1, rfl⟩ := hb1.isSlice
  have A1 := Lib.hid (HA0.out.ext hE1)
  obtain ⟨y0, y1, y2, y3, y4, y5⟩ := A1.out.cells
  go_wp2_with fail
  refine (HREF.out _ _ (HV.out.below (hE0.trans hE1))).mono ?_
  rintro e w2 ⟨v2, rfl, hb2, hE2⟩
  obtain ⟨a2, n2, c2, rfl⟩ := hb2.isSlice
  have A2 := Lib.hid (A1.out.ext hE2)
  have HB1 := Lib.hid (hb1.below hE2)
  have HB2 := Lib.hid hb2
  have hE3 := (hE0.trans hE1).trans hE2
  have HV2 := Lib.hid (HV.out.below hE3)
  clear y0 y1 y2 y3 y4 y5 hb1 hb2
  go_wp2_with fail
  generalize W.heap.size = h0 at *
  refine wp_region_facts (by kernel_rfl) Ext (fun iop v w => match iop with
      | 0 => v = .bool true
      | 1 => v = .bool true
      | 2 => v = .slice a1 n1 c1
      | 3 => v = .string ⟨E.toArray⟩
      | 4 => v = .slice a2 n2 c2
      | 5 => v = .string ⟨E.toArray⟩
      | 6 => v = .bool true
      | 7 => v = .bool true
      | 8 => v = .bool true
      | 9 => v = .int .i64 er
      | 10 => v = .int .i64 er
      | 11 => v = .bool true
      | 12 => v = .bool true
      | 13 => v = .bool true
      | 14 => v = .agg #[.int .i64 r.number, .int .i64 r.kind, .slice a m c, .int .i64 r.tag, .int .i64 r.term, .int .i64 r.pos]
      | 15 => v = .bool R
      | 16 => v = .agg #[.int .i64 r.number, .int .i64 r.kind, .slice a m c, .int .i64 r.tag, .int .i64 r.term, .int .i64 r.pos]
      | 17 => v = .bool R
      | 18 => v = .bool true
      | 19 => v = .bool true
      | _ => v = .bool true
      ) (by kernel_rfl) (fun _ _ _ h k => Ext.trans h k) (fun a => Ext.refl a) (Ext.drew _) ?_ ?_ ?_
  · intro iop v wa wb hF hL
    cases iop with
    | zero => exact hF
    | succ iop =>
      cases iop with
      | zero => exact hF
      | succ iop =>
        cases iop with
        | zero => exact hF
        | succ iop =>
          cases iop with
          | zero => exact hF
          | succ iop =>
            cases iop with
            | zero => exact hF
            | succ iop =>
              cases iop with
              | zero => exact hF
              | succ iop =>
                cases iop with
                | zero => exact hF
                | succ iop =>
                  cases iop with
                  | zero => exact hF
                  | succ iop =>
                    cases iop with
                    | zero => exact hF
                    | succ iop =>
                      cases iop with
                      | zero => exact hF
                      | succ iop =>
                        cases iop with
                        | zero => exact hF
                        | succ iop =>
                          cases iop with
                          | zero => exact hF
                          | succ iop =>
                            cases iop with
                            | zero => exact hF
                            | succ iop =>
                              cases iop with
                              | zero => exact hF
                              | succ iop =>
                                cases iop with
                                | zero => exact hF
                                | succ iop =>
                                  cases iop with
                                  | zero => exact hF
                                  | succ iop =>
                                    cases iop with
                                    | zero => exact hF
                                    | succ iop =>
                                      cases iop with
                                      | zero => exact hF
                                      | succ iop =>
                                        cases iop with
                                        | zero => exact hF
                                        | succ iop =>
                                          cases iop with
                                          | zero => exact hF
                                          | succ iop =>
                                            exact hF
  · refine Obls.cons ?_ (Obls.cons ?_ (Obls.cons ?_ (Obls.cons ?_ (Obls.cons ?_ (Obls.cons ?_ (Obls.cons ?_ (Obls.cons ?_ (Obls.cons ?_ (Obls.cons ?_ (Obls.cons ?_ (Obls.cons ?_ (Obls.cons ?_ (Obls.cons ?_ (Obls.cons ?_ (Obls.cons ?_ (Obls.cons ?_ (Obls.cons ?_ (Obls.cons ?_ (Obls.cons ?_ (Obls.cons ?_ (Obls.nil)))))))))))))))))))))
    · intro ev wy hp hl hk hd
      clear hk
      clear hd
      refine Yield.call rfl hp Try.func13 rfl (by kernel_rfl) ?_
      simp only [List.map_toArray, List.map_nil]
      exact (entAlive_any wy).mono fun _ _ ⟨he, hb⟩ => ⟨_, he, hb, by first | rfl | simp⟩
    · intro ev wy hp hl hk hd
      have e17 : ev (.tmp 17) = .bool true := hk 17 (by decide)
      clear hk
      clear hd
      exact Yield.mv rfl ⟨Ext.refl _, e17⟩
    · intro ev wy hp hl hk hd
      have e3 : ev (.tmp 3) = .slice a1 n1 c1 := hk 3 (by decide)
      clear hk
      refine ⟨fun _ _ _ => ?_, fun _ hx hne => absurd hx hne⟩
      clear hd
      exact Yield.mv rfl ⟨Ext.refl _, e3⟩
    · intro ev wy hp hl hk hd
      have e19 : ev (.tmp 19) = .slice a1 n1 c1 := hk 19 (by decide)
      clear hk
      refine ⟨fun _ _ _ => ?_, fun _ hx hne => absurd hx hne⟩
      clear hd
      exact Yield.conv rfl e19 (run_str _ _ 5 Try.underlying27 Try.underlying5 Try.underlying9 (HB1.out.below hl)) ⟨Ext.refl _, rfl⟩
    · intro ev wy hp hl hk hd
      have e5 : ev (.tmp 5) = .slice a2 n2 c2 := hk 5 (by decide)
      clear hk
      refine ⟨fun _ _ _ => ?_, fun _ hx hne => absurd hx hne⟩
      clear hd
      exact Yield.mv rfl ⟨Ext.refl _, e5⟩
    · intro ev wy hp hl hk hd
      have e21 : ev (.tmp 21) = .slice a2 n2 c2 := hk 21 (by decide)
      clear hk
      refine ⟨fun _ _ _ => ?_, fun _ hx hne => absurd hx hne⟩
      clear hd
      exact Yield.conv rfl e21 (run_str _ _ 5 Try.underlying27 Try.underlying5 Try.underlying9 (HB2.out.below hl)) ⟨Ext.refl _, rfl⟩
    · intro ev wy hp hl hk hd
      have e20 : ev (.tmp 20) = .string ⟨E.toArray⟩ := hk 20 (by decide)
      have e22 : ev (.tmp 22) = .string ⟨E.toArray⟩ := hk 22 (by decide)
      clear hk
      refine ⟨fun _ _ _ => ?_, fun _ hx hne => absurd hx hne⟩
      clear hd
      exact Yield.op (v := .bool true) (w' := wy) (by simp [execOp, go_sem, e20, e22]) ⟨Ext.refl _, rfl⟩
    · intro ev wy hp hl hk hd
      have e18 : ev (.tmp 18) = .bool true := hk 18 (by decide)
      have e23 : ev (.tmp 23) = .bool true := hk 23 (by decide)
      clear hk
      clear hd
      exact Yield.pick (t := true) rfl e18 ⟨Ext.refl _, e23⟩
    · intro ev wy hp hl hk hd
      have e24 : ev (.tmp 24) = .bool true := hk 24 (by decide)
      clear hk
      clear hd
      exact Yield.mv rfl ⟨Ext.refl _, e24⟩
    · intro ev wy hp hl hk hd
      have e4 : ev (.tmp 4) = .int .i64 er := hk 4 (by decide)
      clear hk
      refine ⟨fun _ _ _ => ?_, fun _ hx hne => absurd hx hne⟩
      clear hd
      exact Yield.mv rfl ⟨Ext.refl _, e4⟩
    · intro ev wy hp hl hk hd
      have e6 : ev (.tmp 6) = .int .i64 er := hk 6 (by decide)
      clear hk
      refine ⟨fun _ _ _ => ?_, fun _ hx hne => absurd hx hne⟩
      clear hd
      exact Yield.mv rfl ⟨Ext.refl _, e6⟩
    · intro ev wy hp hl hk hd
      have e26 : ev (.tmp 26) = .int .i64 er := hk 26 (by decide)
      have e27 : ev (.tmp 27) = .int .i64 er := hk 27 (by decide)
      clear hk
      refine ⟨fun _ _ _ => ?_, fun _ hx hne => absurd hx hne⟩
      clear hd
      exact Yield.op (v := .bool true) (w' := wy) (by simp [execOp, go_sem, e26, e27]) ⟨Ext.refl _, rfl⟩
    · intro ev wy hp hl hk hd
      have e25 : ev (.tmp 25) = .bool true := hk 25 (by decide)
      have e28 : ev (.tmp 28) = .bool true := hk 28 (by decide)
      clear hk
      clear hd
      exact Yield.pick (t := true) rfl e25 ⟨Ext.refl _, e28⟩
    · intro ev wy hp hl hk hd
      have e29 : ev (.tmp 29) = .bool true := hk 29 (by decide)
      clear hk
      clear hd
      exact Yield.mv rfl ⟨Ext.refl _, e29⟩
    · intro ev wy hp hl hk hd
      have e1 : ev (.tmp 1) = .pointer (some ⟨h0, 0, none⟩) := hk 1 (by decide)
      clear hk
      refine ⟨fun _ _ _ => ?_, fun _ hx hne => absurd hx hne⟩
      clear hd
      exact Yield.load rfl e1 (ldEntAt (A2.out.ext hl)) ⟨Ext.refl _, rfl⟩
    · intro ev wy hp hl hk hd
      have e31 : ev (.tmp 31) = .agg #[.int .i64 r.number, .int .i64 r.kind, .slice a m c, .int .i64 r.tag, .int .i64 r.term, .int .i64 r.pos] := hk 31 (by decide)
      clear hk
      refine ⟨fun _ _ _ => ?_, fun _ hx hne => absurd hx hne⟩
      clear hd
      refine Yield.call rfl hp Try.func14 rfl (by kernel_rfl) ?_
      simp only [List.map_toArray, List.map_cons, List.map_nil, e31]
      exact (HRI.out _ wy (HV2.out.below hl)).mono fun _ _ ⟨he, hb⟩ => ⟨_, he, hb, by first | rfl | simp⟩
    · intro ev wy hp hl hk hd
      have e1 : ev (.tmp 1) = .pointer (some ⟨h0, 0, none⟩) := hk 1 (by decide)
      clear hk
      refine ⟨fun _ _ _ => ?_, fun _ hx hne => absurd hx hne⟩
      clear hd
      exact Yield.load rfl e1 (ldEntAt (A2.out.ext hl)) ⟨Ext.refl _, rfl⟩
    · intro ev wy hp hl hk hd
      have e33 : ev (.tmp 33) = .agg #[.int .i64 r.number, .int .i64 r.kind, .slice a m c, .int .i64 r.tag, .int .i64 r.term, .int .i64 r.pos] := hk 33 (by decide)
      clear hk
      refine ⟨fun _ _ _ => ?_, fun _ hx hne => absurd hx hne⟩
      clear hd
      refine Yield.call rfl hp Try.func15 rfl (by kernel_rfl) ?_
      simp only [List.map_toArray, List.map_cons, List.map_nil, e33]
      exact (HRR.out _ wy (HV2.out.below hl)).mono fun _ _ ⟨he, hb⟩ => ⟨_, he, hb, by first | rfl | simp⟩
    · intro ev wy hp hl hk hd
      have e32 : ev (.tmp 32) = .bool R := hk 32 (by decide)
      have e34 : ev (.tmp 34) = .bool R := hk 34 (by decide)
      clear hk
      refine ⟨fun _ _ _ => ?_, fun _ hx hne => absurd hx hne⟩
      clear hd
      exact Yield.op (v := .bool true) (w' := wy) (by simp [execOp, go_sem, e32, e34]) ⟨Ext.refl _, rfl⟩
    · intro ev wy hp hl hk hd
      have e30 : ev (.tmp 30) = .bool true := hk 30 (by decide)
      have e35 : ev (.tmp 35) = .bool true := hk 35 (by decide)
      clear hk
      clear hd
      exact Yield.pick (t := true) rfl e30 ⟨Ext.refl _, e35⟩
    · intro ev wy hp hl hk hd
      have e36 : ev (.tmp 36) = .bool true := hk 36 (by decide)
      clear hk
      clear hd
      exact Yield.as rfl ⟨Ext.refl _, e36⟩
  · intro vals wz hz hv
    have g17 : vals 0 = .bool true := hv 0 (by decide)
    have g18 : vals 1 = .bool true := hv 1 (by decide)
    have g19 : vals 2 = .slice a1 n1 c1 := hv 2 (by decide)
    have g20 : vals 3 = .string ⟨E.toArray⟩ := hv 3 (by decide)
    have g21 : vals 4 = .slice a2 n2 c2 := hv 4 (by decide)
    have g22 : vals 5 = .string ⟨E.toArray⟩ := hv 5 (by decide)
    have g23 : vals 6 = .bool true := hv 6 (by decide)
    have g24 : vals 7 = .bool true := hv 7 (by decide)
    have g25 : vals 8 = .bool true := hv 8 (by decide)
    have g26 : vals 9 = .int .i64 er := hv 9 (by decide)
    have g27 : vals 10 = .int .i64 er := hv 10 (by decide)
    have g28 : vals 11 = .bool true := hv 11 (by decide)
    have g29 : vals 12 = .bool true := hv 12 (by decide)
    have g30 : vals 13 = .bool true := hv 13 (by decide)
    have g31 : vals 14 = .agg #[.int .i64 r.number, .int .i64 r.kind, .slice a m c, .int .i64 r.tag, .int .i64 r.term, .int .i64 r.pos] := hv 14 (by decide)
    have g32 : vals 15 = .bool R := hv 15 (by decide)
    have g33 : vals 16 = .agg #[.int .i64 r.number, .int .i64 r.kind, .slice a m c, .int .i64 r.tag, .int .i64 r.term, .int .i64 r.pos] := hv 16 (by decide)
    have g34 : vals 17 = .bool R := hv 17 (by decide)
    have g35 : vals 18 = .bool true := hv 18 (by decide)
    have g36 : vals 19 = .bool true := hv 19 (by decide)
    have g2 : vals 20 = .bool true := hv 20 (by decide)
    clear hv
    simp only [putAll, Act.put, List.setIfInBounds_toArray, List.set_cons_zero, List.set_cons_succ, g17, g18, g19, g20, g21, g22, g23, g24, g25, g26, g27, g28, g29, g30, g31, g32, g33, g34, g35, g36, g2]
    clear g17
    clear g18
    clear g19
    clear g20
    clear g21
    clear g22
    clear g23
    clear g24
    clear g25
    clear g26
    clear g27
    clear g28
    clear g29
    clear g30
    clear g31
    clear g32
    clear g33
    clear g34
    clear g35
    clear g36
    clear g2
    go_wp2_with fail
    go_ret
    exact ⟨rfl, hE3.trans hz⟩

namespace entryWrites
theorem own : ownKnob Try.prog.godebug = none := by kernel_rfl
theorem laidOut : laidOutB Try.prog = true := by kernel_rfl
set_option linter.unusedVariables false in
set_option maxRecDepth 100000 in
theorem lifted (os : Os) (started : os.Started) (H : Type) (enc : TypeId × Value → H) :
    ReturnsInHanded {} Try.checked os 3 .any (Rows.entryWritesSpec.pre6 enc Try.prog Try.f3 Rows.entryWritesRow.domain false) (Rows.entryWritesSpec.post enc Try.prog Try.f3 false true false false) := by
  refine returnsInHanded_of_change_sized (C := Try.checked) own started (by kernel_rfl) Try.func3
    (ChangeSpec.witness6 (enc := enc) (C := Try.checked) false ⟨#[], #[.agg #[.int .i64 0, .int .i64 0, .slice none 0 0, .int .i64 0, .int .i64 0, .int .i64 0]], []⟩ 8 (by kernel_rfl) (by kernel_rfl) (by kernel_rfl) (by kernel_rfl)) ?_
  intro W base args ds gs before hval0 hW hcnd hsz _
  have hval : ∀ (j : Nat) t v, Try.f3.params[j]? = some t → args[j]? = some v → Value.okWide Try.prog W .any base t v := hval0
  have hW' := hW
  obtain ⟨p, q, hA0, hV, rfl, hfz, hnd⟩ := hW'
  have hA : DataW.TrodAll enc Try.prog W 0 (fun _ => true) true Try.f3.params.toList args.toList ds p := hA0
  rw [Try.params3] at hA hval
  obtain ⟨v0, vs0, d0, ds0, p0, q0, hargs, rfl, rfl, h0, r0⟩ := trodAll_cons hA
  obtain ⟨rfl, rfl, rfl⟩ := trodAll_nil r0
  obtain rfl : args = #[v0] := by cases args; simp_all
  obtain ⟨rfl, rfl⟩ := trodVars_none hV
  have k0 := h0
  have lt0 : ∀ x ∈ p0, x.block < W.heap.size := by obtain ⟨m, hm⟩ := k0; exact DataW.trod_lt m _ _ _ hm
  obtain ⟨l0, w0⟩ := ent_arg (hval 0 26 v0 rfl rfl) h0
  clear hA0 hval0
  refine (entryWrites_walk v0 l0 W w0).mono fun e W' ⟨he, bel⟩ => ?_
  subst he
  exact ⟨_, rfl, _, _, _, [], _, [], hW, trodAll_mk1 (shut_bool Try.underlying4 _), (trodAll_cons_mk (Below.trod laidOut (by kernel_rfl) (of_decide_eq_true (by kernel_rfl)) k0 bel lt0) trodAll_mk0), rfl, bel.frame _, fun h => by cases h⟩
theorem over : Rows.entryWritesRow.holds Try.pinned (OpenSpec.ofChange Rows.entryWritesSpec) :=
  OpenClaim.holds_of_wide 3 Try.f3 rfl rfl rfl rfl rfl rfl rfl ⟨rfl, rfl, rfl, rfl, rfl⟩ rfl rfl rfl rfl rfl (by kernel_rfl) Try.func3 (by kernel_rfl)
    (of_decide_eq_true (by kernel_rfl)) (by unfold Func.isWrapper; first | (rw [if_pos (by decide +kernel)]; kernel_rfl) | (rw [if_neg (by decide +kernel)]; exact ⟨rfl, rfl⟩))
    (fun os started H enc _ => lifted os started H enc)
theorem proved : Rows.EntryWritesSaid := over
end entryWrites
end Go.Proofs.Ytboopfbflfimlaa
