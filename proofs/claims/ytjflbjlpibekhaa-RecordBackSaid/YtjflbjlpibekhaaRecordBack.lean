/-
  RecordBack: what was written is read as it was; what was read is written as the same bytes: for every input the statement's function returns true, and leaves what came in as it was.
-/
import Derived.Test.YtjflbjlpibekhaaRecRaw
import Derived.Test.YtjflbjlpibekhaaRecEnc
namespace Go.Proofs.Ytjflbjlpibekhaa
set_option maxRecDepth 100000
open Go.ChangeShapes Go.WideShapes Go.ChangeAt Go.RowKit

/-- The second half: any bytes. -/
theorem dec_some {l : List UInt8} (h : decErr4 (Crc.cutOf l) = 0) : Rec.right (decRec4 (Crc.cutOf l)) = true ∧ Rec.enc (decRec4 (Crc.cutOf l)) = l := by
  cases hc : Crc.cutOf l with
  | none => rw [hc] at h; cases h
  | some t =>
    rw [hc, decErr4_some] at h
    cases hr : Rec.readOk t with
    | false => rw [hr] at h; cases h
    | true =>
      rw [decRec4_some, hr]
      exact Rec.enc_dec (b := l) (by unfold Rec.dec; rw [hc]; simp only [hr, if_true]; rfl)
theorem dec_none {l : List UInt8} (h : ¬ decErr4 (Crc.cutOf l) = 0) : decRec4 (Crc.cutOf l) = noRec := by
  cases hc : Crc.cutOf l with
  | none => rfl
  | some t =>
    rw [hc, decErr4_some] at h
    cases hr : Rec.readOk t with
    | false => rw [decRec4_some, hr]; rfl
    | true => rw [hr] at h; exact absurd rfl h
set_option maxHeartbeats 8000000 in
theorem recordBack_walk (v u : Value) (r : Rec.R) (l : List UInt8) (W : World) (hv : IsRec W v r) (hu : Bytes W u l) :
    Calls Try.prog 5 #[v, u] W fun e W' => e = .returned (.bool true) ∧ Below W.heap.size W W' := by
  have hbx := box_rec
  have hb0 := build_rec0
  have HV := Lib.hid hv
  have HU := Lib.hid hu
  obtain ⟨a, m, c, rfl⟩ := hv.shape
  obtain ⟨b, cap, rfl, hcap, hmax, _, _⟩ := hu.open
  unfold maxLen at hmax
  clear hv hu
  have hE0 : Ext W (W.alloc (.cells #[.int .i64 r.client, .int .i64 r.number, .slice a m c, .string ⟨r.data.toArray⟩] 26)) := Ext.alloc _ _
  have HA0 := Lib.hid (RecAt.new W (.slice a m c) r)
  have same1 : ∀ l : List UInt8, (l == l) = true := fun l => by simp
  by_cases hl : (20000 : Int) < (l.length : Int)
  · cases hr : Rec.right r with
    | false =>
      have HR := Lib.hid hr
      clear hr
      go_enter Try.func5, Try.ntmps5
      go_wp2_with fail
      refine (encode4_wrong _ r _ HR.out (HV.out.below hE0)).mono ?_
      rintro e w1 ⟨u1, rfl, hb1, hE1⟩
      obtain ⟨a1, n1, c1, rfl⟩ := hb1.isSlice
      have hE := hE0.trans hE1
      clear hb1
      go_wp2_with fail
      refine (recAlive_any _).mono ?_
      rintro e w5 ⟨rfl, hE5⟩
      go_wp2_with fail
      go_ret
      exact ⟨rfl, hE.trans hE5⟩

    | true =>
      have HR := Lib.hid hr
      clear hr
      go_enter Try.func5, Try.ntmps5
      go_wp2_with fail
      refine (encode4_right _ r _ HR.out (HV.out.below hE0)).mono ?_
      rintro e w1 ⟨u1, rfl, hb1, hE1⟩
      obtain ⟨a1, n1, c1, rfl⟩ := hb1.isSlice
      have HB1 := Lib.hid hb1
      clear hb1
      go_wp2_with fail
      refine (decode4_enc _ r _ HR.out HB1.out).mono ?_
      rintro e w2 ⟨u2, rfl, hi2, hE2⟩
      obtain ⟨a2, n2, c2, rfl⟩ := hi2.shape
      have hE3 : Ext w2 (w2.alloc (.cells #[.int .i64 r.client, .int .i64 r.number, .slice a2 n2 c2, .string ⟨r.data.toArray⟩] 26)) := Ext.alloc _ _
      obtain ⟨z0, z1, z2, z3⟩ := (RecAt.new w2 (.slice a2 n2 c2) r).cells
      have A3 := Lib.hid ((HA0.out.ext hE1).ext (Ext.trans hE2 hE3))
      obtain ⟨y0, y1, y2, y3⟩ := A3.out.cells
      have HI2 := Lib.hid (hi2.below hE3)
      have HS := Lib.hid (Rec.same_self r)
      have HV3 := Lib.hid (HV.out.below (((hE0.trans hE1).trans hE2).trans hE3))
      clear hi2
      go_wp2_with fail
      refine (refSame4_any _ _ r r _ HV3.out HI2.out).mono ?_
      rw [HS.out]
      rintro e w3 ⟨rfl, hE4⟩
      have hE := (((hE0.trans hE1).trans hE2).trans hE3).trans hE4
      clear y0 y1 y2 y3 z0 z1 z2 z3
      go_wp2_with fail
      refine (recAlive_any _).mono ?_
      rintro e w5 ⟨rfl, hE5⟩
      go_wp2_with fail
      go_ret
      exact ⟨rfl, hE.trans hE5⟩


  · have hdec := fun w h => decode4_any (.slice b l.length cap) l w h (by omega)
    unfold GivesDec4 at hdec
    by_cases hd : decErr4 (Crc.cutOf l) = 0
    · have hds := dec_some hd
      rw [hd] at hdec
      generalize decRec4 (Crc.cutOf l) = D at *
      have HDEC := Lib.hid hdec
      have HDR := Lib.hid hds.1
      have HDE := Lib.hid hds.2
      clear hdec hds hd
      cases hr : Rec.right r with
      | false =>
        have HR := Lib.hid hr
        clear hr
        go_enter Try.func5, Try.ntmps5
        go_wp2_with fail
        refine (encode4_wrong _ r _ HR.out (HV.out.below hE0)).mono ?_
        rintro e w1 ⟨u1, rfl, hb1, hE1⟩
        obtain ⟨a1, n1, c1, rfl⟩ := hb1.isSlice
        have hE := hE0.trans hE1
        clear hb1
        go_wp2_with fail
        refine (HDEC.out _ (HU.out.below hE)).mono ?_
        rintro e w5 ⟨u5, rfl, hi5, hE5⟩
        obtain ⟨a5, n5, c5, rfl⟩ := hi5.shape
        have hE6 : Ext w5 (w5.alloc (.cells #[.int .i64 D.client, .int .i64 D.number, .slice a5 n5 c5, .string ⟨D.data.toArray⟩] 26)) := Ext.alloc _ _
        have HI6 := Lib.hid (hi5.below hE6)
        clear hi5
        go_wp2_with fail
        refine (encode4_right _ D _ HDR.out HI6.out).mono ?_
        rintro e w7 ⟨u7, rfl, hb7, hE7⟩
        rw [HDE.out] at hb7
        obtain ⟨a7, n7, c7, rfl⟩ := hb7.isSlice
        have HB7 := Lib.hid hb7
        have hEE := ((hE.trans hE5).trans hE6).trans hE7
        clear hb7
        go_wp2_with fail
        refine (recAlive_any _).mono ?_
        rintro e w8 ⟨rfl, hE8⟩
        have hc1 := run_str (P := Try.prog) 27 9 5 Try.underlying27 Try.underlying5 Try.underlying9 (HB7.out.below hE8)
        have hc2 := run_str (P := Try.prog) 27 9 5 Try.underlying27 Try.underlying5 Try.underlying9 (HU.out.below (hEE.trans hE8))
        go_wp2_with fail
        go_ret
        exact ⟨rfl, hEE.trans hE8⟩

      | true =>
        have HR := Lib.hid hr
        clear hr
        go_enter Try.func5, Try.ntmps5
        go_wp2_with fail
        refine (encode4_right _ r _ HR.out (HV.out.below hE0)).mono ?_
        rintro e w1 ⟨u1, rfl, hb1, hE1⟩
        obtain ⟨a1, n1, c1, rfl⟩ := hb1.isSlice
        have HB1 := Lib.hid hb1
        clear hb1
        go_wp2_with fail
        refine (decode4_enc _ r _ HR.out HB1.out).mono ?_
        rintro e w2 ⟨u2, rfl, hi2, hE2⟩
        obtain ⟨a2, n2, c2, rfl⟩ := hi2.shape
        have hE3 : Ext w2 (w2.alloc (.cells #[.int .i64 r.client, .int .i64 r.number, .slice a2 n2 c2, .string ⟨r.data.toArray⟩] 26)) := Ext.alloc _ _
        obtain ⟨z0, z1, z2, z3⟩ := (RecAt.new w2 (.slice a2 n2 c2) r).cells
        have A3 := Lib.hid ((HA0.out.ext hE1).ext (Ext.trans hE2 hE3))
        obtain ⟨y0, y1, y2, y3⟩ := A3.out.cells
        have HI2 := Lib.hid (hi2.below hE3)
        have HS := Lib.hid (Rec.same_self r)
        have HV3 := Lib.hid (HV.out.below (((hE0.trans hE1).trans hE2).trans hE3))
        clear hi2
        go_wp2_with fail
        refine (refSame4_any _ _ r r _ HV3.out HI2.out).mono ?_
        rw [HS.out]
        rintro e w3 ⟨rfl, hE4⟩
        have hE := (((hE0.trans hE1).trans hE2).trans hE3).trans hE4
        clear y0 y1 y2 y3 z0 z1 z2 z3
        go_wp2_with fail
        refine (HDEC.out _ (HU.out.below hE)).mono ?_
        rintro e w5 ⟨u5, rfl, hi5, hE5⟩
        obtain ⟨a5, n5, c5, rfl⟩ := hi5.shape
        have hE6 : Ext w5 (w5.alloc (.cells #[.int .i64 D.client, .int .i64 D.number, .slice a5 n5 c5, .string ⟨D.data.toArray⟩] 26)) := Ext.alloc _ _
        have HI6 := Lib.hid (hi5.below hE6)
        clear hi5
        go_wp2_with fail
        refine (encode4_right _ D _ HDR.out HI6.out).mono ?_
        rintro e w7 ⟨u7, rfl, hb7, hE7⟩
        rw [HDE.out] at hb7
        obtain ⟨a7, n7, c7, rfl⟩ := hb7.isSlice
        have HB7 := Lib.hid hb7
        have hEE := ((hE.trans hE5).trans hE6).trans hE7
        clear hb7
        go_wp2_with fail
        refine (recAlive_any _).mono ?_
        rintro e w8 ⟨rfl, hE8⟩
        have hc1 := run_str (P := Try.prog) 27 9 5 Try.underlying27 Try.underlying5 Try.underlying9 (HB7.out.below hE8)
        have hc2 := run_str (P := Try.prog) 27 9 5 Try.underlying27 Try.underlying5 Try.underlying9 (HU.out.below (hEE.trans hE8))
        go_wp2_with fail
        go_ret
        exact ⟨rfl, hEE.trans hE8⟩


    · rw [dec_none hd] at hdec
      generalize decErr4 (Crc.cutOf l) = er at *
      have HDEC := Lib.hid hdec
      have HN := Lib.hid (Rec.same_self noRec)
      clear hdec
      cases hr : Rec.right r with
      | false =>
        have HR := Lib.hid hr
        clear hr
        go_enter Try.func5, Try.ntmps5
        go_wp2_with fail
        refine (encode4_wrong _ r _ HR.out (HV.out.below hE0)).mono ?_
        rintro e w1 ⟨u1, rfl, hb1, hE1⟩
        obtain ⟨a1, n1, c1, rfl⟩ := hb1.isSlice
        have hE := hE0.trans hE1
        clear hb1
        go_wp2_with fail
        refine (HDEC.out _ (HU.out.below hE)).mono ?_
        rintro e w5 ⟨u5, rfl, hi5, hE5⟩
        obtain ⟨a5, n5, c5, rfl⟩ := hi5.shape
        have hE6 : Ext w5 (w5.alloc (.cells #[.int .i64 noRec.client, .int .i64 noRec.number, .slice a5 n5 c5, .string ⟨noRec.data.toArray⟩] 26)) := Ext.alloc _ _
        have HI6 := Lib.hid (hi5.below hE6)
        have X6 := Lib.hid (heap_alloc_new w5 (.cells #[.int .i64 noRec.client, .int .i64 noRec.number, .slice a5 n5 c5, .string ⟨noRec.data.toArray⟩] 26))
        have hEE := (hE.trans hE5).trans hE6
        clear hi5
        go_wp2_with fail
        refine (recAlive_any _).mono ?_
        rintro e w7 ⟨rfl, hE7⟩
        obtain ⟨y0, y1, y2, y3⟩ := cells4 (heap_ext X6.out hE7)
        go_wp2_with fail
        refine (refSame4_any _ _ noRec noRec _ (HI6.out.below hE7) ⟨_, rfl, ints_none _⟩).mono ?_
        rw [HN.out]
        rintro e w8 ⟨rfl, hE8⟩
        go_wp2_with fail
        go_ret
        exact ⟨rfl, (hEE.trans hE7).trans hE8⟩

      | true =>
        have HR := Lib.hid hr
        clear hr
        go_enter Try.func5, Try.ntmps5
        go_wp2_with fail
        refine (encode4_right _ r _ HR.out (HV.out.below hE0)).mono ?_
        rintro e w1 ⟨u1, rfl, hb1, hE1⟩
        obtain ⟨a1, n1, c1, rfl⟩ := hb1.isSlice
        have HB1 := Lib.hid hb1
        clear hb1
        go_wp2_with fail
        refine (decode4_enc _ r _ HR.out HB1.out).mono ?_
        rintro e w2 ⟨u2, rfl, hi2, hE2⟩
        obtain ⟨a2, n2, c2, rfl⟩ := hi2.shape
        have hE3 : Ext w2 (w2.alloc (.cells #[.int .i64 r.client, .int .i64 r.number, .slice a2 n2 c2, .string ⟨r.data.toArray⟩] 26)) := Ext.alloc _ _
        obtain ⟨z0, z1, z2, z3⟩ := (RecAt.new w2 (.slice a2 n2 c2) r).cells
        have A3 := Lib.hid ((HA0.out.ext hE1).ext (Ext.trans hE2 hE3))
        obtain ⟨y0, y1, y2, y3⟩ := A3.out.cells
        have HI2 := Lib.hid (hi2.below hE3)
        have HS := Lib.hid (Rec.same_self r)
        have HV3 := Lib.hid (HV.out.below (((hE0.trans hE1).trans hE2).trans hE3))
        clear hi2
        go_wp2_with fail
        refine (refSame4_any _ _ r r _ HV3.out HI2.out).mono ?_
        rw [HS.out]
        rintro e w3 ⟨rfl, hE4⟩
        have hE := (((hE0.trans hE1).trans hE2).trans hE3).trans hE4
        clear y0 y1 y2 y3 z0 z1 z2 z3
        go_wp2_with fail
        refine (HDEC.out _ (HU.out.below hE)).mono ?_
        rintro e w5 ⟨u5, rfl, hi5, hE5⟩
        obtain ⟨a5, n5, c5, rfl⟩ := hi5.shape
        have hE6 : Ext w5 (w5.alloc (.cells #[.int .i64 noRec.client, .int .i64 noRec.number, .slice a5 n5 c5, .string ⟨noRec.data.toArray⟩] 26)) := Ext.alloc _ _
        have HI6 := Lib.hid (hi5.below hE6)
        have X6 := Lib.hid (heap_alloc_new w5 (.cells #[.int .i64 noRec.client, .int .i64 noRec.number, .slice a5 n5 c5, .string ⟨noRec.data.toArray⟩] 26))
        have hEE := (hE.trans hE5).trans hE6
        clear hi5
        go_wp2_with fail
        refine (recAlive_any _).mono ?_
        rintro e w7 ⟨rfl, hE7⟩
        obtain ⟨y0, y1, y2, y3⟩ := cells4 (heap_ext X6.out hE7)
        go_wp2_with fail
        refine (refSame4_any _ _ noRec noRec _ (HI6.out.below hE7) ⟨_, rfl, ints_none _⟩).mono ?_
        rw [HN.out]
        rintro e w8 ⟨rfl, hE8⟩
        go_wp2_with fail
        go_ret
        exact ⟨rfl, (hEE.trans hE7).trans hE8⟩



namespace recordBack
theorem own : ownKnob Try.prog.godebug = none := by kernel_rfl
theorem laidOut : laidOutB Try.prog = true := by kernel_rfl
set_option linter.unusedVariables false in
set_option maxRecDepth 100000 in
theorem lifted (os : Os) (started : os.Started) (H : Type) (enc : TypeId × Value → H) :
    ReturnsInHanded {} Try.checked os 5 .any (Rows.recordBackSpec.pre6 enc Try.prog Try.f5 Rows.recordBackRow.domain false) (Rows.recordBackSpec.post enc Try.prog Try.f5 false true false false) := by
  refine returnsInHanded_of_change_sized (C := Try.checked) own started (by kernel_rfl) Try.func5
    (ChangeSpec.witness6 (enc := enc) (C := Try.checked) false ⟨#[], #[.agg #[.int .i64 0, .int .i64 0, .slice none 0 0, .string ByteArray.empty], .slice none 0 0], []⟩ 8 (by kernel_rfl) (by kernel_rfl) (by kernel_rfl) (by kernel_rfl)) ?_
  intro W base args ds gs before hval0 hW hcnd hsz _
  have hval : ∀ (j : Nat) t v, Try.f5.params[j]? = some t → args[j]? = some v → Value.okWide Try.prog W .any base t v := hval0
  have hW' := hW
  obtain ⟨p, q, hA0, hV, rfl, hfz, hnd⟩ := hW'
  have hA : DataW.TrodAll enc Try.prog W 0 (fun _ => true) true Try.f5.params.toList args.toList ds p := hA0
  rw [Try.params5] at hA hval
  obtain ⟨v0, vs0, d0, ds0, p0, q0, hargs, rfl, rfl, h0, r0⟩ := trodAll_cons hA
  obtain ⟨v1, vs1, d1, ds1, p1, q1, rfl, rfl, rfl, h1, r1⟩ := trodAll_cons r0
  obtain ⟨rfl, rfl, rfl⟩ := trodAll_nil r1
  obtain rfl : args = #[v0, v1] := by cases args; simp_all
  obtain ⟨rfl, rfl⟩ := trodVars_none hV
  have k0 := h0
  have lt0 : ∀ x ∈ p0, x.block < W.heap.size := by obtain ⟨m, hm⟩ := k0; exact DataW.trod_lt m _ _ _ hm
  obtain ⟨l0, w0⟩ := rec_arg (hval 0 26 v0 rfl rfl) h0
  have k1 := h1
  have lt1 : ∀ x ∈ p1, x.block < W.heap.size := by obtain ⟨m, hm⟩ := k1; exact DataW.trod_lt m _ _ _ hm
  obtain ⟨a1, len1, cap1, rfl⟩ := okWide_slice Try.underlying27 (hval 1 27 v1 rfl rfl)
  obtain ⟨l1, w1⟩ : ∃ l, Bytes W (.slice a1 len1 cap1) l := by
    obtain ⟨fuel, hf⟩ := h1
    obtain ⟨v, l, hcs, hb⟩ := bytes_of_raw Try.underlying27 Try.underlying5 (by kernel_rfl) hf
    simp [Value.cells] at hcs
    subst hcs
    exact ⟨l, hb⟩
  have sz1 : len1 * 1 ≤ 140737488351232 := by obtain ⟨fuel, hf⟩ := h1; exact reach_of_raw (P := Try.prog) (x := (d1, p1)) (j := 1) hsz (by rw [Try.params5]; rfl) rfl Try.underlying27 (by kernel_rfl) hf
  clear hA0 hval0
  refine (recordBack_walk v0 _ l0 l1 W w0 w1).mono fun e W' ⟨he, bel⟩ => ?_
  subst he
  exact ⟨_, rfl, _, _, _, [], _, [], hW, trodAll_mk1 (shut_bool Try.underlying4 _), (trodAll_cons_mk (Below.trod laidOut (by kernel_rfl) (of_decide_eq_true (by kernel_rfl)) k0 bel lt0) (trodAll_cons_mk (Below.trod laidOut (by kernel_rfl) (of_decide_eq_true (by kernel_rfl)) k1 bel lt1) trodAll_mk0)), rfl, bel.frame _, fun h => by cases h⟩
theorem over : Rows.recordBackRow.holds Try.pinned (OpenSpec.ofChange Rows.recordBackSpec) :=
  OpenClaim.holds_of_wide 5 Try.f5 rfl rfl rfl rfl rfl rfl rfl ⟨rfl, rfl, rfl, rfl, rfl⟩ rfl rfl rfl rfl rfl (by kernel_rfl) Try.func5 (by kernel_rfl)
    (of_decide_eq_true (by kernel_rfl)) (by unfold Func.isWrapper; first | (rw [if_pos (by decide +kernel)]; kernel_rfl) | (rw [if_neg (by decide +kernel)]; exact ⟨rfl, rfl⟩))
    (fun os started H enc _ => lifted os started H enc)
theorem proved : Rows.RecordBackSaid := over
end recordBack
end Go.Proofs.Ytjflbjlpibekhaa
