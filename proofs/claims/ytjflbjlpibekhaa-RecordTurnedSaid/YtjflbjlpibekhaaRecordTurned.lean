/-
  RecordTurned: a record's bytes of which one is another one are refused: for every input the statement's function returns true, and leaves what came in as it was.
-/
import Derived.Test.YtjflbjlpibekhaaRecRaw
import Derived.Test.YtjflbjlpibekhaaRecEnc
import Derived.Test.YtjflbjlpibekhaaCrcSet
import Derived.Laws.OwnMore
import Derived.Laws.BitsAllLaws
namespace Go.Proofs.Ytjflbjlpibekhaa
set_option maxRecDepth 100000
open Go.ChangeShapes Go.WideShapes Go.ChangeAt Go.RowKit

theorem u8s_set4 (l : List UInt8) (k : Nat) (x : UInt8) : u8s (l.set k x) = (u8s l).set k (.int .u8 (x.toNat : Int)) := by simp [u8s, List.map_set]
theorem xor_other (a t : UInt8) (h : t ≠ 0) : a ^^^ t ≠ a := by
  intro e
  apply h
  have : a ^^^ (a ^^^ t) = a ^^^ a := by rw [e]
  rwa [← UInt8.xor_assoc, UInt8.xor_self, UInt8.zero_xor] at this

set_option maxHeartbeats 8000000 in
theorem recordTurned_walk (v : Value) (r : Rec.R) (at' turn : Int) (W : World) (hv : IsRec W v r) :
    Calls Try.prog 6 #[v, .int .i64 at', .int .i64 turn] W fun e W' => e = .returned (.bool true) ∧ Below W.heap.size W W' := by
  have hbx := box_rec
  have hb0 := build_rec0
  have HV := Lib.hid hv
  obtain ⟨a, m, c, rfl⟩ := hv.shape
  clear hv
  have hE0 : Ext W (W.alloc (.cells #[.int .i64 r.client, .int .i64 r.number, .slice a m c, .string ⟨r.data.toArray⟩] 26)) := Ext.alloc _ _
  cases hr : Rec.right r with
  | false =>
    have HR := Lib.hid hr
    clear hr
    go_enter Try.func6, Try.ntmps6
    go_wp2_with fail
    refine (encode4_wrong _ r _ HR.out (HV.out.below hE0)).mono ?_
    rintro e w1 ⟨u1, rfl, hb1, hE1⟩
    obtain ⟨a1, n1, c1, rfl⟩ := hb1.isSlice
    clear hb1
    go_wp2_with fail
    refine (recAlive_any _).mono ?_
    rintro e w5 ⟨rfl, hE5⟩
    go_wp2_with fail
    go_ret
    exact ⟨rfl, (hE0.trans hE1).trans hE5⟩

  | true =>
    have hcut := fun k x hk hx => Crc.cut_set (Rec.text r) k x hk hx
    rw [show Rec.text r ++ Crc.low (Crc.sum (Rec.text r)) = Rec.enc r from rfl] at hcut
    have hle := Rec.enc_le hr
    have HR := Lib.hid hr
    clear hr
    obtain ⟨L, hLL⟩ : ∃ L, Rec.enc r = L := ⟨_, rfl⟩
    rw [hLL] at hcut hle
    have HLL := Lib.hid hLL
    clear hLL
    obtain ⟨N, hN⟩ : ∃ N, L.length = N := ⟨_, rfl⟩
    have HL := Lib.hid (show (Rec.enc r).length = N by rw [HLL.out, hN])
    have HN := Lib.hid hN
    have HCUT := Lib.hid hcut
    clear hcut
    by_cases h1 : at' < 0
    · clear hN
      go_enter Try.func6, Try.ntmps6
      go_wp2_with fail
      refine (encode4_own _ r _ HR.out (HV.out.below hE0)).mono ?_
      rintro e w1 ⟨u1, rfl, ho1, hE1⟩
      obtain ⟨a1, n1, c1, rfl⟩ := ho1.isSlice
      have hn1 := ho1.bytes.len.1
      rw [HL.out] at hn1
      have hn1 := hn1.symm
      subst hn1
      clear ho1
      go_wp2_with fail
      refine (recAlive_any _).mono ?_
      rintro e w5 ⟨rfl, hE5⟩
      go_wp2_with fail
      go_ret
      exact ⟨rfl, (hE0.trans hE1).trans hE5⟩

    by_cases h2 : (N : Int) ≤ at'
    · clear hN
      go_enter Try.func6, Try.ntmps6
      go_wp2_with fail
      refine (encode4_own _ r _ HR.out (HV.out.below hE0)).mono ?_
      rintro e w1 ⟨u1, rfl, ho1, hE1⟩
      obtain ⟨a1, n1, c1, rfl⟩ := ho1.isSlice
      have hn1 := ho1.bytes.len.1
      rw [HL.out] at hn1
      have hn1 := hn1.symm
      subst hn1
      clear ho1
      go_wp2_with fail
      refine (recAlive_any _).mono ?_
      rintro e w5 ⟨rfl, hE5⟩
      go_wp2_with fail
      go_ret
      exact ⟨rfl, (hE0.trans hE1).trans hE5⟩

    by_cases h3 : turn < 1
    · clear hN
      go_enter Try.func6, Try.ntmps6
      go_wp2_with fail
      refine (encode4_own _ r _ HR.out (HV.out.below hE0)).mono ?_
      rintro e w1 ⟨u1, rfl, ho1, hE1⟩
      obtain ⟨a1, n1, c1, rfl⟩ := ho1.isSlice
      have hn1 := ho1.bytes.len.1
      rw [HL.out] at hn1
      have hn1 := hn1.symm
      subst hn1
      clear ho1
      go_wp2_with fail
      refine (recAlive_any _).mono ?_
      rintro e w5 ⟨rfl, hE5⟩
      go_wp2_with fail
      go_ret
      exact ⟨rfl, (hE0.trans hE1).trans hE5⟩

    by_cases h4 : (255 : Int) < turn
    · clear hN
      go_enter Try.func6, Try.ntmps6
      go_wp2_with fail
      refine (encode4_own _ r _ HR.out (HV.out.below hE0)).mono ?_
      rintro e w1 ⟨u1, rfl, ho1, hE1⟩
      obtain ⟨a1, n1, c1, rfl⟩ := ho1.isSlice
      have hn1 := ho1.bytes.len.1
      rw [HL.out] at hn1
      have hn1 := hn1.symm
      subst hn1
      clear ho1
      go_wp2_with fail
      refine (recAlive_any _).mono ?_
      rintro e w5 ⟨rfl, hE5⟩
      go_wp2_with fail
      go_ret
      exact ⟨rfl, (hE0.trans hE1).trans hE5⟩

    rw [hN] at hle
    clear hN
    obtain ⟨k, rfl⟩ : ∃ k : Nat, at' = (k : Int) := ⟨at'.toNat, by omega⟩
    obtain ⟨t, ht, htn⟩ : ∃ t : UInt8, turn = (t.toNat : Int) ∧ t ≠ 0 := by
      refine ⟨UInt8.ofNat turn.toNat, ?_, ?_⟩
      · rw [u8_ofNat]; omega
      · intro e
        have := congrArg UInt8.toNat e
        simp at this
        omega
    subst ht
    have hk : k < N := by omega
    have hkL : k < L.length := by rw [HN.out]; exact hk
    go_enter Try.func6, Try.ntmps6
    go_wp2_with fail
    refine (encode4_own _ r _ HR.out (HV.out.below hE0)).mono ?_
    rintro e w1 ⟨u1, rfl, ho1, hE1⟩
    obtain ⟨a1, n1, c1, rfl⟩ := ho1.isSlice
    have hn1 := ho1.bytes.len.1
    rw [HL.out] at hn1
    have hn1 := hn1.symm
    subst hn1
    have HO := Lib.hid ho1
    clear ho1

    obtain ⟨g, cap, e1⟩ : ∃ g cap, Value.slice a1 N c1 = .slice (some ⟨g, 0, none⟩) N cap := by
      rcases HO.out.2 with ⟨_, h0⟩ | ⟨g, cap, _, h, _⟩
      · rw [HL.out] at h0; omega
      · rw [HL.out] at h; exact ⟨g, cap, h⟩
    injection e1 with e1 _ e2
    subst e1 e2
    have hown : w1.ownsRow (W.heap.size + 1) 5 1 (.slice (some ⟨g, 0, none⟩) N c1) N (u8s L) := by
      have := HO.out
      unfold Own at this
      rw [HL.out, HLL.out, World.size_alloc] at this
      exact this
    have hgg := hown.lt g rfl
    have hcell : w1.cell? ⟨g, k, none⟩ = some (.int .u8 (L[k].toNat : Int)) := by
      rw [hown.cellAt k (by omega)]
      simp [u8s, hkL]
    have hfz := hown.frozenAt k
    obtain ⟨x, hx⟩ : ∃ x, L[k] ^^^ t = x := ⟨_, rfl⟩
    have hbit : bits .xor .u8 (L[k].toNat : Int) (t.toNat : Int) = (x.toNat : Int) := by
      rw [u8_xor_nat _ _ (UInt8.toNat_lt _) (UInt8.toNat_lt _), ← hx, UInt8.toNat_xor]
    have hnat : ((L[k].toNat ^^^ t.toNat : Nat) : Int) = (x.toNat : Int) := by rw [← hx, UInt8.toNat_xor]
    have hwr : IntKind.u8.wrap (t.toNat : Int) = (t.toNat : Int) := by
      rw [IntKind.wrap_u8']
      have := t.toNat_lt
      omega
    have hxo : x ≠ L[k] := by rw [← hx]; exact xor_other _ _ htn
    have hcn := HCUT.out k x hkL hxo
    have HST := Lib.hid (hown.stored k (.int .u8 (x.toNat : Int))).1
    have HCN := Lib.hid hcn
    have hlen : (L.set k x).length ≤ 200000 := by rw [List.length_set, HN.out]; omega
    have E2 : Ext W (w1.setCell ⟨g, k, none⟩ (.int .u8 (x.toNat : Int))) := Below.setCell (hE0.trans hE1) (p := ⟨g, k, none⟩) (by show W.heap.size ≤ g; omega) _
    clear hown hx hcn hxo
    have hby : Bytes (w1.setCell ⟨g, k, none⟩ (.int .u8 (x.toNat : Int))) (.slice (some ⟨g, 0, none⟩) N c1) (L.set k x) := by
      unfold Bytes
      rw [u8s_set4]
      exact Sl.ofOwn HST.out
    have HBY := Lib.hid hby
    clear hby
    go_wp2_with fail
    generalize hw2 : w1.setCell ⟨g, k, none⟩ (.int .u8 (x.toNat : Int)) = w2 at *
    clear hw2 HST hcell hfz
    refine (decode4_none _ (L.set k x) _ HCN.out hlen HBY.out).mono ?_
    rintro e w5 ⟨u5, rfl, hi5, hE5⟩
    obtain ⟨a5, n5, c5, rfl⟩ := hi5.shape
    have hE6 : Ext w5 (w5.alloc (.cells #[.int .i64 noRec.client, .int .i64 noRec.number, .slice a5 n5 c5, .string ⟨noRec.data.toArray⟩] 26)) := Ext.alloc _ _
    have HI6 := Lib.hid (hi5.below hE6)
    have X6 := Lib.hid (heap_alloc_new w5 (.cells #[.int .i64 noRec.client, .int .i64 noRec.number, .slice a5 n5 c5, .string ⟨noRec.data.toArray⟩] 26))
    have hEE := (Ext.trans E2 hE5).trans hE6
    have HNR := Lib.hid (Rec.same_self noRec)
    clear hi5
    go_wp2_with fail
    refine (recAlive_any _).mono ?_
    rintro e w7 ⟨rfl, hE7⟩
    obtain ⟨y0, y1, y2, y3⟩ := cells4 (heap_ext X6.out hE7)
    go_wp2_with fail
    refine (refSame4_any _ _ noRec noRec _ (HI6.out.below hE7) ⟨_, rfl, ints_none _⟩).mono ?_
    rw [HNR.out]
    rintro e w8 ⟨rfl, hE8⟩
    go_wp2_with fail
    go_ret
    exact ⟨rfl, (hEE.trans hE7).trans hE8⟩

namespace recordTurned
theorem own : ownKnob Try.prog.godebug = none := by kernel_rfl
theorem laidOut : laidOutB Try.prog = true := by kernel_rfl
set_option linter.unusedVariables false in
set_option maxRecDepth 100000 in
theorem lifted (os : Os) (started : os.Started) (H : Type) (enc : TypeId × Value → H) :
    ReturnsInHanded {} Try.checked os 6 .any (Rows.recordTurnedSpec.pre6 enc Try.prog Try.f6 Rows.recordTurnedRow.domain false) (Rows.recordTurnedSpec.post enc Try.prog Try.f6 false true false false) := by
  refine returnsInHanded_of_change_sized (C := Try.checked) own started (by kernel_rfl) Try.func6
    (ChangeSpec.witness6 (enc := enc) (C := Try.checked) false ⟨#[], #[.agg #[.int .i64 0, .int .i64 0, .slice none 0 0, .string ByteArray.empty], .int .i64 0, .int .i64 0], []⟩ 8 (by kernel_rfl) (by kernel_rfl) (by kernel_rfl) (by kernel_rfl)) ?_
  intro W base args ds gs before hval0 hW hcnd hsz _
  have hval : ∀ (j : Nat) t v, Try.f6.params[j]? = some t → args[j]? = some v → Value.okWide Try.prog W .any base t v := hval0
  have hW' := hW
  obtain ⟨p, q, hA0, hV, rfl, hfz, hnd⟩ := hW'
  have hA : DataW.TrodAll enc Try.prog W 0 (fun _ => true) true Try.f6.params.toList args.toList ds p := hA0
  rw [Try.params6] at hA hval
  obtain ⟨v0, vs0, d0, ds0, p0, q0, hargs, rfl, rfl, h0, r0⟩ := trodAll_cons hA
  obtain ⟨v1, vs1, d1, ds1, p1, q1, rfl, rfl, rfl, h1, r1⟩ := trodAll_cons r0
  obtain ⟨v2, vs2, d2, ds2, p2, q2, rfl, rfl, rfl, h2, r2⟩ := trodAll_cons r1
  obtain ⟨rfl, rfl, rfl⟩ := trodAll_nil r2
  obtain rfl : args = #[v0, v1, v2] := by cases args; simp_all
  obtain ⟨rfl, rfl⟩ := trodVars_none hV
  have k0 := h0
  have lt0 : ∀ x ∈ p0, x.block < W.heap.size := by obtain ⟨m, hm⟩ := k0; exact DataW.trod_lt m _ _ _ hm
  obtain ⟨l0, w0⟩ := rec_arg (hval 0 26 v0 rfl rfl) h0
  have k1 := h1
  have lt1 : ∀ x ∈ p1, x.block < W.heap.size := by obtain ⟨m, hm⟩ := k1; exact DataW.trod_lt m _ _ _ hm
  obtain ⟨a1, rfl, _, _, w1⟩ := open_int Try.underlying3 (hval 1 3 v1 rfl rfl) h1
  have k2 := h2
  have lt2 : ∀ x ∈ p2, x.block < W.heap.size := by obtain ⟨m, hm⟩ := k2; exact DataW.trod_lt m _ _ _ hm
  obtain ⟨a2, rfl, _, _, w2⟩ := open_int Try.underlying3 (hval 2 3 v2 rfl rfl) h2
  clear hA0 hval0
  refine (recordTurned_walk v0 l0 a1 a2 W w0).mono fun e W' ⟨he, bel⟩ => ?_
  subst he
  exact ⟨_, rfl, _, _, _, [], _, [], hW, trodAll_mk1 (shut_bool Try.underlying4 _), (trodAll_cons_mk (Below.trod laidOut (by kernel_rfl) (of_decide_eq_true (by kernel_rfl)) k0 bel lt0) (trodAll_cons_mk (Below.trod laidOut (by kernel_rfl) (of_decide_eq_true (by kernel_rfl)) k1 bel lt1) (trodAll_cons_mk (Below.trod laidOut (by kernel_rfl) (of_decide_eq_true (by kernel_rfl)) k2 bel lt2) trodAll_mk0))), rfl, bel.frame _, fun h => by cases h⟩
theorem over : Rows.recordTurnedRow.holds Try.pinned (OpenSpec.ofChange Rows.recordTurnedSpec) :=
  OpenClaim.holds_of_wide 6 Try.f6 rfl rfl rfl rfl rfl rfl rfl ⟨rfl, rfl, rfl, rfl, rfl⟩ rfl rfl rfl rfl rfl (by kernel_rfl) Try.func6 (by kernel_rfl)
    (of_decide_eq_true (by kernel_rfl)) (by unfold Func.isWrapper; first | (rw [if_pos (by decide +kernel)]; kernel_rfl) | (rw [if_neg (by decide +kernel)]; exact ⟨rfl, rfl⟩))
    (fun os started H enc _ => lifted os started H enc)
theorem proved : Rows.RecordTurnedSaid := over
end recordTurned
end Go.Proofs.Ytjflbjlpibekhaa
