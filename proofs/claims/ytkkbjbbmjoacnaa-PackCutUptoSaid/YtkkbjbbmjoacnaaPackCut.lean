/-
  PackCut: what was written, and cut, is not read to its end: that it is short is told: for every input of bulk at most 1048576 the statement's function returns true, and leaves what came in as it was.
-/
import Derived.Test.YtkkbjbbmjoacnaaPackTake
import Derived.Test.YtkkbjbbmjoacnaaPackRaw
namespace Go.Proofs.Ytkkbjbbmjoacnaa
open Go.ChangeShapes Go.WideShapes Go.ChangeAt Go.RowKit

set_option maxRecDepth 100000 in
set_option maxHeartbeats 8000000 in
theorem packCut_walk (a : Option Addr) (n c : Nat) (ps : List Pack.Part) (j : Int) (W : World) (h0 : Parts W (.slice a n c) ps) (hm0 : Pack.mass ps ≤ 1048576) :
    Calls Try.prog 13 #[.slice a n c, .int .i64 j] W fun e W' => e = .returned (.bool true) ∧ Below W.heap.size W W' := by
  have HP := Lib.hid h0
  obtain ⟨aa, cc, e', hpc, hcm, _, _⟩ := h0
  injection e' with e1 e2 e3
  subst e1 e2 e3
  unfold maxLen at hcm
  cases hg : Pack.allGood ps with
  | false =>
    have HG := Lib.hid hg
    clear hg
    go_enter Try.func13, Try.ntmps13
    go_wp2_with fail
    refine (write_any _ ps _ HP.out (by omega)).mono ?_
    rintro e w1 ⟨a1, n1, c1, rfl, ho1, hb1⟩
    rw [HG.out]
    go_wp2_with fail
    refine (packAlive_any _).mono ?_
    rintro e w2 ⟨rfl, hb2⟩
    go_wp2_with fail
    go_ret
    exact ⟨rfl, hb1.trans hb2⟩
  | true =>
    have HG := Lib.hid hg
    clear hg
    by_cases hf : Pack.mass ps ≤ 20000
    · have hfd := decide_eq_true hf
      have HF := Lib.hid hfd
      clear hfd hf
      have hneg : j < 0 ∨ (¬ j < 0 ∧ (((Pack.written ps).length : Nat) : Int) ≤ j) ∨ (¬ j < 0 ∧ ¬ (((Pack.written ps).length : Nat) : Int) ≤ j) := by omega
      rcases hneg with p1 | ⟨p1, p2⟩ | ⟨p1, p2⟩
      · go_enter Try.func13, Try.ntmps13
        go_wp2_with fail
        refine (write_any _ ps _ HP.out (by omega)).mono ?_
        rintro e w1 ⟨a1, n1, c1, rfl, ho1, hb1⟩
        rw [HG.out]
        go_wp2_with fail
        refine (few_any _ ps _ (HP.out.below hb1) (by omega)).mono ?_
        rintro e w2 ⟨rfl, hb2⟩
        rw [HF.out]
        go_wp2_with fail
        refine (packAlive_any _).mono ?_
        rintro e w3 ⟨rfl, hb3⟩
        go_wp2_with fail
        go_ret
        exact ⟨rfl, (hb1.trans hb2).trans hb3⟩
      · go_enter Try.func13, Try.ntmps13
        go_wp2_with fail
        refine (write_any _ ps _ HP.out (by omega)).mono ?_
        rintro e w1 ⟨a1, n1, c1, rfl, ho1, hb1⟩
        obtain ⟨hn1, _, _⟩ := ho1.bytes.len
        subst hn1
        rw [HG.out]
        go_wp2_with fail
        refine (few_any _ ps _ (HP.out.below hb1) (by omega)).mono ?_
        rintro e w2 ⟨rfl, hb2⟩
        rw [HF.out]
        go_wp2_with fail
        refine (packAlive_any _).mono ?_
        rintro e w3 ⟨rfl, hb3⟩
        go_wp2_with fail
        go_ret
        exact ⟨rfl, (hb1.trans hb2).trans hb3⟩
      · obtain ⟨i, rfl⟩ : ∃ i : Nat, j = (i : Int) := ⟨j.toNat, by omega⟩
        have hwl : (Pack.written ps).length ≤ 60000000 := by
          have := bytes_of_take ps ps.length (by omega)
          rwa [List.take_length] at this
        go_enter Try.func13, Try.ntmps13
        go_wp2_with fail
        refine (write_any _ ps _ HP.out (by omega)).mono ?_
        rintro e w1 ⟨a1, n1, c1, rfl, ho1, hb1⟩
        obtain ⟨hn1, hnc1, _⟩ := ho1.bytes.len
        subst hn1
        rw [HG.out]
        go_wp2_with fail
        refine (few_any _ ps _ (HP.out.below hb1) (by omega)).mono ?_
        rintro e w2 ⟨rfl, hb2⟩
        rw [HF.out]
        have hE2 : Ext W w2 := hb1.trans hb2
        have hby2 : Bytes w2 (.slice a1 i c1) ((Pack.written ps).take i) := (ho1.bytes.below hb2).take i (by omega)
        have hsl := fun w' : World => run_sl_to (P := Try.prog) (w := w') Try.underlying22 (by kernel_rfl) (a := a1) (n := (Pack.written ps).length) (cap := c1) i (by omega) .i64
        clear ho1
        go_wp2_with fail
        refine (newReader_any _ _ _ hby2 (by rw [List.length_take]; omega)).mono ?_
        rintro e w4 ⟨p, rfl, hp, hr4, hb4⟩
        have hE4 := hE2.trans hb4
        have hpW : W.heap.size ≤ p := Nat.le_trans hE2.size hp
        clear hby2 hb4 hE2 hb1 hb2 hp hsl
        go_wp2_with fail
        go_loopw [9, 41] (fun _ x wr => ∃ k : Nat, k ≤ ps.length ∧ x = .int .i64 k ∧ Hid (RD wr p (Pack.St.parts ⟨(Pack.written ps).take i, 0⟩ (ps.take k))) ∧ Ext W wr) (fun _ x _ => ps.length - (intOf x).toNat)
        case atStart => exact ⟨0, by omega, rfl, hr4, hE4⟩
        case round =>
          obtain ⟨k, hk, rfl, hr, hbr⟩ := hrel
          clear hr4 hE4
          by_cases hlt : k < ps.length
          · obtain ⟨a', cap', e', _, _, _, hc⟩ := (HP.out.below hbr)
            obtain ⟨q, off, rfl, hcell⟩ := hc k hlt
            injection e' with e1 e2 e3
            subst e1
            obtain ⟨p0, p1, p2, p3, p4⟩ := hcell
            have hsnoc : Pack.St.parts ⟨(Pack.written ps).take i, 0⟩ (ps.take (k + 1)) = ((Pack.St.parts ⟨(Pack.written ps).take i, 0⟩ (ps.take k)).part ps[k].full).1 := by
              rw [take_succ_getD ps k hlt, Pack.parts_snoc]
            have HS := Lib.hid hsnoc
            clear hc e2 e3 hsnoc
            generalize ps[k] = P at *
            have hrd := hr.out
            have hread := fun w' hE => read_any p _ P.full w' (hrd.ext hE)
            rw [← HS.out] at hread
            clear hr
            generalize (Pack.St.part (Pack.St.parts ⟨(Pack.written ps).take i, 0⟩ (ps.take k)) P.full).2 = Q at hread
            have hplt := hrd.lt
            have hbw := hbr.size
            have step : ∀ (o : Obj) (w5 : World), But p (wr.alloc o) w5 → Ext W w5 := fun o w5 hb =>
              Below.trans (B := W.heap.size) (hbr.trans (Ext.alloc _ _)) (hb.below hpW (by rw [World.size_alloc]; omega))
            obtain ⟨K, N, M, S, I⟩ := P
            simp only [Pack.Part.full, partVal] at hread p0 p1 p2 p3 p4
            go_wp2_with fail
            refine (hread _ (Ext.alloc _ _)).mono ?_
            rintro e w5 ⟨rfl, hB5, hr5⟩
            have hE5 := step _ _ hB5
            clear hread step HS
            go_wp2_with fail
            go_roundw
            case rel => exact ⟨k + 1, by omega, by go_num, hr5, hE5⟩
            case measure => simp [intOf]; omega
          · have hk' : k = ps.length := by omega
            subst hk'
            have hr6 : RD wr p ⟨[], 20⟩ := by
              have := hr.out
              rwa [List.take_length, Pack.parts_cut ps i HG.out (by omega)] at this
            clear hr
            go_wp2_with fail
            refine (packAlive_any _).mono ?_
            rintro e w7 ⟨rfl, hb7⟩
            have hr7 := hr6.ext hb7
            go_wp2_with fail
            refine (err_any p _ _ hr7).mono ?_
            rintro e w8 ⟨rfl, rfl⟩
            go_wp2_with fail
            go_ret
            exact ⟨rfl, hbr.trans hb7⟩
    · have hfd := decide_eq_false hf
      have HF := Lib.hid hfd
      clear hfd hf
      go_enter Try.func13, Try.ntmps13
      go_wp2_with fail
      refine (write_any _ ps _ HP.out (by omega)).mono ?_
      rintro e w1 ⟨a1, n1, c1, rfl, ho1, hb1⟩
      rw [HG.out]
      go_wp2_with fail
      refine (few_any _ ps _ (HP.out.below hb1) (by omega)).mono ?_
      rintro e w2 ⟨rfl, hb2⟩
      rw [HF.out]
      go_wp2_with fail
      refine (packAlive_any _).mono ?_
      rintro e w3 ⟨rfl, hb3⟩
      go_wp2_with fail
      go_ret
      exact ⟨rfl, (hb1.trans hb2).trans hb3⟩

namespace packCutUpto
theorem own : ownKnob Try.prog.godebug = none := by kernel_rfl
theorem laidOut : laidOutB Try.prog = true := by kernel_rfl
set_option linter.unusedVariables false in
set_option maxRecDepth 100000 in
theorem lifted (os : Os) (started : os.Started) (H : Type) (enc : TypeId × Value → H) (F : Stop.Interp) :
    ReturnsInHanded {} Try.checked os 13 .any ((Rows.OpenSpec.upto Rows.packCutSpec).pre6 enc Try.prog Try.f13 Rows.packCutUptoRow.domain false) (((Rows.OpenSpec.upto Rows.packCutSpec).at F).post enc Try.prog Try.f13 false true false false) := by
  refine returnsInHanded_of_cond (C := Try.checked) (s := (Rows.OpenSpec.upto Rows.packCutSpec)) (k := Rows.uptoSmall) rfl own started (by kernel_rfl) Try.func13
    (OpenSpec.witness (enc := enc) (C := Try.checked) (s := (Rows.OpenSpec.upto Rows.packCutSpec)) (k := Rows.uptoSmall) rfl false ⟨#[], #[.slice none 0 0, .int .i64 0], []⟩ 8 (by kernel_rfl) (by kernel_rfl) (by kernel_rfl)
      (x := ([.nil, .lit (.int .i64 0)], [], [])) (by kernel_rfl) rfl (by kernel_rfl)) ?_
  intro W base args ds gs before hval0 hW hcnd hbulk0 _
  have hval : ∀ (j : Nat) t v, Try.f13.params[j]? = some t → args[j]? = some v → Value.okWide Try.prog W .any base t v := hval0
  have hW' := hW
  obtain ⟨p, q, hA0, hV, rfl, hfz, hnd⟩ := hW'
  have hA : DataW.TrodAll enc Try.prog W 0 (fun _ => true) true Try.f13.params.toList args.toList ds p := hA0
  rw [Try.params13] at hA hval
  obtain ⟨v0, vs0, d0, ds0, p0, q0, hargs, rfl, rfl, h0, r0⟩ := trodAll_cons hA
  obtain ⟨v1, vs1, d1, ds1, p1, q1, rfl, rfl, rfl, h1, r1⟩ := trodAll_cons r0
  obtain ⟨rfl, rfl, rfl⟩ := trodAll_nil r1
  obtain rfl : args = #[v0, v1] := by cases args; simp_all
  obtain ⟨rfl, rfl⟩ := trodVars_none hV
  have hbulk : Rows.uptoBulkAll [d0, d1] ≤ 1048576 := of_decide_eq_true hbulk0
  simp only [Rows.uptoBulkAll] at hbulk
  have k0 := h0
  have lt0 : ∀ x ∈ p0, x.block < W.heap.size := by obtain ⟨m, hm⟩ := k0; exact DataW.trod_lt m _ _ _ hm
  obtain ⟨a0, len0, cap0, rfl⟩ := okWide_slice Try.underlying42 (hval 0 42 v0 rfl rfl)
  obtain ⟨l0, w0, sz0⟩ : ∃ l, Parts W (.slice a0 len0 cap0) l ∧ Pack.mass l ≤ Rows.uptoBulk d0 := by
    obtain ⟨fuel, hf⟩ := h0
    obtain ⟨v, l, hcs, hb, hm⟩ := parts_of_raw hf
    simp [Value.cells] at hcs
    subst hcs
    exact ⟨l, hb, hm⟩
  have k1 := h1
  have lt1 : ∀ x ∈ p1, x.block < W.heap.size := by obtain ⟨m, hm⟩ := k1; exact DataW.trod_lt m _ _ _ hm
  obtain ⟨a1, rfl, _, _, w1⟩ := open_int Try.underlying3 (hval 1 3 v1 rfl rfl) h1
  clear hA0 hval0
  refine (packCut_walk a0 len0 cap0 l0 a1 W w0 (by omega)).mono fun e W' ⟨he, bel⟩ => ?_
  subst he
  exact ⟨_, rfl, _, _, _, [], _, [], hW, trodAll_mk1 (shut_bool Try.underlying4 _), (trodAll_cons_mk (Below.trod laidOut (by kernel_rfl) (of_decide_eq_true (by kernel_rfl)) k0 bel lt0) (trodAll_cons_mk (Below.trod laidOut (by kernel_rfl) (of_decide_eq_true (by kernel_rfl)) k1 bel lt1) trodAll_mk0)), rfl, bel.frame _, fun h => by cases h⟩
theorem over : Rows.packCutUptoRow.holds Try.pinned (Rows.OpenSpec.upto Rows.packCutSpec) :=
  OpenClaim.holds_of_cond 13 Try.f13 rfl rfl rfl rfl rfl rfl rfl ⟨rfl, rfl, rfl, rfl, rfl⟩ rfl rfl rfl rfl rfl (by kernel_rfl) Try.func13 (by kernel_rfl)
    (of_decide_eq_true (by kernel_rfl)) (by unfold Func.isWrapper; first | (rw [if_pos (by decide +kernel)]; kernel_rfl) | (rw [if_neg (by decide +kernel)]; exact ⟨rfl, rfl⟩))
    (fun os started H enc _ F => lifted os started H enc F)
theorem proved : Rows.PackCutUptoSaid := over
end packCutUpto
end Go.Proofs.Ytkkbjbbmjoacnaa
