/-
  PackBack: what was written is read as it was, with whatever behind it: for every input of bulk at most 1048576 the statement's function returns true, and leaves what came in as it was.
-/
import Derived.Test.YtkkbjbbmjoacnaaPackTake
import Derived.Test.YtkkbjbbmjoacnaaPackRaw
namespace Go.Proofs.Ytkkbjbbmjoacnaa
open Go.ChangeShapes Go.WideShapes Go.ChangeAt Go.RowKit

theorem written_drop (ps : List Pack.Part) (k : Nat) (hk : k < ps.length) : Pack.written (ps.drop k) = ps[k].bytes ++ Pack.written (ps.drop (k + 1)) := by
  rw [List.drop_eq_getElem_cons hk, Pack.written_cons]
theorem good_at (ps : List Pack.Part) (k : Nat) (hk : k < ps.length) (h : Pack.allGood ps = true) : ps[k].good = true := (List.all_eq_true.1 h) _ (List.getElem_mem hk)

theorem later_cell {w : World} {p : Nat} {cs : Array Value} {T : TypeId} {fr : Nat × Nat} (h : w.heap[p]? = some (.cells cs T fr)) (i : Nat) (o : Obj) : (w.alloc o).cell? ⟨p, i, none⟩ = cs[i]? :=
  cell_of_heap (w := w.alloc o) (by rw [Below.heap_alloc _ _ _ (Array.getElem?_eq_some_iff.1 h).1]; exact h) i
set_option maxRecDepth 100000 in
set_option maxHeartbeats 8000000 in
theorem packBack_walk (a b : Option Addr) (n c m d : Nat) (ps : List Pack.Part) (l : List UInt8) (W : World) (h0 : Parts W (.slice a n c) ps) (h1 : Bytes W (.slice b m d) l) (hm0 : Pack.mass ps ≤ 1048576) (hm1 : m ≤ 1048576) :
    Calls Try.prog 12 #[.slice a n c, .slice b m d] W fun e W' => e = .returned (.bool true) ∧ Below W.heap.size W W' := by
  have HP := Lib.hid h0
  have HL := Lib.hid h1
  obtain ⟨hml, hmd, hd⟩ := h1.len
  obtain ⟨aa, cc, e', hpc, hcm, _, _⟩ := h0
  injection e' with e1 e2 e3
  subst e1 e2 e3
  unfold maxLen at hcm
  subst hml
  cases hg : Pack.allGood ps with
  | false =>
    have HG := Lib.hid hg
    clear hg h1
    go_enter Try.func12, Try.ntmps12
    go_wp2_with fail
    refine (write_any _ ps _ HP.out (by omega)).mono ?_
    rintro e w1 ⟨a1, n1, c1, rfl, ho1, hb1⟩
    rw [HG.out]
    go_wp2_with fail
    refine (packAlive_any _).mono ?_
    rintro e w2 ⟨rfl, hb2⟩
    go_wp2_with fail
    go_ret
    exact ⟨rfl, hb1.trans hb2⟩
  | true =>
    have HG := Lib.hid hg
    clear hg h1
    by_cases hf : Pack.mass ps ≤ 20000
    · by_cases hmore : (20000 : Int) < (l.length : Int)
      · have hfd := decide_eq_true hf
        have HF := Lib.hid hfd
        clear hfd hf
        go_enter Try.func12, Try.ntmps12
        go_wp2_with fail
        refine (write_any _ ps _ HP.out (by omega)).mono ?_
        rintro e w1 ⟨a1, n1, c1, rfl, ho1, hb1⟩
        rw [HG.out]
        go_wp2_with fail
        refine (few_any _ ps _ (HP.out.below hb1) (by omega)).mono ?_
        rintro e w2 ⟨rfl, hb2⟩
        rw [HF.out]
        go_wp2_with fail
        refine (packAlive_any _).mono ?_
        rintro e w3 ⟨rfl, hb3⟩
        go_wp2_with fail
        go_ret
        exact ⟨rfl, (hb1.trans hb2).trans hb3⟩
      · have hfd := decide_eq_true hf
        have HF := Lib.hid hfd
        have hwl : (Pack.written ps).length ≤ 60000000 := by
          have := bytes_of_take ps ps.length (by omega)
          rwa [List.take_length] at this
        have hu := u8s_one l
        have hc1 : (Pack.written ps).length + (u8s l).length ≤ maxLen := by simp only [u8s_length]; unfold maxLen; omega
        have hc2 : ((Pack.written ps).length + (u8s l).length) * 1 ≤ 140737488355328 := by simp only [u8s_length]; omega
        clear hfd hf
        go_enter Try.func12, Try.ntmps12
        go_wp2_with fail
        refine (write_any _ ps _ HP.out (by omega)).mono ?_
        rintro e w1 ⟨a1, n1, c1, rfl, ho1, hb1⟩
        rw [HG.out]
        go_wp2_with fail
        refine (few_any _ ps _ (HP.out.below hb1) (by omega)).mono ?_
        rintro e w2 ⟨rfl, hb2⟩
        rw [HF.out]
        have hE2 : Ext W w2 := hb1.trans hb2
        have ho2 : w2.ownsRow W.heap.size 5 1 (.slice a1 n1 c1) (Pack.written ps).length (u8s (Pack.written ps)) := ho1.ext hb2
        have hl2 : Sl w2 (.slice b l.length d) (u8s l) := HL.out.below hE2
        have hz2 := hE2.size
        go_wp2_with (first | (at_builtin; refine wpList_app rfl (.tmp 29) (.tmp 30) tB8 rfl rfl rfl ho2 hl2 hu hc1 hc2 hz2 ?_; intro v3 w3 hown3 hg3; have hE3 : Ext W w3 := Below.grown hE2 hg3 hz2 (fun k hk => (ho2.lt k hk).1)))
        have hby3 : Bytes w3 v3 (Pack.written ps ++ l) := by
          have := Sl.ofOwn hown3
          simpa [Bytes] using this
        obtain ⟨a3, n3, c3, rfl⟩ := hby3.isSlice
        clear hown3 ho2 hl2 hg3 hc1 hc2 hu ho1
        refine (newReader_any _ _ _ hby3 (by rw [List.length_append]; omega)).mono ?_
        rintro e w4 ⟨p, rfl, hp, hr4, hb4⟩
        have hE4 := hE3.trans hb4
        have hpW : W.heap.size ≤ p := Nat.le_trans hE3.size hp
        clear hby3 hb4 hE3 hE2 hb1 hb2 hz2 hp
        go_wp2_with fail
        go_loopw [9, 10, 37] (fun _ _ i wr => ∃ k : Nat, k ≤ ps.length ∧ i = .int .i64 k ∧ Hid (RD wr p ⟨Pack.written (ps.drop k) ++ l, 0⟩) ∧ Ext W wr) (fun _ _ i _ => ps.length - (intOf i).toNat)
        case atStart => exact ⟨0, by omega, rfl, hr4, hE4⟩
        case round =>
          obtain ⟨k, hk, rfl, hr, hbr⟩ := hrel
          clear hr4 hE4
          by_cases hlt : k < ps.length
          · obtain ⟨a', cap', e', _, _, _, hc⟩ := (HP.out.below hbr)
            obtain ⟨q, off, rfl, hcell⟩ := hc k hlt
            injection e' with e1 e2 e3
            subst e1
            obtain ⟨p0, p1, p2, p3, p4⟩ := hcell
            have hgd := good_at ps k hlt HG.out
            have hdrop := written_drop ps k hlt
            rw [hdrop, List.append_assoc] at hr
            clear hc e2 e3 hdrop
            generalize ps[k] = P at *
            obtain ⟨R, hR⟩ : ∃ R, R = Pack.written (ps.drop (k + 1)) ++ l := ⟨_, rfl⟩
            rw [← hR] at hr
            have HR := Lib.hid hR
            clear hR
            obtain ⟨s1, s2, s3, s4⟩ := Pack.part_back P R hgd
            have hrd := hr.out
            have hread := fun w' hE => read_any p ⟨P.bytes ++ R, 0⟩ P.full w' (hrd.ext hE)
            rw [s1] at hread
            obtain ⟨Q, hQ⟩ : ∃ Q, Q = (Pack.St.part ⟨P.bytes ++ R, 0⟩ P.full).2 := ⟨_, rfl⟩
            rw [← hQ] at s2 s3 s4 hread
            clear hQ s1 hgd hr
            have hplt := hrd.lt
            have hbw := hbr.size
            have step : ∀ (o : Obj) (w5 : World), But p (wr.alloc o) w5 → Ext W w5 := fun o w5 hb =>
              Below.trans (B := W.heap.size) (hbr.trans (Ext.alloc _ _)) (hb.below hpW (by rw [World.size_alloc]; omega))
            have hblock : ∀ (o : Obj) (w' : World), But p (wr.alloc o) w' → w'.heap[wr.heap.size]? = some o := fun o w' hb => by
              rw [hb.block wr.heap.size (by rw [World.size_alloc]; omega) (by omega)]
              exact heap_alloc_new wr o
            have hout : ∀ (w6 : World), Ext W w6 → RD w6 p ⟨R, 0⟩ → Hid (RD w6 p ⟨Pack.written (ps.drop (k + 1)) ++ l, 0⟩) := fun w6 _ hr6 => by rw [← HR.out]; exact hr6
            cases P with
            | mk K N M S I =>
            simp only [Pack.Part.full, partVal] at hread p0 p1 p2 p3 p4 s2 s3 s4
            obtain ⟨QK, QN, QM, QS, QI⟩ := Q
            simp only at hread s2 s3 s4
            by_cases k0 : K = 0
            · subst k0
              have hQ := s2 rfl
              subst hQ
              clear s2 s3 s4
              go_wp2_with fail
              refine (hread _ (Ext.alloc _ _)).mono ?_
              rintro e w5 ⟨rfl, hB5, hr5⟩
              have hE5 := step _ _ hB5
              have g5 := hblock _ _ hB5
              have z0 := fun o => later_cell g5 0 o
              have z1 := fun o => later_cell g5 1 o
              simp only [List.getElem?_toArray, List.getElem?_cons_zero, List.getElem?_cons_succ] at z0 z1
              clear hread hblock step g5
              go_wp2_with fail
              refine (err_any p _ _ (hr5.ext (Ext.alloc _ _))).mono ?_
              rintro e w6 ⟨rfl, rfl⟩
              go_wp2_with fail
              go_roundw
              case rel => exact ⟨k + 1, by omega, by go_num, hout _ (hE5.trans (Ext.alloc _ _)) (hr5.ext (Ext.alloc _ _)), hE5.trans (Ext.alloc _ _)⟩
              case measure => simp [intOf]; omega
            have q0 : (K == 0) = false := by simp [k0]
            by_cases k1 : K = 1
            · subst k1
              have hQ := s3 rfl
              subst hQ
              clear s2 s3 s4 k0 q0
              go_wp2_with fail
              refine (hread _ (Ext.alloc _ _)).mono ?_
              rintro e w5 ⟨rfl, hB5, hr5⟩
              have hE5 := step _ _ hB5
              have g5 := hblock _ _ hB5
              have z0 := fun o => later_cell g5 0 o
              have z3 := fun o => later_cell g5 3 o
              simp only [List.getElem?_toArray, List.getElem?_cons_zero, List.getElem?_cons_succ] at z0 z3
              clear hread hblock step g5
              go_wp2_with fail
              refine (err_any p _ _ (hr5.ext (Ext.alloc _ _))).mono ?_
              rintro e w6 ⟨rfl, rfl⟩
              go_wp2_with fail
              go_roundw
              case rel => exact ⟨k + 1, by omega, by go_num, hout _ (hE5.trans (Ext.alloc _ _)) (hr5.ext (Ext.alloc _ _)), hE5.trans (Ext.alloc _ _)⟩
              case measure => simp [intOf]; omega
            have q1 : (K == 1) = false := by simp [k1]
            by_cases k2 : K = 2
            · subst k2
              have hQ := s4 rfl
              subst hQ
              clear s2 s3 s4 k0 k1 q0 q1
              go_wp2_with fail
              refine (hread _ (Ext.alloc _ _)).mono ?_
              rintro e w5 ⟨rfl, hB5, hr5⟩
              have hE5 := step _ _ hB5
              have g5 := hblock _ _ hB5
              have z0 := fun o => later_cell g5 0 o
              have z4 := fun o => later_cell g5 4 o
              simp only [List.getElem?_toArray, List.getElem?_cons_zero, List.getElem?_cons_succ] at z0 z4
              clear hread hblock step g5
              go_wp2_with fail
              refine (err_any p _ _ (hr5.ext (Ext.alloc _ _))).mono ?_
              rintro e w6 ⟨rfl, rfl⟩
              go_wp2_with fail
              go_roundw
              case rel => exact ⟨k + 1, by omega, by go_num, hout _ (hE5.trans (Ext.alloc _ _)) (hr5.ext (Ext.alloc _ _)), hE5.trans (Ext.alloc _ _)⟩
              case measure => simp [intOf]; omega
            have q2 : (K == 2) = false := by simp [k2]
            clear s2 s3 s4 k0 k1 k2
            go_wp2_with fail
            refine (hread _ (Ext.alloc _ _)).mono ?_
            rintro e w5 ⟨rfl, hB5, hr5⟩
            have hE5 := step _ _ hB5
            have g5 := hblock _ _ hB5
            have z0 := fun o => later_cell g5 0 o
            simp only [List.getElem?_toArray, List.getElem?_cons_zero, List.getElem?_cons_succ] at z0
            clear hread hblock step g5
            go_wp2_with fail
            refine (err_any p _ _ (hr5.ext (Ext.alloc _ _))).mono ?_
            rintro e w6 ⟨rfl, rfl⟩
            go_wp2_with fail
            go_roundw
            case rel => exact ⟨k + 1, by omega, by go_num, hout _ (hE5.trans (Ext.alloc _ _)) (hr5.ext (Ext.alloc _ _)), hE5.trans (Ext.alloc _ _)⟩
            case measure => simp [intOf]; omega
          · have hk' : k = ps.length := by omega
            subst hk'
            have hr6 : RD wr p ⟨l, 0⟩ := by
              have := hr.out
              rwa [List.drop_length] at this
            clear hr
            go_wp2_with fail
            refine (packAlive_any _).mono ?_
            rintro e w7 ⟨rfl, hb7⟩
            have hr7 := hr6.ext hb7
            go_wp2_with fail
            refine (left_any p _ _ hr7).mono ?_
            rintro e w8 ⟨rfl, rfl⟩
            go_wp2_with fail
            refine (end_any p _ _ hr7).mono ?_
            rintro e w8 ⟨rfl, rfl⟩
            have hdone : ((Pack.St.done ⟨l, 0⟩ == 0) == ((l.length : Int) == 0)) = true := by
              unfold Pack.St.done
              cases l with
              | nil => rfl
              | cons x l => simp; omega
            go_wp2_with fail
            go_ret
            exact ⟨by first | rfl | rw [hdone], hbr.trans hb7⟩
    · have hfd := decide_eq_false hf
      have HF := Lib.hid hfd
      clear hfd hf
      go_enter Try.func12, Try.ntmps12
      go_wp2_with fail
      refine (write_any _ ps _ HP.out (by omega)).mono ?_
      rintro e w1 ⟨a1, n1, c1, rfl, ho1, hb1⟩
      rw [HG.out]
      go_wp2_with fail
      refine (few_any _ ps _ (HP.out.below hb1) (by omega)).mono ?_
      rintro e w2 ⟨rfl, hb2⟩
      rw [HF.out]
      go_wp2_with fail
      refine (packAlive_any _).mono ?_
      rintro e w3 ⟨rfl, hb3⟩
      go_wp2_with fail
      go_ret
      exact ⟨rfl, (hb1.trans hb2).trans hb3⟩

namespace packBackUpto
theorem own : ownKnob Try.prog.godebug = none := by kernel_rfl
theorem laidOut : laidOutB Try.prog = true := by kernel_rfl
set_option linter.unusedVariables false in
set_option maxRecDepth 100000 in
theorem lifted (os : Os) (started : os.Started) (H : Type) (enc : TypeId × Value → H) (F : Stop.Interp) :
    ReturnsInHanded {} Try.checked os 12 .any ((Rows.OpenSpec.upto Rows.packBackSpec).pre6 enc Try.prog Try.f12 Rows.packBackUptoRow.domain false) (((Rows.OpenSpec.upto Rows.packBackSpec).at F).post enc Try.prog Try.f12 false true false false) := by
  refine returnsInHanded_of_cond (C := Try.checked) (s := (Rows.OpenSpec.upto Rows.packBackSpec)) (k := Rows.uptoSmall) rfl own started (by kernel_rfl) Try.func12
    (OpenSpec.witness (enc := enc) (C := Try.checked) (s := (Rows.OpenSpec.upto Rows.packBackSpec)) (k := Rows.uptoSmall) rfl false ⟨#[], #[.slice none 0 0, .slice none 0 0], []⟩ 8 (by kernel_rfl) (by kernel_rfl) (by kernel_rfl)
      (x := ([.nil, .nil], [], [])) (by kernel_rfl) rfl (by kernel_rfl)) ?_
  intro W base args ds gs before hval0 hW hcnd hbulk0 _
  have hval : ∀ (j : Nat) t v, Try.f12.params[j]? = some t → args[j]? = some v → Value.okWide Try.prog W .any base t v := hval0
  have hW' := hW
  obtain ⟨p, q, hA0, hV, rfl, hfz, hnd⟩ := hW'
  have hA : DataW.TrodAll enc Try.prog W 0 (fun _ => true) true Try.f12.params.toList args.toList ds p := hA0
  rw [Try.params12] at hA hval
  obtain ⟨v0, vs0, d0, ds0, p0, q0, hargs, rfl, rfl, h0, r0⟩ := trodAll_cons hA
  obtain ⟨v1, vs1, d1, ds1, p1, q1, rfl, rfl, rfl, h1, r1⟩ := trodAll_cons r0
  obtain ⟨rfl, rfl, rfl⟩ := trodAll_nil r1
  obtain rfl : args = #[v0, v1] := by cases args; simp_all
  obtain ⟨rfl, rfl⟩ := trodVars_none hV
  have hbulk : Rows.uptoBulkAll [d0, d1] ≤ 1048576 := of_decide_eq_true hbulk0
  simp only [Rows.uptoBulkAll] at hbulk
  have k0 := h0
  have lt0 : ∀ x ∈ p0, x.block < W.heap.size := by obtain ⟨m, hm⟩ := k0; exact DataW.trod_lt m _ _ _ hm
  obtain ⟨a0, len0, cap0, rfl⟩ := okWide_slice Try.underlying42 (hval 0 42 v0 rfl rfl)
  obtain ⟨l0, w0, sz0⟩ : ∃ l, Parts W (.slice a0 len0 cap0) l ∧ Pack.mass l ≤ Rows.uptoBulk d0 := by
    obtain ⟨fuel, hf⟩ := h0
    obtain ⟨v, l, hcs, hb, hm⟩ := parts_of_raw hf
    simp [Value.cells] at hcs
    subst hcs
    exact ⟨l, hb, hm⟩
  have k1 := h1
  have lt1 : ∀ x ∈ p1, x.block < W.heap.size := by obtain ⟨m, hm⟩ := k1; exact DataW.trod_lt m _ _ _ hm
  obtain ⟨a1, len1, cap1, rfl⟩ := okWide_slice Try.underlying22 (hval 1 22 v1 rfl rfl)
  obtain ⟨l1, w1⟩ : ∃ l, Bytes W (.slice a1 len1 cap1) l := by
    obtain ⟨fuel, hf⟩ := h1
    obtain ⟨v, l, hcs, hb⟩ := bytes_of_raw Try.underlying22 Try.underlying5 (by kernel_rfl) hf
    simp [Value.cells] at hcs
    subst hcs
    exact ⟨l, hb⟩
  have sz1 : len1 ≤ Rows.uptoBulk d1 := by obtain ⟨fuel, hf⟩ := h1; exact bulk_of_raw (x := (d1, p1)) Try.underlying22 (by simpa [Value.cells] using hf)
  clear hA0 hval0
  refine (packBack_walk a0 a1 len0 cap0 len1 cap1 l0 l1 W w0 w1 (by omega) (by omega)).mono fun e W' ⟨he, bel⟩ => ?_
  subst he
  exact ⟨_, rfl, _, _, _, [], _, [], hW, trodAll_mk1 (shut_bool Try.underlying4 _), (trodAll_cons_mk (Below.trod laidOut (by kernel_rfl) (of_decide_eq_true (by kernel_rfl)) k0 bel lt0) (trodAll_cons_mk (Below.trod laidOut (by kernel_rfl) (of_decide_eq_true (by kernel_rfl)) k1 bel lt1) trodAll_mk0)), rfl, bel.frame _, fun h => by cases h⟩
theorem over : Rows.packBackUptoRow.holds Try.pinned (Rows.OpenSpec.upto Rows.packBackSpec) :=
  OpenClaim.holds_of_cond 12 Try.f12 rfl rfl rfl rfl rfl rfl rfl ⟨rfl, rfl, rfl, rfl, rfl⟩ rfl rfl rfl rfl rfl (by kernel_rfl) Try.func12 (by kernel_rfl)
    (of_decide_eq_true (by kernel_rfl)) (by unfold Func.isWrapper; first | (rw [if_pos (by decide +kernel)]; kernel_rfl) | (rw [if_neg (by decide +kernel)]; exact ⟨rfl, rfl⟩))
    (fun os started H enc _ F => lifted os started H enc F)
theorem proved : Rows.PackBackUptoSaid := over
end packBackUpto
end Go.Proofs.Ytkkbjbbmjoacnaa
