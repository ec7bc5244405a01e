/-
  Layer 6: the next configuration: the document's own answer.
-/
import Derived.Test.YtpfodkgncachiaaGreatTrmI
import Derived.Test.YtpfodkgncachiaaGreatTrmQ
import Derived.Test.YtpfodkgncachiaaGreatTrmN
namespace Go.Proofs.YtpfodkgncachiaaGreat
set_option linter.unusedSimpArgs false
set_option linter.unusedVariables false
set_option maxRecDepth 100000
open Go.RowKit

theorem leftKeep {l gone : List Int} {k : Nat} (hk : k < l.length) (h : hasI gone l[k] = false) : Term.left (l.take (k + 1)) gone = Term.left (l.take k) gone ++ [l[k]] := by
  unfold hasI at h
  unfold Term.left
  rw [take_succ_getD l k hk, List.filter_append, List.filter_cons, h]
  rfl
theorem leftDrop {l gone : List Int} {k : Nat} (hk : k < l.length) (h : hasI gone l[k] = true) : Term.left (l.take (k + 1)) gone = Term.left (l.take k) gone := by
  unfold hasI at h
  unfold Term.left
  rw [take_succ_getD l k hk, List.filter_append, List.filter_cons, h]
  simp

set_option maxHeartbeats 4000000 in
theorem refLeft6_any (v gv : Value) (l gone : List Int) (w : World) (hv : Ints w v l) (hg : Ints w gv gone) (hl : l.length ≤ 1000) :
    Calls Tryz.prog 60 #[v, gv] w fun e w' => ∃ u, e = .returned u ∧ OwnI w' w.heap.size u (Term.left l gone) ∧ Ext w w' := by
  have HG := Lib.hid hg
  obtain ⟨a, cap, rfl, hcap, hmax, _, hcw0⟩ := hv.open
  obtain ⟨ga, gcap, rfl, _⟩ := hg.open
  unfold maxLen at hmax
  have HCW := Lib.hid hcw0
  have ti := tI
  clear hv hg hcw0
  go_enter Tryz.func60, Tryz.ntmps60
  go_wp2_with fail
  go_loopw [5, 6] (fun o i wr => ∃ k : Nat, k ≤ l.length ∧ i = .int .i64 k ∧ ∃ ov : Value, ov = o ∧ Hid (OwnI wr w.heap.size ov (Term.left (l.take k) gone)) ∧ Ext w wr) (fun _ i _ => l.length - (intOf i).toNat)
  case atStart => exact ⟨0, by omega, rfl, _, rfl, OwnI.nil _ _, Ext.refl _⟩
  case round =>
    obtain ⟨k, hk, rfl, ov, rfl, hO, hE⟩ := hrel
    by_cases hlt : k < l.length
    · obtain ⟨b, off, rfl, hcw⟩ := HCW.out k hlt
      have hcell := cellExtN hE hcw
      cases hh : hasI gone l[k] with
      | true =>
        have HH := Lib.hid hh
        have HD := Lib.hid (leftDrop hlt hh)
        clear hh hcw
        go_wp2_with fail
        refine (refHas6_any _ gone l[k] _ (HG.out.below hE)).mono ?_
        rw [HH.out]
        rintro e w1 ⟨rfl, rfl⟩
        go_wp2_with fail
        go_roundw
        case rel => exact ⟨k + 1, by omega, by go_num, _, rfl, by rw [HD.out]; exact hO.out, hE⟩
        case measure => simp [intOf]; omega
      | false =>
        have HH := Lib.hid hh
        have HD := Lib.hid (leftKeep hlt hh)
        obtain ⟨LS, hLS⟩ : ∃ LS, Term.left (l.take k) gone = LS := ⟨_, rfl⟩
        rw [hLS] at hO HD
        have hlen : LS.length ≤ 1000 := by
          have := lenLeft (l.take k) gone
          rw [hLS, List.length_take] at this
          omega
        have o1 := Lib.hid ((show wr.ownsRow w.heap.size 3 1 ov LS.length (i64s LS) from hO.out).alloc (.cells #[.int .i64 l[k]] 3))
        have i1 := Lib.hid (Ints.one wr l[k])
        have k1 := Lib.hid (show LS.length + (i64s [l[k]]).length ≤ maxLen by simp [maxLen]; omega)
        have k2 := Lib.hid (show (LS.length + (i64s [l[k]]).length) * 8 ≤ 140737488355328 by simp; omega)
        have hone := Lib.hid (i64s_one [l[k]])
        have z1 := Lib.hid (show w.heap.size ≤ (wr.alloc (.cells #[.int .i64 l[k]] 3)).heap.size from Nat.le_trans hE.size (Ext.alloc _ _).size)
        clear hh hcw hLS
        go_wp2_with fail
        refine (refHas6_any _ gone l[k] _ (HG.out.below hE)).mono ?_
        rw [HH.out]
        rintro e w1 ⟨rfl, rfl⟩
        go_wp2_with (at_builtin; refine wpList_app rfl (.tmp 20) (.tmp 25) ti rfl rfl rfl o1.out i1.out hone.out k1.out k2.out z1.out ?_; intro v3 w3 hown3 hg3)
        have hE3 : Ext w w3 := Below.grown (hE.trans (Ext.alloc wr _)) hg3 (hE.trans (Ext.alloc wr _)).size (fun j hj => (o1.out.lt j hj).1)
        have O3 := Lib.hid (show OwnI w3 w.heap.size v3 (Term.left (l.take (k + 1)) gone) by rw [HD.out]; unfold OwnI; rw [List.length_append, i64s_append]; exact hown3)
        clear hown3 hg3
        go_wp2_with fail
        go_roundw
        case rel => exact ⟨k + 1, by omega, by go_num, _, rfl, O3.out, hE3⟩
        case measure => simp [intOf]; omega
    · have O3 := Lib.hid (show OwnI wr w.heap.size ov (Term.left l gone) by
        have := hO.out
        rw [List.take_of_length_le (by omega)] at this
        exact this)
      clear hO
      go_wp2_with fail
      go_ret
      exact ⟨_, rfl, O3.out, hE⟩
theorem build_confR2 (w : World) (n : Int) (a : Option Addr) (m c : Nat) : (Instr.build 25 #[(0, .int .i64 n), (1, .slice a m c)]).run Tryz.prog w = .ok (.agg #[.int .i64 n, .slice a m c, .slice none 0 0]) w := by kernel_rfl

set_option maxHeartbeats 16000000 in
theorem refNext6_any (v gv : Value) (c : Term.C) (gone : List Int) (w : World) (hv : IsConf w v c) (hg : Ints w gv gone) :
    Calls Tryz.prog 28 #[v, gv] w (GivesNext6 w c gone) := by
  have hbx := box_confR
  have hb0 := build_confR0
  have hr5 := fun w1 hv => refRight6_any v c w1 hv
  have HV := Lib.hid hv
  have HG := Lib.hid hg
  obtain ⟨s, d, rfl, hs, hd⟩ := hv
  obtain ⟨t, S, D⟩ := c
  unfold confV at *
  simp only at hs hd hr5 ⊢
  have HS := Lib.hid hs
  have HD := Lib.hid hd
  obtain ⟨a1, cap1, rfl, hcap1, hmax1, _, _⟩ := hs.open
  obtain ⟨a2, cap2, rfl, hcap2, hmax2, _⟩ := hd.open
  obtain ⟨ga, gcap, rfl, hgc, hgm, _, _⟩ := hg.open
  unfold maxLen at hmax1 hmax2 hgm
  clear hs hd hg
  have hE0 := ext_two w (.cells #[.int .i64 t, .slice a1 S.length cap1, .slice a2 D.length cap2] 25) (.cells #[.int .i64 0, .slice none 0 0, .slice none 0 0] 25)
  have HH := Lib.hid (heap_two w (.cells #[.int .i64 t, .slice a1 S.length cap1, .slice a2 D.length cap2] 25) (.cells #[.int .i64 0, .slice none 0 0, .slice none 0 0] 25))
  unfold GivesNext6
  go_enter Tryz.func28, Tryz.ntmps28
  go_wp2_with fail
  refine (hr5 _ (HV.out.below hE0)).mono ?_
  rintro e w1 ⟨rfl, hE1⟩
  have e1 := hE0.trans hE1
  have A1 := Lib.hid (show ConfAt 25 w1 w.heap.size t (.slice a1 S.length cap1) (.slice a2 D.length cap2) from heap_ext HH.out.1 hE1)
  have R1 := Lib.hid (show ConfAt 25 w1 (w.heap.size + 1) 0 (.slice none 0 0) (.slice none 0 0) from heap_ext HH.out.2 hE1)
  obtain ⟨q, hq⟩ : ∃ q, w.heap.size = q := ⟨_, rfl⟩
  have HQ := Lib.hid hq
  rw [hq] at A1 R1
  clear HH hE1 hE0 hr5 HV
  obtain ⟨rc, hrc⟩ : ∃ rc, Term.right ⟨t, S, D⟩ = rc := ⟨_, rfl⟩
  have HR := Lib.hid hrc
  rw [hrc]
  clear hrc
  cases rc with
  | false =>
    have HN := Lib.hid (nextOk_no (gone := gone) HR.out)
    obtain ⟨c0, c1, c2⟩ := R1.out.cells
    have fr : ∀ i, w1.frozen? ⟨q + 1, i, none⟩ = false := fun i => frozen_of_heap R1.out i
    rw [hq]
    go_wp2_with fail
    have hs := R1.out.setAll 0 (.slice none 0 0) (.slice none 0 0)
    exact bodyPost_ret (v := .tuple #[confV 0 (.slice none 0 0) (.slice none 0 0), .bool false]) (by simp [results, Tryz.results28, go_sem, c0, c1, c2, fr, confV]) rfl
      ⟨_, by rw [HN.out], by rw [HN.out]; exact ⟨_, _, rfl, ints0 _, irows0 _⟩, Below.trans (B := w.heap.size) e1 (hs.2.below (by omega) e1.size)⟩
  | true =>
    have HN := Lib.hid (nextOk_yes (gone := gone) HR.out)
    obtain ⟨q1, q2, q3, q4, q5⟩ := Term.right_ok HR.out
    simp only at q1 q2 q3 q4 q5
    have HW := Lib.hid (show IntKind.i64.wrap (t + 1) = t + 1 from IntWalk.i64_in (t + 1) (by omega))
    have HQ3 := Lib.hid q3
    have hS7 : S.length ≤ 7 := by omega
    have hS1 : 1 ≤ S.length := by omega
    have HSTAY := Lib.hid (fun (wy : World) (h : Ext w1 wy) => refLeft6_any (.slice a1 S.length cap1) (.slice ga gone.length gcap) S gone wy (HS.out.below (e1.trans h)) (HG.out.below (e1.trans h)) (by omega))
    have hqw : q ≤ w1.heap.size := by have := R1.out.lt; omega
    have hqz : ∀ wy, Ext w1 wy → q ≤ wy.heap.size := fun wy h => Nat.le_trans hqw h.size
    have HQZ := Lib.hid hqz
    clear q3 q5 hqz
    rw [hq]
    go_wp2_with fail
    refine wp_region_tail (by kernel_rfl) 9 Ext (fun iop v w => match iop with
        | 0 => v = .pointer (some ⟨q, 0, none⟩)
        | 1 => v = .int .i64 t
        | 2 => v = .int .i64 (t + 1)
        | 3 => v = .pointer (some ⟨q, 1, none⟩)
        | 4 => v = .slice a1 S.length cap1
        | 5 => v = .slice ga gone.length gcap
        | 6 => ∃ an cn, v = .slice an (Term.left S gone).length cn ∧ OwnI w q v (Term.left S gone)
        | 7 => ∃ an cn, v = .agg #[.int .i64 (t + 1), .slice an (Term.left S gone).length cn, .slice none 0 0] ∧ OwnI w q (.slice an (Term.left S gone).length cn) (Term.left S gone)
        | _ => ∃ p, v = .pointer (some ⟨p, 0, none⟩) ∧ ConfAt 25 w p 0 (.slice none 0 0) (.slice none 0 0) ∧ q + 1 < p
        ) (by kernel_rfl) (by kernel_rfl) (by decide) (fun _ _ _ h k => Ext.trans h k) (fun a => Ext.refl a) (Ext.drew _) ?_ ?_ ?_
    · intro iop v wa wb hF hL
      cases iop with
      | zero => exact hF
      | succ iop =>
        cases iop with
        | zero => exact hF
        | succ iop =>
          cases iop with
          | zero => exact hF
          | succ iop =>
            cases iop with
            | zero => exact hF
            | succ iop =>
              cases iop with
              | zero => exact hF
              | succ iop =>
                cases iop with
                | zero => exact hF
                | succ iop =>
                  cases iop with
                  | zero => (first | exact hF | (obtain ⟨a, b, h1, h2⟩ := hF; exact ⟨a, b, h1, h2.ext hL⟩) | (obtain ⟨a, h1, h2, h3⟩ := hF; exact ⟨a, h1, h2.ext hL, h3⟩))
                  | succ iop =>
                    cases iop with
                    | zero => (first | exact hF | (obtain ⟨a, b, h1, h2⟩ := hF; exact ⟨a, b, h1, h2.ext hL⟩) | (obtain ⟨a, h1, h2, h3⟩ := hF; exact ⟨a, h1, h2.ext hL, h3⟩))
                    | succ iop =>
                      (first | exact hF | (obtain ⟨a, b, h1, h2⟩ := hF; exact ⟨a, b, h1, h2.ext hL⟩) | (obtain ⟨a, h1, h2, h3⟩ := hF; exact ⟨a, h1, h2.ext hL, h3⟩))
    · refine Obls.cons ?_ (Obls.cons ?_ (Obls.cons ?_ (Obls.cons ?_ (Obls.cons ?_ (Obls.cons ?_ (Obls.cons ?_ (Obls.cons ?_ (Obls.cons ?_ (Obls.nil)))))))))
      · intro ev wy hp hl hk hd
        have e2 : ev (.tmp 2) = .pointer (some ⟨q, 0, none⟩) := hk 2 (by decide)
        clear hk
        clear hd
        exact Yield.op (v := .pointer (some ⟨q, 0, none⟩)) (w' := wy) (by simp [execOp, go_sem, e2]) ⟨Ext.refl _, rfl⟩
      · intro ev wy hp hl hk hd
        have e12 : ev (.tmp 12) = .pointer (some ⟨q, 0, none⟩) := hk 12 (by decide)
        clear hk
        clear hd
        exact Yield.load rfl e12 (ldInt (A1.out.ext hl).cells.1) ⟨Ext.refl _, rfl⟩
      · intro ev wy hp hl hk hd
        have e13 : ev (.tmp 13) = .int .i64 t := hk 13 (by decide)
        clear hk
        clear hd
        exact Yield.op (w' := wy) (by simp [execOp, go_sem, e13, hp.const]; exact HW.out) ⟨Ext.refl _, rfl⟩
      · intro ev wy hp hl hk hd
        have e2 : ev (.tmp 2) = .pointer (some ⟨q, 0, none⟩) := hk 2 (by decide)
        clear hk
        clear hd
        exact Yield.op (v := .pointer (some ⟨q, 1, none⟩)) (w' := wy) (by simp [execOp, go_sem, e2]) ⟨Ext.refl _, rfl⟩
      · intro ev wy hp hl hk hd
        have e15 : ev (.tmp 15) = .pointer (some ⟨q, 1, none⟩) := hk 15 (by decide)
        clear hk
        clear hd
        exact Yield.load rfl e15 (ldInts (A1.out.ext hl).cells.2.1) ⟨Ext.refl _, rfl⟩
      · intro ev wy hp hl hk hd
        have e1 : ev (.tmp 1) = .slice ga gone.length gcap := hk 1 (by decide)
        clear hk
        clear hd
        exact Yield.mv rfl ⟨Ext.refl _, e1⟩
      · intro ev wy hp hl hk hd
        have e16 : ev (.tmp 16) = .slice a1 S.length cap1 := hk 16 (by decide)
        have e17 : ev (.tmp 17) = .slice ga gone.length gcap := hk 17 (by decide)
        clear hk
        clear hd
        refine Yield.call rfl hp Tryz.func60 rfl (by kernel_rfl) ?_
        simp only [List.map_toArray, List.map_cons, List.map_nil, e16, e17]
        exact (HSTAY.out wy hl).mono fun e w' ⟨u, he, ho, hE⟩ => ⟨u, he, hE, by obtain ⟨ua, uc, hu, _⟩ := ho.ints.open; exact ⟨ua, uc, hu, ho.lower (HQZ.out wy hl)⟩⟩
      · intro ev wy hp hl hk hd
        have e14 : ev (.tmp 14) = .int .i64 (t + 1) := hk 14 (by decide)
        have f18 : (fun (v : Value) (w : World) => ∃ an cn, v = .slice an (Term.left S gone).length cn ∧ OwnI w q v (Term.left S gone)) (ev (.tmp 18)) wy := hk 18 (by decide)
        generalize hx18 : ev (.tmp 18) = x18 at *
        clear hk
        clear hd
        obtain ⟨an, cn, hv18, ho18⟩ := f18
        subst hv18
        exact Yield.op (w' := wy) (by simp [execOp, go_sem, e14, hx18, build_confR2]) ⟨Ext.refl _, an, cn, rfl, ho18⟩
      · intro ev wy hp hl hk hd
        clear hk
        clear hd
        exact Yield.op (v := .pointer (some ⟨wy.heap.size, 0, none⟩)) (w' := wy.alloc (.cells #[.int .i64 0, .slice none 0 0, .slice none 0 0] 25)) (by simp [execOp, go_sem]) ⟨Ext.alloc _ _, _, rfl, confZero _ _, by have := (R1.out.ext hl).lt; omega⟩
    · intro vals wz hz hv
      have g12 : vals 0 = .pointer (some ⟨q, 0, none⟩) := hv 0 (by decide)
      have g13 : vals 1 = .int .i64 t := hv 1 (by decide)
      have g14 : vals 2 = .int .i64 (t + 1) := hv 2 (by decide)
      have g15 : vals 3 = .pointer (some ⟨q, 1, none⟩) := hv 3 (by decide)
      have g16 : vals 4 = .slice a1 S.length cap1 := hv 4 (by decide)
      have g17 : vals 5 = .slice ga gone.length gcap := hv 5 (by decide)
      have g18 : (fun (v : Value) (w : World) => ∃ an cn, v = .slice an (Term.left S gone).length cn ∧ OwnI w q v (Term.left S gone)) (vals 6) wz := hv 6 (by decide)
      have g19 : (fun (v : Value) (w : World) => ∃ an cn, v = .agg #[.int .i64 (t + 1), .slice an (Term.left S gone).length cn, .slice none 0 0] ∧ OwnI w q (.slice an (Term.left S gone).length cn) (Term.left S gone)) (vals 7) wz := hv 7 (by decide)
      have g6 : (fun (v : Value) (w : World) => ∃ p, v = .pointer (some ⟨p, 0, none⟩) ∧ ConfAt 25 w p 0 (.slice none 0 0) (.slice none 0 0) ∧ q + 1 < p) (vals 8) wz := hv 8 (by decide)
      clear hv
      simp only [List.take_succ_cons, List.take_zero, List.drop_succ_cons, List.drop_zero]
      simp only [putAll, Act.put, List.setIfInBounds_toArray, List.set_cons_zero, List.set_cons_succ, g12, g13, g14, g15, g16, g17]
      clear g12
      clear g13
      clear g14
      clear g15
      clear g16
      clear g17
      generalize vals 6 = v18 at *
      generalize vals 7 = v19 at *
      generalize vals 8 = v6 at *
      obtain ⟨an, cn, rfl, hO⟩ := g19
      obtain ⟨p, rfl, hP, hp⟩ := g6
      clear g18
      obtain ⟨w2, hw2⟩ : ∃ w2, w2 = wz := ⟨_, rfl⟩
      rw [← hw2] at hz hO hP ⊢
      clear hw2
      have e2 := e1.trans hz
      have A2 := Lib.hid (A1.out.ext hz)
      have R2 := Lib.hid (R1.out.ext hz)
      obtain ⟨c0, c1, c2⟩ := hP.cells
      have fp := fun i => frozen_of_heap hP i
      have hs := hP.setAll (t + 1) (.slice an (Term.left S gone).length cn) (.slice none 0 0)
      have X3 := Lib.hid hs.1
      have A3 := Lib.hid (A2.out.but hs.2 (by omega))
      have R3 := Lib.hid (R2.out.but hs.2 (by omega))
      have O3 := Lib.hid (hO.but hP (by decide) hs.2)
      have e3 : Ext w _ := Below.trans (B := w.heap.size) e2 (hs.2.below (by have := HQ.out; omega) e2.size)
      obtain ⟨NL, hNL⟩ : ∃ NL, Term.left S gone = NL := ⟨_, rfl⟩
      have HNL := Lib.hid hNL
      have hNl : NL.length ≤ 7 := by have := lenLeft S gone; rw [hNL] at this; omega
      rw [hNL] at X3 O3 e3 A3 R3 ⊢
      clear hNL hs hO hP
      by_cases n0 : NL.length = 0
      · have hnil : NL = [] := List.eq_nil_of_length_eq_zero n0
        have HOD := Lib.hid (oddNone n0)
        subst hnil
        simp only [List.length_nil] at X3 O3 e3 A3 R3 HOD ⊢
        go_wp2_with fail
        clear c0 c1 c2 fp
        generalize hw3 : (((w2.setCell ⟨p, 0, none⟩ (.int .i64 (t + 1))).setCell ⟨p, 1, none⟩ (.slice an 0 cn)).setCell ⟨p, 2, none⟩ (.slice none 0 0)) = w4 at *
        clear hw3
        have X4 := X3
        have O4 := O3
        have A4 := A3
        have R4 := R3
        have e4 := e3
        clear X3 O3 A3 R3 e3 n0
        have HNX := Lib.hid (show Term.next ⟨t, S, D⟩ gone = ⟨t + 1, ([] : List Int), D.map (fun l => Term.left l gone)⟩ by unfold Term.next; simp only; rw [HNL.out, HOD.out])
        go_loopw [7] (fun i wr => ∃ k : Nat, k ≤ D.length ∧ i = .int .i64 k ∧ ∃ dv, Hid (ConfAt 25 wr p (t + 1) (.slice an 0 cn) dv) ∧ Hid (OwnRR wr (q + 1) dv ((D.take k).map (fun l => Term.left l gone))) ∧ Hid (OwnI wr q (.slice an 0 cn) ([] : List Int)) ∧ Hid (ConfAt 25 wr q t (.slice a1 S.length cap1) (.slice a2 D.length cap2)) ∧ Hid (ConfAt 25 wr (q + 1) 0 (.slice none 0 0) (.slice none 0 0)) ∧ Ext w wr) (fun i _ => D.length - (intOf i).toNat)
        case atStart => exact ⟨0, by omega, rfl, _, X4.out, OwnRR.nil _ _, O4.out, A4.out, R4.out, e4⟩
        case round =>
          obtain ⟨k, hk, rfl, dv, X, O, OS, A, R, hE⟩ := hrel
          by_cases hlt : k < D.length
          · obtain ⟨a', cap', e', _, _, hc⟩ := (HD.out.below hE).open
            obtain ⟨b, off, x, rfl, hcell, hx⟩ := hc k hlt
            injection e' with e4 e5 e6
            subst e4
            clear hc e5 e6
            have HX := Lib.hid hx
            obtain ⟨ax, cx, rfl, _⟩ := hx.open
            obtain ⟨g1, g2, g3⟩ := Term.shard_ok (HQ3.out _ (List.getElem_mem hlt))
            have HTK := Lib.hid (show (D.take (k + 1)).map (fun l => Term.left l gone) = (D.take k).map (fun l => Term.left l gone) ++ [Term.left D[k] gone] by rw [take_succ_getD D k hlt, List.map_append]; rfl)
            have HK := Lib.hid (show ((D.take k).map (fun l => Term.left l gone)).length = k by simp; omega)
            have HST := Lib.hid (fun (wy : World) (h : Ext wr wy) => refLeft6_any (.slice ax D[k].length cx) (.slice ga gone.length gcap) D[k] gone wy (HX.out.below h) (HG.out.below (hE.trans h)) (by omega))
            have HCL := Lib.hid (fun (wy : World) (h : Ext wr wy) => cellExtN h hcell)
            obtain ⟨y0, y1, y2⟩ := A.out.cells
            have hqr : q + 1 ≤ wr.heap.size := by have := R.out.lt; omega
            have HZ := Lib.hid (fun (wy : World) (h : Ext wr wy) => Nat.le_trans hqr h.size)
            clear hx g3
            go_wp2_with fail
            clear y0 y1 y2
            refine wp_region_tail (by kernel_rfl) 10 Ext (fun iop v w => match iop with
                | 0 => v = .pointer (some ⟨p, 2, none⟩)
                | 1 => v = dv
                | 2 => v = .pointer (some ⟨q, 2, none⟩)
                | 3 => v = .slice (some ⟨b, off, none⟩) D.length cap2
                | 4 => v = .int .i64 (k : Int)
                | 5 => v = .pointer (some ⟨b, off + k, none⟩)
                | 6 => v = .slice ax D[k].length cx
                | 7 => v = .slice ga gone.length gcap
                | 8 => ∃ un uc, v = .slice un (Term.left D[k] gone).length uc ∧ OwnI w (q + 1) v (Term.left D[k] gone)
                | _ => ∃ x an n c, x = .slice an n c ∧ OwnI w (q + 1) x (Term.left D[k] gone) ∧ Sl w v [x]
                ) (by kernel_rfl) (by kernel_rfl) (by decide) (fun _ _ _ h k => Ext.trans h k) (fun a => Ext.refl a) (Ext.drew _) ?_ ?_ ?_
            · intro iop v wa wb hF hL
              cases iop with
              | zero => exact hF
              | succ iop =>
                cases iop with
                | zero => exact hF
                | succ iop =>
                  cases iop with
                  | zero => exact hF
                  | succ iop =>
                    cases iop with
                    | zero => exact hF
                    | succ iop =>
                      cases iop with
                      | zero => exact hF
                      | succ iop =>
                        cases iop with
                        | zero => exact hF
                        | succ iop =>
                          cases iop with
                          | zero => exact hF
                          | succ iop =>
                            cases iop with
                            | zero => exact hF
                            | succ iop =>
                              cases iop with
                              | zero => (first | exact hF | (obtain ⟨a, b, h1, h2⟩ := hF; exact ⟨a, b, h1, h2.ext hL⟩) | (obtain ⟨x, a, n, c, h1, h2, h3⟩ := hF; exact ⟨x, a, n, c, h1, h2.ext hL, h3.below hL⟩))
                              | succ iop =>
                                (first | exact hF | (obtain ⟨a, b, h1, h2⟩ := hF; exact ⟨a, b, h1, h2.ext hL⟩) | (obtain ⟨x, a, n, c, h1, h2, h3⟩ := hF; exact ⟨x, a, n, c, h1, h2.ext hL, h3.below hL⟩))
            · refine Obls.cons ?_ (Obls.cons ?_ (Obls.cons ?_ (Obls.cons ?_ (Obls.cons ?_ (Obls.cons ?_ (Obls.cons ?_ (Obls.cons ?_ (Obls.cons ?_ (Obls.cons ?_ (Obls.nil))))))))))
              · intro ev wy hp hl hk hd
                have e6 : ev (.tmp 6) = .pointer (some ⟨p, 0, none⟩) := hk 6 (by decide)
                clear hk
                clear hd
                exact Yield.op (v := .pointer (some ⟨p, 2, none⟩)) (w' := wy) (by simp [execOp, go_sem, e6]) ⟨Ext.refl _, rfl⟩
              · intro ev wy hp hl hk hd
                have e46 : ev (.tmp 46) = .pointer (some ⟨p, 2, none⟩) := hk 46 (by decide)
                clear hk
                clear hd
                obtain ⟨da, dn, dc, hdv⟩ := O.out.slice
                exact Yield.load rfl e46 (by rw [hdv]; simp [go_sem, (X.out.ext hl).cells.2.2, hdv]) ⟨Ext.refl _, rfl⟩
              · intro ev wy hp hl hk hd
                have e2 : ev (.tmp 2) = .pointer (some ⟨q, 0, none⟩) := hk 2 (by decide)
                clear hk
                clear hd
                exact Yield.op (v := .pointer (some ⟨q, 2, none⟩)) (w' := wy) (by simp [execOp, go_sem, e2]) ⟨Ext.refl _, rfl⟩
              · intro ev wy hp hl hk hd
                have e48 : ev (.tmp 48) = .pointer (some ⟨q, 2, none⟩) := hk 48 (by decide)
                clear hk
                clear hd
                exact Yield.load rfl e48 (by simp [go_sem, (A.out.ext hl).cells.2.2]) ⟨Ext.refl _, rfl⟩
              · intro ev wy hp hl hk hd
                have e7 : ev (.tmp 7) = .int .i64 (k : Int) := hk 7 (by decide)
                clear hk
                clear hd
                exact Yield.mv rfl ⟨Ext.refl _, e7⟩
              · intro ev wy hp hl hk hd
                have e49 : ev (.tmp 49) = .slice (some ⟨b, off, none⟩) D.length cap2 := hk 49 (by decide)
                have e50 : ev (.tmp 50) = .int .i64 (k : Int) := hk 50 (by decide)
                clear hk
                clear hd
                exact Yield.op (w' := wy) (by simp [execOp, go_sem, e49, e50]; omega) ⟨Ext.refl _, rfl⟩
              · intro ev wy hp hl hk hd
                have e51 : ev (.tmp 51) = .pointer (some ⟨b, off + k, none⟩) := hk 51 (by decide)
                clear hk
                clear hd
                exact Yield.load rfl e51 (by simp [go_sem, HCL.out wy hl]) ⟨Ext.refl _, rfl⟩
              · intro ev wy hp hl hk hd
                have e1 : ev (.tmp 1) = .slice ga gone.length gcap := hk 1 (by decide)
                clear hk
                clear hd
                exact Yield.mv rfl ⟨Ext.refl _, e1⟩
              · intro ev wy hp hl hk hd
                have e52 : ev (.tmp 52) = .slice ax D[k].length cx := hk 52 (by decide)
                have e53 : ev (.tmp 53) = .slice ga gone.length gcap := hk 53 (by decide)
                clear hk
                clear hd
                refine Yield.call rfl hp Tryz.func60 rfl (by kernel_rfl) ?_
                simp only [List.map_toArray, List.map_cons, List.map_nil, e52, e53]
                exact (HST.out wy hl).mono fun e w' ⟨u, he, ho, hE⟩ => ⟨u, he, hE, by obtain ⟨ua, uc, hu, _⟩ := ho.ints.open; exact ⟨ua, uc, hu, ho.lower (HZ.out wy hl)⟩⟩
              · intro ev wy hp hl hk hd
                have f54 : (fun (v : Value) (w : World) => ∃ un uc, v = .slice un (Term.left D[k] gone).length uc ∧ OwnI w (q + 1) v (Term.left D[k] gone)) (ev (.tmp 54)) wy := hk 54 (by decide)
                generalize hx54 : ev (.tmp 54) = x54 at *
                clear hk
                clear hd
                obtain ⟨un, uc, hv54, ho54⟩ := f54
                subst hv54
                exact Yield.op (v := .slice (some ⟨wy.heap.size, 0, none⟩) 1 1) (w' := wy.alloc (.cells #[.slice un (Term.left D[k] gone).length uc] 22)) (by simp [execOp, go_sem, hx54, build_row1]) ⟨Ext.alloc _ _, _, _, _, _, rfl, ho54.ext (Ext.alloc _ _), slOne wy _ 22⟩
            · intro vals wz hz hv
              have g46 : vals 0 = .pointer (some ⟨p, 2, none⟩) := hv 0 (by decide)
              have g47 : vals 1 = dv := hv 1 (by decide)
              have g48 : vals 2 = .pointer (some ⟨q, 2, none⟩) := hv 2 (by decide)
              have g49 : vals 3 = .slice (some ⟨b, off, none⟩) D.length cap2 := hv 3 (by decide)
              have g50 : vals 4 = .int .i64 (k : Int) := hv 4 (by decide)
              have g51 : vals 5 = .pointer (some ⟨b, off + k, none⟩) := hv 5 (by decide)
              have g52 : vals 6 = .slice ax D[k].length cx := hv 6 (by decide)
              have g53 : vals 7 = .slice ga gone.length gcap := hv 7 (by decide)
              have g54 : (fun (v : Value) (w : World) => ∃ un uc, v = .slice un (Term.left D[k] gone).length uc ∧ OwnI w (q + 1) v (Term.left D[k] gone)) (vals 8) wz := hv 8 (by decide)
              have g55 : (fun (v : Value) (w : World) => ∃ x an n c, x = .slice an n c ∧ OwnI w (q + 1) x (Term.left D[k] gone) ∧ Sl w v [x]) (vals 9) wz := hv 9 (by decide)
              clear hv
              simp only [List.take_succ_cons, List.take_zero, List.drop_succ_cons, List.drop_zero]
              simp only [putAll, Act.put, List.setIfInBounds_toArray, List.set_cons_zero, List.set_cons_succ, g46, g47, g48, g49, g50, g51, g52, g53]
              clear g46
              clear g47
              clear g48
              clear g49
              clear g50
              clear g51
              clear g52
              clear g53
              generalize vals 8 = v54 at *
              generalize vals 9 = v55 at *
              obtain ⟨w5, hw5⟩ : ∃ w5, w5 = wz := ⟨_, rfl⟩
              rw [← hw5] at hz g54 g55 ⊢
              clear hw5 g54
              obtain ⟨u5, ua, un, uc, hu5, hou5, hsl5⟩ := g55
              obtain ⟨sa, sn, sc, rfl⟩ : ∃ a n c, v55 = .slice a n c := by obtain ⟨a9, c9, e9, _⟩ := hsl5; exact ⟨_, _, _, e9⟩
              have hE5 := hE.trans hz
              have X5 := Lib.hid (X.out.ext hz)
              obtain ⟨xs, h1, h2, h3⟩ := O.out.ext hz
              rw [HK.out] at h1
              have H1 := Lib.hid h1
              have H2 := Lib.hid h2
              have H3 := Lib.hid h3
              have HU := Lib.hid hou5
              have HS5 := Lib.hid hsl5
              have hone := Lib.hid (oneSlice ⟨ua, un, uc, hu5⟩)
              have hk1 := Lib.hid (show k + [u5].length ≤ maxLen by simp [maxLen]; omega)
              have hk2 := Lib.hid (show (k + [u5].length) * 24 ≤ 140737488355328 by simp; omega)
              have hz5 := Lib.hid (HZ.out w5 hz)
              have HNE := Lib.hid (rowBeside h1 X5.out (by decide))
              clear h1 h2 h3 hou5 hsl5
              go_wp2_with (at_builtin; refine wpList_app rfl (.tmp 47) (.tmp 55) tRow rfl rfl rfl H1.out HS5.out hone.out hk1.out hk2.out hz5.out ?_; intro v9 w9 hown9 hg9; have hg9 : w5.grownBy w9 dv.ownBlock := hg9; obtain ⟨a9, n9, c9, rfl⟩ := ownSlice hown9; have x9 := Lib.hid (X5.out.grown hg9 HNE.out); obtain ⟨y0, y1, y2⟩ := x9.out.cells; have fy := fun i => frozen_of_heap x9.out i)
              have hbs := butSet w9 p 2 (.slice a9 n9 c9)
              have hfar : ∀ j, dv.ownBlock = some j → q + 1 ≤ j := fun j hj => (H1.out.lt j hj).1
              have hE9 : Ext w w9 := Below.grown hE5 hg9 hE5.size (fun j hj => by have := hfar j hj; have := HQ.out; omega)
              have x10 := Lib.hid (x9.out.setD (.slice a9 n9 c9))
              have rr9 : OwnRR w9 (q + 1) (.slice a9 n9 c9) ((D.take (k + 1)).map (fun l => Term.left l gone)) := by
                rw [HTK.out]
                exact OwnRR.snoc (w := w5) (v := dv) (xs := xs) (by rw [HK.out]; exact H1.out) H2.out H3.out HU.out hg9 (by rw [HK.out]; exact hown9)
              have rr10 := Lib.hid (rr9.but x9.out (by decide) (by decide) hbs)
              have s10 := Lib.hid (((OS.out.ext hz).grown H1.out hg9).but x9.out (by decide) hbs)
              have hneA : some q ≠ dv.ownBlock := rowBeside H1.out (A.out.ext hz) (by decide)
              have hneR : some (q + 1) ≠ dv.ownBlock := rowBeside H1.out (R.out.ext hz) (by decide)
              have A10 := Lib.hid (((A.out.ext hz).grown hg9 hneA).but hbs (by omega))
              have R10 := Lib.hid (((R.out.ext hz).grown hg9 hneR).but hbs (by omega))
              have hE10 : Ext w (w9.setCell ⟨p, 2, none⟩ (.slice a9 n9 c9)) := Below.setCell hE9 (p := ⟨p, 2, none⟩) (by show w.heap.size ≤ p; have := HQ.out; omega) _
              clear hown9 hg9 rr9 hbs y0 y1 y2 fy hneA hneR
              go_wp2_with fail
              go_roundw
              case rel => exact ⟨k + 1, by omega, by go_num, _, x10.out, rr10.out, s10.out, A10.out, R10.out, hE10⟩
              case measure => simp [intOf]; omega
          · have hK : (D.take k).map (fun l => Term.left l gone) = D.map (fun l => Term.left l gone) := by rw [List.take_of_length_le (by omega)]
            rw [hK] at O
            have HXB := Lib.hid (show ∀ w', Ext wr w' → IsConf w' (confV (t + 1) (.slice an 0 cn) dv) (Term.next ⟨t, S, D⟩ gone) from fun w' h => by rw [HNX.out]; exact ⟨_, _, rfl, (OS.out.ext h).ints, (O.out.ext h).rows⟩)
            obtain ⟨da, dn, dc, rfl⟩ := O.out.slice
            obtain ⟨d0, d1, d2⟩ := X.out.cells
            obtain ⟨y0, y1, y2⟩ := A.out.cells
            clear hK
            go_wp2_with fail
            refine (refRight6_any _ (Term.next ⟨t, S, D⟩ gone) _ (HXB.out _ (Ext.refl _))).mono ?_
            rintro e w11 ⟨rfl, hE11⟩
            have r11 := Lib.hid (R.out.ext hE11)
            have x11 := Lib.hid (X.out.ext hE11)
            have e11 := hE.trans hE11
            clear d0 d1 d2 y0 y1 y2
            obtain ⟨c0, c1, c2⟩ := r11.out.cells
            obtain ⟨d0, d1, d2⟩ := x11.out.cells
            have fr : ∀ i, w11.frozen? ⟨q + 1, i, none⟩ = false := fun i => frozen_of_heap r11.out i
            cases hrr : Term.right (Term.next ⟨t, S, D⟩ gone) with
            | false =>
              have HRR := Lib.hid hrr
              clear hrr
              go_wp2_with fail
              have hs := r11.out.setAll 0 (.slice none 0 0) (.slice none 0 0)
              exact bodyPost_ret (v := .tuple #[confV 0 (.slice none 0 0) (.slice none 0 0), .bool false]) (by simp [results, Tryz.results28, go_sem, c0, c1, c2, fr, confV]) rfl
                ⟨_, by rw [HN.out, HRR.out], by rw [HN.out, HRR.out]; exact ⟨_, _, rfl, ints0 _, irows0 _⟩, Below.trans (B := w.heap.size) e11 (hs.2.below (by have := HQ.out; omega) e11.size)⟩
            | true =>
              have HRR := Lib.hid hrr
              clear hrr
              go_wp2_with fail
              have hs := r11.out.setAll (t + 1) (.slice an 0 cn) (.slice da dn dc)
              refine bodyPost_ret (v := .tuple #[confV (t + 1) (.slice an 0 cn) (.slice da dn dc), .bool true]) (by simp [results, Tryz.results28, go_sem, c0, c1, c2, d0, d1, d2, fr, confV]) rfl
                ⟨_, by rw [HN.out, HRR.out], by rw [HN.out, HRR.out, show orNoC true (Term.next ⟨t, S, D⟩ gone) = Term.next ⟨t, S, D⟩ gone from rfl, HNX.out]; exact ⟨_, _, rfl, ((OS.out.ext hE11).but r11.out (by decide) hs.2).ints, ((O.out.ext hE11).but r11.out (by decide) (by decide) hs.2).rows⟩, Below.trans (B := w.heap.size) e11 (hs.2.below (by have := HQ.out; omega) e11.size)⟩
      · by_cases n1 : NL.length % 2 = 0
        · obtain ⟨k9, hk9⟩ : ∃ k9, NL.length = k9 + 1 := ⟨NL.length - 1, by omega⟩
          have HOD := Lib.hid (show Term.odd NL = List.take k9 NL by rw [oddEven n1, hk9]; rfl)
          have hk9c : k9 ≤ cn := by
            obtain ⟨a8, c8, e8, h8, _⟩ := O3.out.ints.open
            injection e8 with _ _ e8
            omega
          have hsl := fun wy => to6 wy an (k9 + 1) cn k9 hk9c
          have O3c := Lib.hid (O3.out.cut k9 (by omega))
          have hpos : (0 : Int) < (k9 : Int) + 1 := by omega
          have hrem : (((k9 : Int) + 1) % 2 == 0) = true := by rw [beq_iff_eq]; omega
          rw [hk9] at X3 e3 A3 R3 O3c ⊢
          have fy := fun i => frozen_of_heap X3.out i
          have hbs := butSet (((w2.setCell ⟨p, 0, none⟩ (.int .i64 (t + 1))).setCell ⟨p, 1, none⟩ (.slice an (k9 + 1) cn)).setCell ⟨p, 2, none⟩ (.slice none 0 0)) p 1 (.slice an k9 cn)
          have X4 := Lib.hid (X3.out.setS (.slice an k9 cn))
          have A4 := Lib.hid (A3.out.but hbs (by omega))
          have R4 := Lib.hid (R3.out.but hbs (by omega))
          have O4 := Lib.hid (O3c.out.but X3.out (by decide) hbs)
          have e4 : Ext w _ := Below.setCell e3 (p := ⟨p, 1, none⟩) (by show w.heap.size ≤ p; have := HQ.out; omega) (.slice an k9 cn)
          clear hbs n0 n1 O3
          go_wp2_with fail
          clear c0 c1 c2 fp fy
          generalize hw4 : ((((w2.setCell ⟨p, 0, none⟩ (.int .i64 (t + 1))).setCell ⟨p, 1, none⟩ (.slice an (k9 + 1) cn)).setCell ⟨p, 2, none⟩ (.slice none 0 0))).setCell ⟨p, 1, none⟩ (.slice an k9 cn) = w4 at *
          clear hw4 X3 A3 R3 O3c e3 hsl hrem
          have HNX := Lib.hid (show Term.next ⟨t, S, D⟩ gone = ⟨t + 1, (List.take k9 NL), D.map (fun l => Term.left l gone)⟩ by unfold Term.next; simp only; rw [HNL.out, HOD.out])
          go_loopw [7] (fun i wr => ∃ k : Nat, k ≤ D.length ∧ i = .int .i64 k ∧ ∃ dv, Hid (ConfAt 25 wr p (t + 1) (.slice an k9 cn) dv) ∧ Hid (OwnRR wr (q + 1) dv ((D.take k).map (fun l => Term.left l gone))) ∧ Hid (OwnI wr q (.slice an k9 cn) (List.take k9 NL)) ∧ Hid (ConfAt 25 wr q t (.slice a1 S.length cap1) (.slice a2 D.length cap2)) ∧ Hid (ConfAt 25 wr (q + 1) 0 (.slice none 0 0) (.slice none 0 0)) ∧ Ext w wr) (fun i _ => D.length - (intOf i).toNat)
          case atStart => exact ⟨0, by omega, rfl, _, X4.out, OwnRR.nil _ _, O4.out, A4.out, R4.out, e4⟩
          case round =>
            obtain ⟨k, hk, rfl, dv, X, O, OS, A, R, hE⟩ := hrel
            by_cases hlt : k < D.length
            · obtain ⟨a', cap', e', _, _, hc⟩ := (HD.out.below hE).open
              obtain ⟨b, off, x, rfl, hcell, hx⟩ := hc k hlt
              injection e' with e4 e5 e6
              subst e4
              clear hc e5 e6
              have HX := Lib.hid hx
              obtain ⟨ax, cx, rfl, _⟩ := hx.open
              obtain ⟨g1, g2, g3⟩ := Term.shard_ok (HQ3.out _ (List.getElem_mem hlt))
              have HTK := Lib.hid (show (D.take (k + 1)).map (fun l => Term.left l gone) = (D.take k).map (fun l => Term.left l gone) ++ [Term.left D[k] gone] by rw [take_succ_getD D k hlt, List.map_append]; rfl)
              have HK := Lib.hid (show ((D.take k).map (fun l => Term.left l gone)).length = k by simp; omega)
              have HST := Lib.hid (fun (wy : World) (h : Ext wr wy) => refLeft6_any (.slice ax D[k].length cx) (.slice ga gone.length gcap) D[k] gone wy (HX.out.below h) (HG.out.below (hE.trans h)) (by omega))
              have HCL := Lib.hid (fun (wy : World) (h : Ext wr wy) => cellExtN h hcell)
              obtain ⟨y0, y1, y2⟩ := A.out.cells
              have hqr : q + 1 ≤ wr.heap.size := by have := R.out.lt; omega
              have HZ := Lib.hid (fun (wy : World) (h : Ext wr wy) => Nat.le_trans hqr h.size)
              clear hx g3
              go_wp2_with fail
              clear y0 y1 y2
              refine wp_region_tail (by kernel_rfl) 10 Ext (fun iop v w => match iop with
                  | 0 => v = .pointer (some ⟨p, 2, none⟩)
                  | 1 => v = dv
                  | 2 => v = .pointer (some ⟨q, 2, none⟩)
                  | 3 => v = .slice (some ⟨b, off, none⟩) D.length cap2
                  | 4 => v = .int .i64 (k : Int)
                  | 5 => v = .pointer (some ⟨b, off + k, none⟩)
                  | 6 => v = .slice ax D[k].length cx
                  | 7 => v = .slice ga gone.length gcap
                  | 8 => ∃ un uc, v = .slice un (Term.left D[k] gone).length uc ∧ OwnI w (q + 1) v (Term.left D[k] gone)
                  | _ => ∃ x an n c, x = .slice an n c ∧ OwnI w (q + 1) x (Term.left D[k] gone) ∧ Sl w v [x]
                  ) (by kernel_rfl) (by kernel_rfl) (by decide) (fun _ _ _ h k => Ext.trans h k) (fun a => Ext.refl a) (Ext.drew _) ?_ ?_ ?_
              · intro iop v wa wb hF hL
                cases iop with
                | zero => exact hF
                | succ iop =>
                  cases iop with
                  | zero => exact hF
                  | succ iop =>
                    cases iop with
                    | zero => exact hF
                    | succ iop =>
                      cases iop with
                      | zero => exact hF
                      | succ iop =>
                        cases iop with
                        | zero => exact hF
                        | succ iop =>
                          cases iop with
                          | zero => exact hF
                          | succ iop =>
                            cases iop with
                            | zero => exact hF
                            | succ iop =>
                              cases iop with
                              | zero => exact hF
                              | succ iop =>
                                cases iop with
                                | zero => (first | exact hF | (obtain ⟨a, b, h1, h2⟩ := hF; exact ⟨a, b, h1, h2.ext hL⟩) | (obtain ⟨x, a, n, c, h1, h2, h3⟩ := hF; exact ⟨x, a, n, c, h1, h2.ext hL, h3.below hL⟩))
                                | succ iop =>
                                  (first | exact hF | (obtain ⟨a, b, h1, h2⟩ := hF; exact ⟨a, b, h1, h2.ext hL⟩) | (obtain ⟨x, a, n, c, h1, h2, h3⟩ := hF; exact ⟨x, a, n, c, h1, h2.ext hL, h3.below hL⟩))
              · refine Obls.cons ?_ (Obls.cons ?_ (Obls.cons ?_ (Obls.cons ?_ (Obls.cons ?_ (Obls.cons ?_ (Obls.cons ?_ (Obls.cons ?_ (Obls.cons ?_ (Obls.cons ?_ (Obls.nil))))))))))
                · intro ev wy hp hl hk hd
                  have e6 : ev (.tmp 6) = .pointer (some ⟨p, 0, none⟩) := hk 6 (by decide)
                  clear hk
                  clear hd
                  exact Yield.op (v := .pointer (some ⟨p, 2, none⟩)) (w' := wy) (by simp [execOp, go_sem, e6]) ⟨Ext.refl _, rfl⟩
                · intro ev wy hp hl hk hd
                  have e46 : ev (.tmp 46) = .pointer (some ⟨p, 2, none⟩) := hk 46 (by decide)
                  clear hk
                  clear hd
                  obtain ⟨da, dn, dc, hdv⟩ := O.out.slice
                  exact Yield.load rfl e46 (by rw [hdv]; simp [go_sem, (X.out.ext hl).cells.2.2, hdv]) ⟨Ext.refl _, rfl⟩
                · intro ev wy hp hl hk hd
                  have e2 : ev (.tmp 2) = .pointer (some ⟨q, 0, none⟩) := hk 2 (by decide)
                  clear hk
                  clear hd
                  exact Yield.op (v := .pointer (some ⟨q, 2, none⟩)) (w' := wy) (by simp [execOp, go_sem, e2]) ⟨Ext.refl _, rfl⟩
                · intro ev wy hp hl hk hd
                  have e48 : ev (.tmp 48) = .pointer (some ⟨q, 2, none⟩) := hk 48 (by decide)
                  clear hk
                  clear hd
                  exact Yield.load rfl e48 (by simp [go_sem, (A.out.ext hl).cells.2.2]) ⟨Ext.refl _, rfl⟩
                · intro ev wy hp hl hk hd
                  have e7 : ev (.tmp 7) = .int .i64 (k : Int) := hk 7 (by decide)
                  clear hk
                  clear hd
                  exact Yield.mv rfl ⟨Ext.refl _, e7⟩
                · intro ev wy hp hl hk hd
                  have e49 : ev (.tmp 49) = .slice (some ⟨b, off, none⟩) D.length cap2 := hk 49 (by decide)
                  have e50 : ev (.tmp 50) = .int .i64 (k : Int) := hk 50 (by decide)
                  clear hk
                  clear hd
                  exact Yield.op (w' := wy) (by simp [execOp, go_sem, e49, e50]; omega) ⟨Ext.refl _, rfl⟩
                · intro ev wy hp hl hk hd
                  have e51 : ev (.tmp 51) = .pointer (some ⟨b, off + k, none⟩) := hk 51 (by decide)
                  clear hk
                  clear hd
                  exact Yield.load rfl e51 (by simp [go_sem, HCL.out wy hl]) ⟨Ext.refl _, rfl⟩
                · intro ev wy hp hl hk hd
                  have e1 : ev (.tmp 1) = .slice ga gone.length gcap := hk 1 (by decide)
                  clear hk
                  clear hd
                  exact Yield.mv rfl ⟨Ext.refl _, e1⟩
                · intro ev wy hp hl hk hd
                  have e52 : ev (.tmp 52) = .slice ax D[k].length cx := hk 52 (by decide)
                  have e53 : ev (.tmp 53) = .slice ga gone.length gcap := hk 53 (by decide)
                  clear hk
                  clear hd
                  refine Yield.call rfl hp Tryz.func60 rfl (by kernel_rfl) ?_
                  simp only [List.map_toArray, List.map_cons, List.map_nil, e52, e53]
                  exact (HST.out wy hl).mono fun e w' ⟨u, he, ho, hE⟩ => ⟨u, he, hE, by obtain ⟨ua, uc, hu, _⟩ := ho.ints.open; exact ⟨ua, uc, hu, ho.lower (HZ.out wy hl)⟩⟩
                · intro ev wy hp hl hk hd
                  have f54 : (fun (v : Value) (w : World) => ∃ un uc, v = .slice un (Term.left D[k] gone).length uc ∧ OwnI w (q + 1) v (Term.left D[k] gone)) (ev (.tmp 54)) wy := hk 54 (by decide)
                  generalize hx54 : ev (.tmp 54) = x54 at *
                  clear hk
                  clear hd
                  obtain ⟨un, uc, hv54, ho54⟩ := f54
                  subst hv54
                  exact Yield.op (v := .slice (some ⟨wy.heap.size, 0, none⟩) 1 1) (w' := wy.alloc (.cells #[.slice un (Term.left D[k] gone).length uc] 22)) (by simp [execOp, go_sem, hx54, build_row1]) ⟨Ext.alloc _ _, _, _, _, _, rfl, ho54.ext (Ext.alloc _ _), slOne wy _ 22⟩
              · intro vals wz hz hv
                have g46 : vals 0 = .pointer (some ⟨p, 2, none⟩) := hv 0 (by decide)
                have g47 : vals 1 = dv := hv 1 (by decide)
                have g48 : vals 2 = .pointer (some ⟨q, 2, none⟩) := hv 2 (by decide)
                have g49 : vals 3 = .slice (some ⟨b, off, none⟩) D.length cap2 := hv 3 (by decide)
                have g50 : vals 4 = .int .i64 (k : Int) := hv 4 (by decide)
                have g51 : vals 5 = .pointer (some ⟨b, off + k, none⟩) := hv 5 (by decide)
                have g52 : vals 6 = .slice ax D[k].length cx := hv 6 (by decide)
                have g53 : vals 7 = .slice ga gone.length gcap := hv 7 (by decide)
                have g54 : (fun (v : Value) (w : World) => ∃ un uc, v = .slice un (Term.left D[k] gone).length uc ∧ OwnI w (q + 1) v (Term.left D[k] gone)) (vals 8) wz := hv 8 (by decide)
                have g55 : (fun (v : Value) (w : World) => ∃ x an n c, x = .slice an n c ∧ OwnI w (q + 1) x (Term.left D[k] gone) ∧ Sl w v [x]) (vals 9) wz := hv 9 (by decide)
                clear hv
                simp only [List.take_succ_cons, List.take_zero, List.drop_succ_cons, List.drop_zero]
                simp only [putAll, Act.put, List.setIfInBounds_toArray, List.set_cons_zero, List.set_cons_succ, g46, g47, g48, g49, g50, g51, g52, g53]
                clear g46
                clear g47
                clear g48
                clear g49
                clear g50
                clear g51
                clear g52
                clear g53
                generalize vals 8 = v54 at *
                generalize vals 9 = v55 at *
                obtain ⟨w5, hw5⟩ : ∃ w5, w5 = wz := ⟨_, rfl⟩
                rw [← hw5] at hz g54 g55 ⊢
                clear hw5 g54
                obtain ⟨u5, ua, un, uc, hu5, hou5, hsl5⟩ := g55
                obtain ⟨sa, sn, sc, rfl⟩ : ∃ a n c, v55 = .slice a n c := by obtain ⟨a9, c9, e9, _⟩ := hsl5; exact ⟨_, _, _, e9⟩
                have hE5 := hE.trans hz
                have X5 := Lib.hid (X.out.ext hz)
                obtain ⟨xs, h1, h2, h3⟩ := O.out.ext hz
                rw [HK.out] at h1
                have H1 := Lib.hid h1
                have H2 := Lib.hid h2
                have H3 := Lib.hid h3
                have HU := Lib.hid hou5
                have HS5 := Lib.hid hsl5
                have hone := Lib.hid (oneSlice ⟨ua, un, uc, hu5⟩)
                have hk1 := Lib.hid (show k + [u5].length ≤ maxLen by simp [maxLen]; omega)
                have hk2 := Lib.hid (show (k + [u5].length) * 24 ≤ 140737488355328 by simp; omega)
                have hz5 := Lib.hid (HZ.out w5 hz)
                have HNE := Lib.hid (rowBeside h1 X5.out (by decide))
                clear h1 h2 h3 hou5 hsl5
                go_wp2_with (at_builtin; refine wpList_app rfl (.tmp 47) (.tmp 55) tRow rfl rfl rfl H1.out HS5.out hone.out hk1.out hk2.out hz5.out ?_; intro v9 w9 hown9 hg9; have hg9 : w5.grownBy w9 dv.ownBlock := hg9; obtain ⟨a9, n9, c9, rfl⟩ := ownSlice hown9; have x9 := Lib.hid (X5.out.grown hg9 HNE.out); obtain ⟨y0, y1, y2⟩ := x9.out.cells; have fy := fun i => frozen_of_heap x9.out i)
                have hbs := butSet w9 p 2 (.slice a9 n9 c9)
                have hfar : ∀ j, dv.ownBlock = some j → q + 1 ≤ j := fun j hj => (H1.out.lt j hj).1
                have hE9 : Ext w w9 := Below.grown hE5 hg9 hE5.size (fun j hj => by have := hfar j hj; have := HQ.out; omega)
                have x10 := Lib.hid (x9.out.setD (.slice a9 n9 c9))
                have rr9 : OwnRR w9 (q + 1) (.slice a9 n9 c9) ((D.take (k + 1)).map (fun l => Term.left l gone)) := by
                  rw [HTK.out]
                  exact OwnRR.snoc (w := w5) (v := dv) (xs := xs) (by rw [HK.out]; exact H1.out) H2.out H3.out HU.out hg9 (by rw [HK.out]; exact hown9)
                have rr10 := Lib.hid (rr9.but x9.out (by decide) (by decide) hbs)
                have s10 := Lib.hid (((OS.out.ext hz).grown H1.out hg9).but x9.out (by decide) hbs)
                have hneA : some q ≠ dv.ownBlock := rowBeside H1.out (A.out.ext hz) (by decide)
                have hneR : some (q + 1) ≠ dv.ownBlock := rowBeside H1.out (R.out.ext hz) (by decide)
                have A10 := Lib.hid (((A.out.ext hz).grown hg9 hneA).but hbs (by omega))
                have R10 := Lib.hid (((R.out.ext hz).grown hg9 hneR).but hbs (by omega))
                have hE10 : Ext w (w9.setCell ⟨p, 2, none⟩ (.slice a9 n9 c9)) := Below.setCell hE9 (p := ⟨p, 2, none⟩) (by show w.heap.size ≤ p; have := HQ.out; omega) _
                clear hown9 hg9 rr9 hbs y0 y1 y2 fy hneA hneR
                go_wp2_with fail
                go_roundw
                case rel => exact ⟨k + 1, by omega, by go_num, _, x10.out, rr10.out, s10.out, A10.out, R10.out, hE10⟩
                case measure => simp [intOf]; omega
            · have hK : (D.take k).map (fun l => Term.left l gone) = D.map (fun l => Term.left l gone) := by rw [List.take_of_length_le (by omega)]
              rw [hK] at O
              have HXB := Lib.hid (show ∀ w', Ext wr w' → IsConf w' (confV (t + 1) (.slice an k9 cn) dv) (Term.next ⟨t, S, D⟩ gone) from fun w' h => by rw [HNX.out]; exact ⟨_, _, rfl, (OS.out.ext h).ints, (O.out.ext h).rows⟩)
              obtain ⟨da, dn, dc, rfl⟩ := O.out.slice
              obtain ⟨d0, d1, d2⟩ := X.out.cells
              obtain ⟨y0, y1, y2⟩ := A.out.cells
              clear hK
              go_wp2_with fail
              refine (refRight6_any _ (Term.next ⟨t, S, D⟩ gone) _ (HXB.out _ (Ext.refl _))).mono ?_
              rintro e w11 ⟨rfl, hE11⟩
              have r11 := Lib.hid (R.out.ext hE11)
              have x11 := Lib.hid (X.out.ext hE11)
              have e11 := hE.trans hE11
              clear d0 d1 d2 y0 y1 y2
              obtain ⟨c0, c1, c2⟩ := r11.out.cells
              obtain ⟨d0, d1, d2⟩ := x11.out.cells
              have fr : ∀ i, w11.frozen? ⟨q + 1, i, none⟩ = false := fun i => frozen_of_heap r11.out i
              cases hrr : Term.right (Term.next ⟨t, S, D⟩ gone) with
              | false =>
                have HRR := Lib.hid hrr
                clear hrr
                go_wp2_with fail
                have hs := r11.out.setAll 0 (.slice none 0 0) (.slice none 0 0)
                exact bodyPost_ret (v := .tuple #[confV 0 (.slice none 0 0) (.slice none 0 0), .bool false]) (by simp [results, Tryz.results28, go_sem, c0, c1, c2, fr, confV]) rfl
                  ⟨_, by rw [HN.out, HRR.out], by rw [HN.out, HRR.out]; exact ⟨_, _, rfl, ints0 _, irows0 _⟩, Below.trans (B := w.heap.size) e11 (hs.2.below (by have := HQ.out; omega) e11.size)⟩
              | true =>
                have HRR := Lib.hid hrr
                clear hrr
                go_wp2_with fail
                have hs := r11.out.setAll (t + 1) (.slice an k9 cn) (.slice da dn dc)
                refine bodyPost_ret (v := .tuple #[confV (t + 1) (.slice an k9 cn) (.slice da dn dc), .bool true]) (by simp [results, Tryz.results28, go_sem, c0, c1, c2, d0, d1, d2, fr, confV]) rfl
                  ⟨_, by rw [HN.out, HRR.out], by rw [HN.out, HRR.out, show orNoC true (Term.next ⟨t, S, D⟩ gone) = Term.next ⟨t, S, D⟩ gone from rfl, HNX.out]; exact ⟨_, _, rfl, ((OS.out.ext hE11).but r11.out (by decide) hs.2).ints, ((O.out.ext hE11).but r11.out (by decide) (by decide) hs.2).rows⟩, Below.trans (B := w.heap.size) e11 (hs.2.below (by have := HQ.out; omega) e11.size)⟩
        · have HOD := Lib.hid (oddOdd n1)
          obtain ⟨k9, hk9⟩ : ∃ k9, NL.length = k9 + 1 := ⟨NL.length - 1, by omega⟩
          have hpos : (0 : Int) < (k9 : Int) + 1 := by omega
          have hrem : (((k9 : Int) + 1) % 2 == 0) = false := by rw [beq_eq_false_iff_ne]; omega
          rw [hk9] at X3 e3 A3 R3 O3 ⊢
          clear n0 n1
          go_wp2_with fail
          clear c0 c1 c2 fp
          generalize hw3 : (((w2.setCell ⟨p, 0, none⟩ (.int .i64 (t + 1))).setCell ⟨p, 1, none⟩ (.slice an (k9 + 1) cn)).setCell ⟨p, 2, none⟩ (.slice none 0 0)) = w4 at *
          clear hw3
          have X4 := X3
          have O4 := O3
          have A4 := A3
          have R4 := R3
          have e4 := e3
          clear X3 O3 A3 R3 e3 hrem
          have HNX := Lib.hid (show Term.next ⟨t, S, D⟩ gone = ⟨t + 1, NL, D.map (fun l => Term.left l gone)⟩ by unfold Term.next; simp only; rw [HNL.out, HOD.out])
          go_loopw [7] (fun i wr => ∃ k : Nat, k ≤ D.length ∧ i = .int .i64 k ∧ ∃ dv, Hid (ConfAt 25 wr p (t + 1) (.slice an (k9 + 1) cn) dv) ∧ Hid (OwnRR wr (q + 1) dv ((D.take k).map (fun l => Term.left l gone))) ∧ Hid (OwnI wr q (.slice an (k9 + 1) cn) NL) ∧ Hid (ConfAt 25 wr q t (.slice a1 S.length cap1) (.slice a2 D.length cap2)) ∧ Hid (ConfAt 25 wr (q + 1) 0 (.slice none 0 0) (.slice none 0 0)) ∧ Ext w wr) (fun i _ => D.length - (intOf i).toNat)
          case atStart => exact ⟨0, by omega, rfl, _, X4.out, OwnRR.nil _ _, O4.out, A4.out, R4.out, e4⟩
          case round =>
            obtain ⟨k, hk, rfl, dv, X, O, OS, A, R, hE⟩ := hrel
            by_cases hlt : k < D.length
            · obtain ⟨a', cap', e', _, _, hc⟩ := (HD.out.below hE).open
              obtain ⟨b, off, x, rfl, hcell, hx⟩ := hc k hlt
              injection e' with e4 e5 e6
              subst e4
              clear hc e5 e6
              have HX := Lib.hid hx
              obtain ⟨ax, cx, rfl, _⟩ := hx.open
              obtain ⟨g1, g2, g3⟩ := Term.shard_ok (HQ3.out _ (List.getElem_mem hlt))
              have HTK := Lib.hid (show (D.take (k + 1)).map (fun l => Term.left l gone) = (D.take k).map (fun l => Term.left l gone) ++ [Term.left D[k] gone] by rw [take_succ_getD D k hlt, List.map_append]; rfl)
              have HK := Lib.hid (show ((D.take k).map (fun l => Term.left l gone)).length = k by simp; omega)
              have HST := Lib.hid (fun (wy : World) (h : Ext wr wy) => refLeft6_any (.slice ax D[k].length cx) (.slice ga gone.length gcap) D[k] gone wy (HX.out.below h) (HG.out.below (hE.trans h)) (by omega))
              have HCL := Lib.hid (fun (wy : World) (h : Ext wr wy) => cellExtN h hcell)
              obtain ⟨y0, y1, y2⟩ := A.out.cells
              have hqr : q + 1 ≤ wr.heap.size := by have := R.out.lt; omega
              have HZ := Lib.hid (fun (wy : World) (h : Ext wr wy) => Nat.le_trans hqr h.size)
              clear hx g3
              go_wp2_with fail
              clear y0 y1 y2
              refine wp_region_tail (by kernel_rfl) 10 Ext (fun iop v w => match iop with
                  | 0 => v = .pointer (some ⟨p, 2, none⟩)
                  | 1 => v = dv
                  | 2 => v = .pointer (some ⟨q, 2, none⟩)
                  | 3 => v = .slice (some ⟨b, off, none⟩) D.length cap2
                  | 4 => v = .int .i64 (k : Int)
                  | 5 => v = .pointer (some ⟨b, off + k, none⟩)
                  | 6 => v = .slice ax D[k].length cx
                  | 7 => v = .slice ga gone.length gcap
                  | 8 => ∃ un uc, v = .slice un (Term.left D[k] gone).length uc ∧ OwnI w (q + 1) v (Term.left D[k] gone)
                  | _ => ∃ x an n c, x = .slice an n c ∧ OwnI w (q + 1) x (Term.left D[k] gone) ∧ Sl w v [x]
                  ) (by kernel_rfl) (by kernel_rfl) (by decide) (fun _ _ _ h k => Ext.trans h k) (fun a => Ext.refl a) (Ext.drew _) ?_ ?_ ?_
              · intro iop v wa wb hF hL
                cases iop with
                | zero => exact hF
                | succ iop =>
                  cases iop with
                  | zero => exact hF
                  | succ iop =>
                    cases iop with
                    | zero => exact hF
                    | succ iop =>
                      cases iop with
                      | zero => exact hF
                      | succ iop =>
                        cases iop with
                        | zero => exact hF
                        | succ iop =>
                          cases iop with
                          | zero => exact hF
                          | succ iop =>
                            cases iop with
                            | zero => exact hF
                            | succ iop =>
                              cases iop with
                              | zero => exact hF
                              | succ iop =>
                                cases iop with
                                | zero => (first | exact hF | (obtain ⟨a, b, h1, h2⟩ := hF; exact ⟨a, b, h1, h2.ext hL⟩) | (obtain ⟨x, a, n, c, h1, h2, h3⟩ := hF; exact ⟨x, a, n, c, h1, h2.ext hL, h3.below hL⟩))
                                | succ iop =>
                                  (first | exact hF | (obtain ⟨a, b, h1, h2⟩ := hF; exact ⟨a, b, h1, h2.ext hL⟩) | (obtain ⟨x, a, n, c, h1, h2, h3⟩ := hF; exact ⟨x, a, n, c, h1, h2.ext hL, h3.below hL⟩))
              · refine Obls.cons ?_ (Obls.cons ?_ (Obls.cons ?_ (Obls.cons ?_ (Obls.cons ?_ (Obls.cons ?_ (Obls.cons ?_ (Obls.cons ?_ (Obls.cons ?_ (Obls.cons ?_ (Obls.nil))))))))))
                · intro ev wy hp hl hk hd
                  have e6 : ev (.tmp 6) = .pointer (some ⟨p, 0, none⟩) := hk 6 (by decide)
                  clear hk
                  clear hd
                  exact Yield.op (v := .pointer (some ⟨p, 2, none⟩)) (w' := wy) (by simp [execOp, go_sem, e6]) ⟨Ext.refl _, rfl⟩
                · intro ev wy hp hl hk hd
                  have e46 : ev (.tmp 46) = .pointer (some ⟨p, 2, none⟩) := hk 46 (by decide)
                  clear hk
                  clear hd
                  obtain ⟨da, dn, dc, hdv⟩ := O.out.slice
                  exact Yield.load rfl e46 (by rw [hdv]; simp [go_sem, (X.out.ext hl).cells.2.2, hdv]) ⟨Ext.refl _, rfl⟩
                · intro ev wy hp hl hk hd
                  have e2 : ev (.tmp 2) = .pointer (some ⟨q, 0, none⟩) := hk 2 (by decide)
                  clear hk
                  clear hd
                  exact Yield.op (v := .pointer (some ⟨q, 2, none⟩)) (w' := wy) (by simp [execOp, go_sem, e2]) ⟨Ext.refl _, rfl⟩
                · intro ev wy hp hl hk hd
                  have e48 : ev (.tmp 48) = .pointer (some ⟨q, 2, none⟩) := hk 48 (by decide)
                  clear hk
                  clear hd
                  exact Yield.load rfl e48 (by simp [go_sem, (A.out.ext hl).cells.2.2]) ⟨Ext.refl _, rfl⟩
                · intro ev wy hp hl hk hd
                  have e7 : ev (.tmp 7) = .int .i64 (k : Int) := hk 7 (by decide)
                  clear hk
                  clear hd
                  exact Yield.mv rfl ⟨Ext.refl _, e7⟩
                · intro ev wy hp hl hk hd
                  have e49 : ev (.tmp 49) = .slice (some ⟨b, off, none⟩) D.length cap2 := hk 49 (by decide)
                  have e50 : ev (.tmp 50) = .int .i64 (k : Int) := hk 50 (by decide)
                  clear hk
                  clear hd
                  exact Yield.op (w' := wy) (by simp [execOp, go_sem, e49, e50]; omega) ⟨Ext.refl _, rfl⟩
                · intro ev wy hp hl hk hd
                  have e51 : ev (.tmp 51) = .pointer (some ⟨b, off + k, none⟩) := hk 51 (by decide)
                  clear hk
                  clear hd
                  exact Yield.load rfl e51 (by simp [go_sem, HCL.out wy hl]) ⟨Ext.refl _, rfl⟩
                · intro ev wy hp hl hk hd
                  have e1 : ev (.tmp 1) = .slice ga gone.length gcap := hk 1 (by decide)
                  clear hk
                  clear hd
                  exact Yield.mv rfl ⟨Ext.refl _, e1⟩
                · intro ev wy hp hl hk hd
                  have e52 : ev (.tmp 52) = .slice ax D[k].length cx := hk 52 (by decide)
                  have e53 : ev (.tmp 53) = .slice ga gone.length gcap := hk 53 (by decide)
                  clear hk
                  clear hd
                  refine Yield.call rfl hp Tryz.func60 rfl (by kernel_rfl) ?_
                  simp only [List.map_toArray, List.map_cons, List.map_nil, e52, e53]
                  exact (HST.out wy hl).mono fun e w' ⟨u, he, ho, hE⟩ => ⟨u, he, hE, by obtain ⟨ua, uc, hu, _⟩ := ho.ints.open; exact ⟨ua, uc, hu, ho.lower (HZ.out wy hl)⟩⟩
                · intro ev wy hp hl hk hd
                  have f54 : (fun (v : Value) (w : World) => ∃ un uc, v = .slice un (Term.left D[k] gone).length uc ∧ OwnI w (q + 1) v (Term.left D[k] gone)) (ev (.tmp 54)) wy := hk 54 (by decide)
                  generalize hx54 : ev (.tmp 54) = x54 at *
                  clear hk
                  clear hd
                  obtain ⟨un, uc, hv54, ho54⟩ := f54
                  subst hv54
                  exact Yield.op (v := .slice (some ⟨wy.heap.size, 0, none⟩) 1 1) (w' := wy.alloc (.cells #[.slice un (Term.left D[k] gone).length uc] 22)) (by simp [execOp, go_sem, hx54, build_row1]) ⟨Ext.alloc _ _, _, _, _, _, rfl, ho54.ext (Ext.alloc _ _), slOne wy _ 22⟩
              · intro vals wz hz hv
                have g46 : vals 0 = .pointer (some ⟨p, 2, none⟩) := hv 0 (by decide)
                have g47 : vals 1 = dv := hv 1 (by decide)
                have g48 : vals 2 = .pointer (some ⟨q, 2, none⟩) := hv 2 (by decide)
                have g49 : vals 3 = .slice (some ⟨b, off, none⟩) D.length cap2 := hv 3 (by decide)
                have g50 : vals 4 = .int .i64 (k : Int) := hv 4 (by decide)
                have g51 : vals 5 = .pointer (some ⟨b, off + k, none⟩) := hv 5 (by decide)
                have g52 : vals 6 = .slice ax D[k].length cx := hv 6 (by decide)
                have g53 : vals 7 = .slice ga gone.length gcap := hv 7 (by decide)
                have g54 : (fun (v : Value) (w : World) => ∃ un uc, v = .slice un (Term.left D[k] gone).length uc ∧ OwnI w (q + 1) v (Term.left D[k] gone)) (vals 8) wz := hv 8 (by decide)
                have g55 : (fun (v : Value) (w : World) => ∃ x an n c, x = .slice an n c ∧ OwnI w (q + 1) x (Term.left D[k] gone) ∧ Sl w v [x]) (vals 9) wz := hv 9 (by decide)
                clear hv
                simp only [List.take_succ_cons, List.take_zero, List.drop_succ_cons, List.drop_zero]
                simp only [putAll, Act.put, List.setIfInBounds_toArray, List.set_cons_zero, List.set_cons_succ, g46, g47, g48, g49, g50, g51, g52, g53]
                clear g46
                clear g47
                clear g48
                clear g49
                clear g50
                clear g51
                clear g52
                clear g53
                generalize vals 8 = v54 at *
                generalize vals 9 = v55 at *
                obtain ⟨w5, hw5⟩ : ∃ w5, w5 = wz := ⟨_, rfl⟩
                rw [← hw5] at hz g54 g55 ⊢
                clear hw5 g54
                obtain ⟨u5, ua, un, uc, hu5, hou5, hsl5⟩ := g55
                obtain ⟨sa, sn, sc, rfl⟩ : ∃ a n c, v55 = .slice a n c := by obtain ⟨a9, c9, e9, _⟩ := hsl5; exact ⟨_, _, _, e9⟩
                have hE5 := hE.trans hz
                have X5 := Lib.hid (X.out.ext hz)
                obtain ⟨xs, h1, h2, h3⟩ := O.out.ext hz
                rw [HK.out] at h1
                have H1 := Lib.hid h1
                have H2 := Lib.hid h2
                have H3 := Lib.hid h3
                have HU := Lib.hid hou5
                have HS5 := Lib.hid hsl5
                have hone := Lib.hid (oneSlice ⟨ua, un, uc, hu5⟩)
                have hk1 := Lib.hid (show k + [u5].length ≤ maxLen by simp [maxLen]; omega)
                have hk2 := Lib.hid (show (k + [u5].length) * 24 ≤ 140737488355328 by simp; omega)
                have hz5 := Lib.hid (HZ.out w5 hz)
                have HNE := Lib.hid (rowBeside h1 X5.out (by decide))
                clear h1 h2 h3 hou5 hsl5
                go_wp2_with (at_builtin; refine wpList_app rfl (.tmp 47) (.tmp 55) tRow rfl rfl rfl H1.out HS5.out hone.out hk1.out hk2.out hz5.out ?_; intro v9 w9 hown9 hg9; have hg9 : w5.grownBy w9 dv.ownBlock := hg9; obtain ⟨a9, n9, c9, rfl⟩ := ownSlice hown9; have x9 := Lib.hid (X5.out.grown hg9 HNE.out); obtain ⟨y0, y1, y2⟩ := x9.out.cells; have fy := fun i => frozen_of_heap x9.out i)
                have hbs := butSet w9 p 2 (.slice a9 n9 c9)
                have hfar : ∀ j, dv.ownBlock = some j → q + 1 ≤ j := fun j hj => (H1.out.lt j hj).1
                have hE9 : Ext w w9 := Below.grown hE5 hg9 hE5.size (fun j hj => by have := hfar j hj; have := HQ.out; omega)
                have x10 := Lib.hid (x9.out.setD (.slice a9 n9 c9))
                have rr9 : OwnRR w9 (q + 1) (.slice a9 n9 c9) ((D.take (k + 1)).map (fun l => Term.left l gone)) := by
                  rw [HTK.out]
                  exact OwnRR.snoc (w := w5) (v := dv) (xs := xs) (by rw [HK.out]; exact H1.out) H2.out H3.out HU.out hg9 (by rw [HK.out]; exact hown9)
                have rr10 := Lib.hid (rr9.but x9.out (by decide) (by decide) hbs)
                have s10 := Lib.hid (((OS.out.ext hz).grown H1.out hg9).but x9.out (by decide) hbs)
                have hneA : some q ≠ dv.ownBlock := rowBeside H1.out (A.out.ext hz) (by decide)
                have hneR : some (q + 1) ≠ dv.ownBlock := rowBeside H1.out (R.out.ext hz) (by decide)
                have A10 := Lib.hid (((A.out.ext hz).grown hg9 hneA).but hbs (by omega))
                have R10 := Lib.hid (((R.out.ext hz).grown hg9 hneR).but hbs (by omega))
                have hE10 : Ext w (w9.setCell ⟨p, 2, none⟩ (.slice a9 n9 c9)) := Below.setCell hE9 (p := ⟨p, 2, none⟩) (by show w.heap.size ≤ p; have := HQ.out; omega) _
                clear hown9 hg9 rr9 hbs y0 y1 y2 fy hneA hneR
                go_wp2_with fail
                go_roundw
                case rel => exact ⟨k + 1, by omega, by go_num, _, x10.out, rr10.out, s10.out, A10.out, R10.out, hE10⟩
                case measure => simp [intOf]; omega
            · have hK : (D.take k).map (fun l => Term.left l gone) = D.map (fun l => Term.left l gone) := by rw [List.take_of_length_le (by omega)]
              rw [hK] at O
              have HXB := Lib.hid (show ∀ w', Ext wr w' → IsConf w' (confV (t + 1) (.slice an (k9 + 1) cn) dv) (Term.next ⟨t, S, D⟩ gone) from fun w' h => by rw [HNX.out]; exact ⟨_, _, rfl, (OS.out.ext h).ints, (O.out.ext h).rows⟩)
              obtain ⟨da, dn, dc, rfl⟩ := O.out.slice
              obtain ⟨d0, d1, d2⟩ := X.out.cells
              obtain ⟨y0, y1, y2⟩ := A.out.cells
              clear hK
              go_wp2_with fail
              refine (refRight6_any _ (Term.next ⟨t, S, D⟩ gone) _ (HXB.out _ (Ext.refl _))).mono ?_
              rintro e w11 ⟨rfl, hE11⟩
              have r11 := Lib.hid (R.out.ext hE11)
              have x11 := Lib.hid (X.out.ext hE11)
              have e11 := hE.trans hE11
              clear d0 d1 d2 y0 y1 y2
              obtain ⟨c0, c1, c2⟩ := r11.out.cells
              obtain ⟨d0, d1, d2⟩ := x11.out.cells
              have fr : ∀ i, w11.frozen? ⟨q + 1, i, none⟩ = false := fun i => frozen_of_heap r11.out i
              cases hrr : Term.right (Term.next ⟨t, S, D⟩ gone) with
              | false =>
                have HRR := Lib.hid hrr
                clear hrr
                go_wp2_with fail
                have hs := r11.out.setAll 0 (.slice none 0 0) (.slice none 0 0)
                exact bodyPost_ret (v := .tuple #[confV 0 (.slice none 0 0) (.slice none 0 0), .bool false]) (by simp [results, Tryz.results28, go_sem, c0, c1, c2, fr, confV]) rfl
                  ⟨_, by rw [HN.out, HRR.out], by rw [HN.out, HRR.out]; exact ⟨_, _, rfl, ints0 _, irows0 _⟩, Below.trans (B := w.heap.size) e11 (hs.2.below (by have := HQ.out; omega) e11.size)⟩
              | true =>
                have HRR := Lib.hid hrr
                clear hrr
                go_wp2_with fail
                have hs := r11.out.setAll (t + 1) (.slice an (k9 + 1) cn) (.slice da dn dc)
                refine bodyPost_ret (v := .tuple #[confV (t + 1) (.slice an (k9 + 1) cn) (.slice da dn dc), .bool true]) (by simp [results, Tryz.results28, go_sem, c0, c1, c2, d0, d1, d2, fr, confV]) rfl
                  ⟨_, by rw [HN.out, HRR.out], by rw [HN.out, HRR.out, show orNoC true (Term.next ⟨t, S, D⟩ gone) = Term.next ⟨t, S, D⟩ gone from rfl, HNX.out]; exact ⟨_, _, rfl, ((OS.out.ext hE11).but r11.out (by decide) hs.2).ints, ((O.out.ext hE11).but r11.out (by decide) (by decide) hs.2).rows⟩, Below.trans (B := w.heap.size) e11 (hs.2.below (by have := HQ.out; omega) e11.size)⟩
end Go.Proofs.YtpfodkgncachiaaGreat
