/-
  Layer 6, the program: the next configuration.
-/
import Derived.Test.YtpfodkgncachiaaTrmH
import Derived.Test.YtpfodkgncachiaaTrmP
import Derived.Test.YtpfodkgncachiaaRegion3
namespace Go.Proofs.Ytpfodkgncachiaa
set_option linter.unusedSimpArgs false
set_option linter.unusedVariables false
set_option maxRecDepth 100000
open Go.RowKit

theorem Yield.callv {P : Program} {o : Oper} {ev : Operand → Value} {w : World} {R : Value → World → Prop} {F : FuncId} {x : Operand} {caps : Array Value} {xs : Array Operand} {ats : Array TypeId} {fn : Func} {c : Code} (ho : o.op = .call { callee := .value x, args := xs, argTypes := ats }) (hx : ev x = .func (.func F) #[] caps) (hf : P.funcs[F]? = some fn) (hb : fn.body = some c)
    (hn : (fn.name == "runtime.NumGoroutine") = false) (h : Calls P F (xs.map ev ++ caps) w (fun e w' => ∃ v, e = .returned v ∧ R v w')) : Yield P o ev w R := by
  unfold Yield execOp
  have hr : (do let d ← resolve ev { callee := .value x, args := xs, argTypes := ats } o.type; invoke d.target d.args).run P w = .ok (.enter F (xs.map ev ++ caps)) w := by
    have hn' : ¬ fn.name = "runtime.NumGoroutine" := by simpa using hn
    simp [resolve, hx, Deferred.ofValue, invoke, callFunc, hf, hn', hb]
  simp only [ho]
  rw [hr]
  exact h.mono fun e w' he => by obtain ⟨v, rfl, hv⟩ := he; exact hv

theorem OwnI.cut {w : World} {base n c : Nat} {a : Option Addr} {l : List Int} (h : OwnI w base (.slice a n c) l) (k : Nat) (hk : k ≤ l.length) : OwnI w base (.slice a k c) (l.take k) := by
  have hn : n = l.length := by
    obtain ⟨a', c', e, _⟩ := h.ints.open
    injection e with _ e2 _
  subst hn
  have hl : (l.take k).length = k := by rw [List.length_take]; omega
  obtain ⟨h1, h2⟩ := h
  rcases h2 with ⟨hv, hz⟩ | ⟨g, cap, cur, hv, hr⟩
  · injection hv with e1 e2 e3
    subst e1 e3
    have hl0 : l = [] := List.eq_nil_of_length_eq_zero hz
    subst hl0
    obtain rfl : k = 0 := by simpa using hk
    exact OwnI.nil _ _
  · injection hv with e1 e2 e3
    subst e1 e3
    have h3 : w.ownsRow base 3 1 (.slice (some ⟨g, 0, none⟩) l.length c) l.length (i64s l) := ⟨h1, .inr ⟨g, c, cur, rfl, hr⟩⟩
    have h4 := ownCut h3 k hk
    unfold OwnI
    rw [hl, show i64s (l.take k) = (i64s l).take k by simp [i64s]]
    exact h4

/-- The next one, or none. -/
def orNoC : Bool → Term.C → Term.C
  | true, c => c
  | false, _ => Term.noC
def GivesNext6 (w : World) (c : Term.C) (gone : List Int) (x : Ending) (w' : World) : Prop := ∃ v, x = .returned (.tuple #[v, .bool (Term.nextOk c gone)]) ∧ IsConf w' v (orNoC (Term.nextOk c gone) (Term.next c gone)) ∧ Ext w w'

theorem lenLeft (l gone : List Int) : (Term.left l gone).length ≤ l.length := by unfold Term.left; exact List.length_filter_le _ _
theorem oddEven {l : List Int} (h : l.length % 2 = 0) : Term.odd l = l.take (l.length - 1) := by unfold Term.odd; rw [if_pos h]
theorem oddOdd {l : List Int} (h : ¬ l.length % 2 = 0) : Term.odd l = l := by unfold Term.odd; rw [if_neg h]
theorem oddNone {l : List Int} (h : l.length = 0) : Term.odd l = l := by
  have : l = [] := List.eq_nil_of_length_eq_zero h
  subst this
  rfl
theorem nextOk_no {c : Term.C} {gone : List Int} (h : Term.right c = false) : Term.nextOk c gone = false := by unfold Term.nextOk; rw [h]; rfl
theorem nextOk_yes {c : Term.C} {gone : List Int} (h : Term.right c = true) : Term.nextOk c gone = Term.right (Term.next c gone) := by unfold Term.nextOk; rw [h]; rfl

theorem heap_thr6 (w : World) (x y z : Obj) : (((w.alloc x).alloc y).alloc z).heap[w.heap.size]? = some x ∧ (((w.alloc x).alloc y).alloc z).heap[w.heap.size + 1]? = some y ∧ (((w.alloc x).alloc y).alloc z).heap[w.heap.size + 1 + 1]? = some z := by
  have h1 := heap_two w x y
  refine ⟨heap_ext h1.1 (Ext.alloc _ _), heap_ext h1.2 (Ext.alloc _ _), ?_⟩
  have := heap_alloc_new ((w.alloc x).alloc y) z
  simpa using this
theorem ext_three (w : World) (x y z : Obj) : Ext w (((w.alloc x).alloc y).alloc z) := (ext_two w x y).trans (Ext.alloc _ _)
theorem build_row1 (w : World) (a : Option Addr) (n c : Nat) : (Instr.buildSlice 23 1 #[(0, .slice a n c)]).run Try.prog w = .ok (.slice (some ⟨w.heap.size, 0, none⟩) 1 1) (w.alloc (.cells #[.slice a n c] 22)) := by kernel_rfl

set_option maxHeartbeats 16000000 in
theorem next6_any (v gv : Value) (c : Term.C) (gone : List Int) (w : World) (hv : IsConf w v c) (hg : Ints w gv gone) :
    Calls Try.prog 9 #[v, gv] w (GivesNext6 w c gone) := by
  have hbx := box_conf
  have hb0 := build_conf0
  have hr5 := fun w1 hv => right6_any v c w1 hv
  have HV := Lib.hid hv
  have HG := Lib.hid hg
  obtain ⟨s, d, rfl, hs, hd⟩ := hv
  obtain ⟨t, S, D⟩ := c
  unfold confV at *
  simp only at hs hd hr5 ⊢
  have HS := Lib.hid hs
  have HD := Lib.hid hd
  obtain ⟨a1, cap1, rfl, hcap1, hmax1, _, _⟩ := hs.open
  obtain ⟨a2, cap2, rfl, hcap2, hmax2, _⟩ := hd.open
  obtain ⟨ga, gcap, rfl, hgc, hgm, _, _⟩ := hg.open
  unfold maxLen at hmax1 hmax2 hgm
  clear hs hd hg
  have hbox : ∀ w : World, (Instr.box 22 (.slice ga gone.length gcap)).run Try.prog w = .ok (.pointer (some ⟨w.heap.size, 0, none⟩)) (w.alloc (.cells #[.slice ga gone.length gcap] 22)) := fun w => by kernel_rfl
  have hE0 := ext_three w (.cells #[.int .i64 t, .slice a1 S.length cap1, .slice a2 D.length cap2] 26) (.cells #[.slice ga gone.length gcap] 22) (.cells #[.int .i64 0, .slice none 0 0, .slice none 0 0] 26)
  have HH := Lib.hid (heap_thr6 w (.cells #[.int .i64 t, .slice a1 S.length cap1, .slice a2 D.length cap2] 26) (.cells #[.slice ga gone.length gcap] 22) (.cells #[.int .i64 0, .slice none 0 0, .slice none 0 0] 26))
  unfold GivesNext6
  go_enter Try.func9, Try.ntmps9
  go_wp2_with fail
  refine (hr5 _ (HV.out.below hE0)).mono ?_
  rintro e w1 ⟨rfl, hE1⟩
  have e1 := hE0.trans hE1
  have A1 := Lib.hid (show ConfAt 26 w1 w.heap.size t (.slice a1 S.length cap1) (.slice a2 D.length cap2) from heap_ext HH.out.1 hE1)
  have B1 := Lib.hid (heap_ext HH.out.2.1 hE1)
  have R1 := Lib.hid (show ConfAt 26 w1 (w.heap.size + 1 + 1) 0 (.slice none 0 0) (.slice none 0 0) from heap_ext HH.out.2.2 hE1)
  obtain ⟨q, hq⟩ : ∃ q, w.heap.size = q := ⟨_, rfl⟩
  have HQ := Lib.hid hq
  rw [hq] at A1 B1 R1
  clear HH hE1 hE0 hr5 HV
  obtain ⟨rc, hrc⟩ : ∃ rc, Term.right ⟨t, S, D⟩ = rc := ⟨_, rfl⟩
  have HR := Lib.hid hrc
  rw [hrc]
  clear hrc
  cases rc with
  | false =>
    have HN := Lib.hid (nextOk_no (gone := gone) HR.out)
    obtain ⟨c0, c1, c2⟩ := R1.out.cells
    have fr : ∀ i, w1.frozen? ⟨q + 1 + 1, i, none⟩ = false := fun i => frozen_of_heap R1.out i
    rw [hq]
    go_wp2_with fail
    have hs := R1.out.setAll 0 (.slice none 0 0) (.slice none 0 0)
    exact bodyPost_ret (v := .tuple #[confV 0 (.slice none 0 0) (.slice none 0 0), .bool false]) (by simp [results, Try.results9, go_sem, c0, c1, c2, fr, confV]) rfl
      ⟨_, by rw [HN.out], by rw [HN.out]; exact ⟨_, _, rfl, ints0 _, irows0 _⟩, Below.trans (B := w.heap.size) e1 (hs.2.below (by omega) e1.size)⟩
  | true =>
    have HN := Lib.hid (nextOk_yes (gone := gone) HR.out)
    obtain ⟨q1, q2, q3, q4, q5⟩ := Term.right_ok HR.out
    simp only at q1 q2 q3 q4 q5
    have HW := Lib.hid (show IntKind.i64.wrap (t + 1) = t + 1 from IntWalk.i64_in (t + 1) (by omega))
    have HQ3 := Lib.hid q3
    have hS7 : S.length ≤ 7 := by omega
    have hS1 : 1 ≤ S.length := by omega
    have hcb : ∀ wy, Ext w1 wy → wy.cell? ⟨q + 1, 0, none⟩ = some (.slice ga gone.length gcap) := fun wy h => cell_of_heap (heap_ext B1.out h) 0
    have HCB := Lib.hid hcb
    have HSTAY := Lib.hid (fun (wy : World) (h : Ext w1 wy) => stay6_any (.slice a1 S.length cap1) (.slice ga gone.length gcap) S gone (q + 1) wy (HS.out.below (e1.trans h)) hS1 (by omega) (hcb wy h) (HG.out.below (e1.trans h)))
    have hqw : q ≤ w1.heap.size := by have := R1.out.lt; omega
    have hqz : ∀ wy, Ext w1 wy → q ≤ wy.heap.size := fun wy h => Nat.le_trans hqw h.size
    have HQZ := Lib.hid hqz
    clear hcb q3 q5 hqz
    rw [hq]
    go_wp2_with fail
    refine wp_region_tail (by kernel_rfl) 9 Ext (fun iop v w => match iop with
        | 0 => v = .pointer (some ⟨q, 0, none⟩)
        | 1 => v = .int .i64 t
        | 2 => v = .int .i64 (t + 1)
        | 3 => v = .func (.func 20) #[] #[.pointer (some ⟨q + 1, 0, none⟩)]
        | 4 => v = .pointer (some ⟨q, 1, none⟩)
        | 5 => v = .slice a1 S.length cap1
        | 6 => ∃ an cn, v = .slice an (Term.left S gone).length cn ∧ OwnI w q v (Term.left S gone)
        | 7 => ∃ an cn, v = .agg #[.int .i64 (t + 1), .slice an (Term.left S gone).length cn, .slice none 0 0] ∧ OwnI w q (.slice an (Term.left S gone).length cn) (Term.left S gone)
        | _ => ∃ p, v = .pointer (some ⟨p, 0, none⟩) ∧ ConfAt 26 w p 0 (.slice none 0 0) (.slice none 0 0) ∧ q + 1 + 1 < p
        ) (by kernel_rfl) (by kernel_rfl) (by decide) (fun _ _ _ h k => Ext.trans h k) (fun a => Ext.refl a) (Ext.drew _) ?_ ?_ ?_
    · intro iop v wa wb hF hL
      cases iop with
      | zero => exact hF
      | succ iop =>
        cases iop with
        | zero => exact hF
        | succ iop =>
          cases iop with
          | zero => exact hF
          | succ iop =>
            cases iop with
            | zero => exact hF
            | succ iop =>
              cases iop with
              | zero => exact hF
              | succ iop =>
                cases iop with
                | zero => exact hF
                | succ iop =>
                  cases iop with
                  | zero => (first | exact hF | (obtain ⟨a, b, h1, h2⟩ := hF; exact ⟨a, b, h1, h2.ext hL⟩) | (obtain ⟨a, h1, h2, h3⟩ := hF; exact ⟨a, h1, h2.ext hL, h3⟩))
                  | succ iop =>
                    cases iop with
                    | zero => (first | exact hF | (obtain ⟨a, b, h1, h2⟩ := hF; exact ⟨a, b, h1, h2.ext hL⟩) | (obtain ⟨a, h1, h2, h3⟩ := hF; exact ⟨a, h1, h2.ext hL, h3⟩))
                    | succ iop =>
                      (first | exact hF | (obtain ⟨a, b, h1, h2⟩ := hF; exact ⟨a, b, h1, h2.ext hL⟩) | (obtain ⟨a, h1, h2, h3⟩ := hF; exact ⟨a, h1, h2.ext hL, h3⟩))
    · refine Obls.cons ?_ (Obls.cons ?_ (Obls.cons ?_ (Obls.cons ?_ (Obls.cons ?_ (Obls.cons ?_ (Obls.cons ?_ (Obls.cons ?_ (Obls.cons ?_ (Obls.nil)))))))))
      · intro ev wy hp hl hk hd
        have e2 : ev (.tmp 2) = .pointer (some ⟨q, 0, none⟩) := hk 2 (by decide)
        clear hk
        clear hd
        exact Yield.op (v := .pointer (some ⟨q, 0, none⟩)) (w' := wy) (by simp [execOp, go_sem, e2]) ⟨Ext.refl _, rfl⟩
      · intro ev wy hp hl hk hd
        have e16 : ev (.tmp 16) = .pointer (some ⟨q, 0, none⟩) := hk 16 (by decide)
        clear hk
        clear hd
        exact Yield.load rfl e16 (ldInt (A1.out.ext hl).cells.1) ⟨Ext.refl _, rfl⟩
      · intro ev wy hp hl hk hd
        have e17 : ev (.tmp 17) = .int .i64 t := hk 17 (by decide)
        clear hk
        clear hd
        exact Yield.op (w' := wy) (by simp [execOp, go_sem, e17, hp.const]; exact HW.out) ⟨Ext.refl _, rfl⟩
      · intro ev wy hp hl hk hd
        have e6 : ev (.tmp 6) = .func (.func 20) #[] #[.pointer (some ⟨q + 1, 0, none⟩)] := hk 6 (by decide)
        clear hk
        clear hd
        exact Yield.mv rfl ⟨Ext.refl _, e6⟩
      · intro ev wy hp hl hk hd
        have e2 : ev (.tmp 2) = .pointer (some ⟨q, 0, none⟩) := hk 2 (by decide)
        clear hk
        clear hd
        exact Yield.op (v := .pointer (some ⟨q, 1, none⟩)) (w' := wy) (by simp [execOp, go_sem, e2]) ⟨Ext.refl _, rfl⟩
      · intro ev wy hp hl hk hd
        have e20 : ev (.tmp 20) = .pointer (some ⟨q, 1, none⟩) := hk 20 (by decide)
        clear hk
        clear hd
        exact Yield.load rfl e20 (ldInts (A1.out.ext hl).cells.2.1) ⟨Ext.refl _, rfl⟩
      · intro ev wy hp hl hk hd
        have e19 : ev (.tmp 19) = .func (.func 20) #[] #[.pointer (some ⟨q + 1, 0, none⟩)] := hk 19 (by decide)
        have e21 : ev (.tmp 21) = .slice a1 S.length cap1 := hk 21 (by decide)
        clear hk
        clear hd
        refine Yield.callv rfl e19 Try.func20 rfl (by kernel_rfl) ?_
        simp only [List.map_toArray, List.map_cons, List.map_nil, List.append_toArray, List.cons_append, List.nil_append, e21]
        exact (HSTAY.out wy hl).mono fun e w' ⟨u, he, ho, hE⟩ => ⟨u, he, hE, by obtain ⟨ua, uc, hu, _⟩ := ho.ints.open; exact ⟨ua, uc, hu, ho.lower (HQZ.out wy hl)⟩⟩
      · intro ev wy hp hl hk hd
        have e18 : ev (.tmp 18) = .int .i64 (t + 1) := hk 18 (by decide)
        have f22 : (fun (v : Value) (w : World) => ∃ an cn, v = .slice an (Term.left S gone).length cn ∧ OwnI w q v (Term.left S gone)) (ev (.tmp 22)) wy := hk 22 (by decide)
        generalize hx22 : ev (.tmp 22) = x22 at *
        clear hk
        clear hd
        obtain ⟨an, cn, hv22, ho22⟩ := f22
        subst hv22
        exact Yield.op (w' := wy) (by simp [execOp, go_sem, e18, hx22, build_conf2]) ⟨Ext.refl _, an, cn, rfl, ho22⟩
      · intro ev wy hp hl hk hd
        clear hk
        clear hd
        exact Yield.op (v := .pointer (some ⟨wy.heap.size, 0, none⟩)) (w' := wy.alloc (.cells #[.int .i64 0, .slice none 0 0, .slice none 0 0] 26)) (by simp [execOp, go_sem]) ⟨Ext.alloc _ _, _, rfl, confZero _ _, by have := (R1.out.ext hl).lt; omega⟩
    · intro vals wz hz hv
      have g16 : vals 0 = .pointer (some ⟨q, 0, none⟩) := hv 0 (by decide)
      have g17 : vals 1 = .int .i64 t := hv 1 (by decide)
      have g18 : vals 2 = .int .i64 (t + 1) := hv 2 (by decide)
      have g19 : vals 3 = .func (.func 20) #[] #[.pointer (some ⟨q + 1, 0, none⟩)] := hv 3 (by decide)
      have g20 : vals 4 = .pointer (some ⟨q, 1, none⟩) := hv 4 (by decide)
      have g21 : vals 5 = .slice a1 S.length cap1 := hv 5 (by decide)
      have g22 : (fun (v : Value) (w : World) => ∃ an cn, v = .slice an (Term.left S gone).length cn ∧ OwnI w q v (Term.left S gone)) (vals 6) wz := hv 6 (by decide)
      have g23 : (fun (v : Value) (w : World) => ∃ an cn, v = .agg #[.int .i64 (t + 1), .slice an (Term.left S gone).length cn, .slice none 0 0] ∧ OwnI w q (.slice an (Term.left S gone).length cn) (Term.left S gone)) (vals 7) wz := hv 7 (by decide)
      have g7 : (fun (v : Value) (w : World) => ∃ p, v = .pointer (some ⟨p, 0, none⟩) ∧ ConfAt 26 w p 0 (.slice none 0 0) (.slice none 0 0) ∧ q + 1 + 1 < p) (vals 8) wz := hv 8 (by decide)
      clear hv
      simp only [List.take_succ_cons, List.take_zero, List.drop_succ_cons, List.drop_zero]
      simp only [putAll, Act.put, List.setIfInBounds_toArray, List.set_cons_zero, List.set_cons_succ, g16, g17, g18, g19, g20, g21]
      clear g16
      clear g17
      clear g18
      clear g19
      clear g20
      clear g21
      generalize vals 6 = v22 at *
      generalize vals 7 = v23 at *
      generalize vals 8 = v7 at *
      obtain ⟨an, cn, rfl, hO⟩ := g23
      obtain ⟨p, rfl, hP, hp⟩ := g7
      clear g22
      obtain ⟨w2, hw2⟩ : ∃ w2, w2 = wz := ⟨_, rfl⟩
      rw [← hw2] at hz hO hP ⊢
      clear hw2
      have e2 := e1.trans hz
      have A2 := Lib.hid (A1.out.ext hz)
      have B2 := Lib.hid (heap_ext B1.out hz)
      have R2 := Lib.hid (R1.out.ext hz)
      obtain ⟨c0, c1, c2⟩ := hP.cells
      have fp := fun i => frozen_of_heap hP i
      have hs := hP.setAll (t + 1) (.slice an (Term.left S gone).length cn) (.slice none 0 0)
      have X3 := Lib.hid hs.1
      have A3 := Lib.hid (A2.out.but hs.2 (by omega))
      have B3 := Lib.hid ((hs.2.block (q + 1) (Array.getElem?_eq_some_iff.1 B2.out).1 (by omega)).trans B2.out)
      have R3 := Lib.hid (R2.out.but hs.2 (by omega))
      have O3 := Lib.hid (hO.but hP (by decide) hs.2)
      have e3 : Ext w _ := Below.trans (B := w.heap.size) e2 (hs.2.below (by have := HQ.out; omega) e2.size)
      obtain ⟨NL, hNL⟩ : ∃ NL, Term.left S gone = NL := ⟨_, rfl⟩
      have HNL := Lib.hid hNL
      have hNl : NL.length ≤ 7 := by have := lenLeft S gone; rw [hNL] at this; omega
      rw [hNL] at X3 O3 e3 A3 B3 R3 ⊢
      clear hNL hs hO hP
      by_cases n0 : NL.length = 0
      · have hnil : NL = [] := List.eq_nil_of_length_eq_zero n0
        have HOD := Lib.hid (oddNone n0)
        subst hnil
        simp only [List.length_nil] at X3 O3 e3 A3 B3 R3 HOD ⊢
        obtain ⟨k0, k1, k2⟩ := A3.out.cells
        go_wp2_with fail
        clear c0 c1 c2 fp k0 k1 k2
        generalize hw3 : (((w2.setCell ⟨p, 0, none⟩ (.int .i64 (t + 1))).setCell ⟨p, 1, none⟩ (.slice an 0 cn)).setCell ⟨p, 2, none⟩ (.slice none 0 0)) = w4 at *
        clear hw3
        have X4 := X3
        have O4 := O3
        have A4 := A3
        have B4 := B3
        have R4 := R3
        have e4 := e3
        clear X3 O3 A3 B3 R3 e3 n0
        have HNX := Lib.hid (show Term.next ⟨t, S, D⟩ gone = ⟨t + 1, ([] : List Int), D.map (fun l => Term.left l gone)⟩ by unfold Term.next; simp only; rw [HNL.out, HOD.out])
        go_loopw [10, 43] (fun _ i wr => ∃ k : Nat, k ≤ D.length ∧ i = .int .i64 k ∧ ∃ dv, Hid (ConfAt 26 wr p (t + 1) (.slice an 0 cn) dv) ∧ Hid (OwnRR wr (q + 1 + 1) dv ((D.take k).map (fun l => Term.left l gone))) ∧ Hid (OwnI wr q (.slice an 0 cn) ([] : List Int)) ∧ Hid (ConfAt 26 wr q t (.slice a1 S.length cap1) (.slice a2 D.length cap2)) ∧ Hid (wr.heap[q + 1]? = some (.cells #[.slice ga gone.length gcap] 22 (0, 0))) ∧ Hid (ConfAt 26 wr (q + 1 + 1) 0 (.slice none 0 0) (.slice none 0 0)) ∧ Ext w wr) (fun _ i _ => D.length - (intOf i).toNat)
        case atStart => exact ⟨0, by omega, rfl, _, X4.out, OwnRR.nil _ _, O4.out, A4.out, B4.out, R4.out, e4⟩
        case round =>
          obtain ⟨k, hk, rfl, dv, X, O, OS, A, B, R, hE⟩ := hrel
          by_cases hlt : k < D.length
          · obtain ⟨a', cap', e', _, _, hc⟩ := (HD.out.below hE).open
            obtain ⟨b, off, x, rfl, hcell, hx⟩ := hc k hlt
            injection e' with e4 e5 e6
            subst e4
            clear hc e5 e6
            have HX := Lib.hid hx
            obtain ⟨ax, cx, rfl, _⟩ := hx.open
            obtain ⟨g1, g2, g3⟩ := Term.shard_ok (HQ3.out _ (List.getElem_mem hlt))
            have HTK := Lib.hid (show (D.take (k + 1)).map (fun l => Term.left l gone) = (D.take k).map (fun l => Term.left l gone) ++ [Term.left D[k] gone] by rw [take_succ_getD D k hlt, List.map_append]; rfl)
            have HK := Lib.hid (show ((D.take k).map (fun l => Term.left l gone)).length = k by simp; omega)
            have HST := Lib.hid (fun (wy : World) (h : Ext wr wy) => stay6_any (.slice ax D[k].length cx) (.slice ga gone.length gcap) D[k] gone (q + 1) wy (HX.out.below h) g1 (by omega) (cell_of_heap (heap_ext B.out h) 0) (HG.out.below (hE.trans h)))
            have hqr : q + 1 + 1 ≤ wr.heap.size := by have := R.out.lt; omega
            have HZ := Lib.hid (fun (wy : World) (h : Ext wr wy) => Nat.le_trans hqr h.size)
            clear hx g3
            go_wp2_with fail
            refine wp_region_tail (by kernel_rfl) 6 Ext (fun iop v w => match iop with
                | 0 => v = .pointer (some ⟨p, 2, none⟩)
                | 1 => v = dv
                | 2 => v = .func (.func 20) #[] #[.pointer (some ⟨q + 1, 0, none⟩)]
                | 3 => v = .slice ax D[k].length cx
                | 4 => ∃ un uc, v = .slice un (Term.left D[k] gone).length uc ∧ OwnI w (q + 1 + 1) v (Term.left D[k] gone)
                | _ => ∃ x an n c, x = .slice an n c ∧ OwnI w (q + 1 + 1) x (Term.left D[k] gone) ∧ Sl w v [x]
                ) (by kernel_rfl) (by kernel_rfl) (by decide) (fun _ _ _ h k => Ext.trans h k) (fun a => Ext.refl a) (Ext.drew _) ?_ ?_ ?_
            · intro iop v wa wb hF hL
              cases iop with
              | zero => exact hF
              | succ iop =>
                cases iop with
                | zero => exact hF
                | succ iop =>
                  cases iop with
                  | zero => exact hF
                  | succ iop =>
                    cases iop with
                    | zero => exact hF
                    | succ iop =>
                      cases iop with
                      | zero => (first | exact hF | (obtain ⟨a, b, h1, h2⟩ := hF; exact ⟨a, b, h1, h2.ext hL⟩) | (obtain ⟨x, a, n, c, h1, h2, h3⟩ := hF; exact ⟨x, a, n, c, h1, h2.ext hL, h3.below hL⟩))
                      | succ iop =>
                        (first | exact hF | (obtain ⟨a, b, h1, h2⟩ := hF; exact ⟨a, b, h1, h2.ext hL⟩) | (obtain ⟨x, a, n, c, h1, h2, h3⟩ := hF; exact ⟨x, a, n, c, h1, h2.ext hL, h3.below hL⟩))
            · refine Obls.cons ?_ (Obls.cons ?_ (Obls.cons ?_ (Obls.cons ?_ (Obls.cons ?_ (Obls.cons ?_ (Obls.nil))))))
              · intro ev wy hp hl hk hd
                have e7 : ev (.tmp 7) = .pointer (some ⟨p, 0, none⟩) := hk 7 (by decide)
                clear hk
                clear hd
                exact Yield.op (v := .pointer (some ⟨p, 2, none⟩)) (w' := wy) (by simp [execOp, go_sem, e7]) ⟨Ext.refl _, rfl⟩
              · intro ev wy hp hl hk hd
                have e47 : ev (.tmp 47) = .pointer (some ⟨p, 2, none⟩) := hk 47 (by decide)
                clear hk
                clear hd
                obtain ⟨da, dn, dc, hdv⟩ := O.out.slice
                exact Yield.load rfl e47 (by rw [hdv]; simp [go_sem, (X.out.ext hl).cells.2.2, hdv]) ⟨Ext.refl _, rfl⟩
              · intro ev wy hp hl hk hd
                have e6 : ev (.tmp 6) = .func (.func 20) #[] #[.pointer (some ⟨q + 1, 0, none⟩)] := hk 6 (by decide)
                clear hk
                clear hd
                exact Yield.mv rfl ⟨Ext.refl _, e6⟩
              · intro ev wy hp hl hk hd
                have e10 : ev (.tmp 10) = .slice ax D[k].length cx := hk 10 (by decide)
                clear hk
                clear hd
                exact Yield.mv rfl ⟨Ext.refl _, e10⟩
              · intro ev wy hp hl hk hd
                have e49 : ev (.tmp 49) = .func (.func 20) #[] #[.pointer (some ⟨q + 1, 0, none⟩)] := hk 49 (by decide)
                have e50 : ev (.tmp 50) = .slice ax D[k].length cx := hk 50 (by decide)
                clear hk
                clear hd
                refine Yield.callv rfl e49 Try.func20 rfl (by kernel_rfl) ?_
                simp only [List.map_toArray, List.map_cons, List.map_nil, List.append_toArray, List.cons_append, List.nil_append, e50]
                exact (HST.out wy hl).mono fun e w' ⟨u, he, ho, hE⟩ => ⟨u, he, hE, by obtain ⟨ua, uc, hu, _⟩ := ho.ints.open; exact ⟨ua, uc, hu, ho.lower (HZ.out wy hl)⟩⟩
              · intro ev wy hp hl hk hd
                have f51 : (fun (v : Value) (w : World) => ∃ un uc, v = .slice un (Term.left D[k] gone).length uc ∧ OwnI w (q + 1 + 1) v (Term.left D[k] gone)) (ev (.tmp 51)) wy := hk 51 (by decide)
                generalize hx51 : ev (.tmp 51) = x51 at *
                clear hk
                clear hd
                obtain ⟨un, uc, hv51, ho51⟩ := f51
                subst hv51
                exact Yield.op (v := .slice (some ⟨wy.heap.size, 0, none⟩) 1 1) (w' := wy.alloc (.cells #[.slice un (Term.left D[k] gone).length uc] 22)) (by simp [execOp, go_sem, hx51, build_row1]) ⟨Ext.alloc _ _, _, _, _, _, rfl, ho51.ext (Ext.alloc _ _), slOne wy _ 22⟩
            · intro vals wz hz hv
              have g47 : vals 0 = .pointer (some ⟨p, 2, none⟩) := hv 0 (by decide)
              have g48 : vals 1 = dv := hv 1 (by decide)
              have g49 : vals 2 = .func (.func 20) #[] #[.pointer (some ⟨q + 1, 0, none⟩)] := hv 2 (by decide)
              have g50 : vals 3 = .slice ax D[k].length cx := hv 3 (by decide)
              have g51 : (fun (v : Value) (w : World) => ∃ un uc, v = .slice un (Term.left D[k] gone).length uc ∧ OwnI w (q + 1 + 1) v (Term.left D[k] gone)) (vals 4) wz := hv 4 (by decide)
              have g52 : (fun (v : Value) (w : World) => ∃ x an n c, x = .slice an n c ∧ OwnI w (q + 1 + 1) x (Term.left D[k] gone) ∧ Sl w v [x]) (vals 5) wz := hv 5 (by decide)
              clear hv
              simp only [List.take_succ_cons, List.take_zero, List.drop_succ_cons, List.drop_zero]
              simp only [putAll, Act.put, List.setIfInBounds_toArray, List.set_cons_zero, List.set_cons_succ, g47, g48, g49, g50]
              clear g47
              clear g48
              clear g49
              clear g50
              generalize vals 4 = v51 at *
              generalize vals 5 = v52 at *
              obtain ⟨w5, hw5⟩ : ∃ w5, w5 = wz := ⟨_, rfl⟩
              rw [← hw5] at hz g51 g52 ⊢
              clear hw5 g51
              obtain ⟨u5, ua, un, uc, hu5, hou5, hsl5⟩ := g52
              obtain ⟨sa, sn, sc, rfl⟩ : ∃ a n c, v52 = .slice a n c := by obtain ⟨a9, c9, e9, _⟩ := hsl5; exact ⟨_, _, _, e9⟩
              have hE5 := hE.trans hz
              have X5 := Lib.hid (X.out.ext hz)
              obtain ⟨xs, h1, h2, h3⟩ := O.out.ext hz
              rw [HK.out] at h1
              have H1 := Lib.hid h1
              have H2 := Lib.hid h2
              have H3 := Lib.hid h3
              have HU := Lib.hid hou5
              have HS5 := Lib.hid hsl5
              have hone := Lib.hid (oneSlice ⟨ua, un, uc, hu5⟩)
              have hk1 := Lib.hid (show k + [u5].length ≤ maxLen by simp [maxLen]; omega)
              have hk2 := Lib.hid (show (k + [u5].length) * 24 ≤ 140737488355328 by simp; omega)
              have hz5 := Lib.hid (HZ.out w5 hz)
              have HNE := Lib.hid (rowBeside h1 X5.out (by decide))
              clear h1 h2 h3 hou5 hsl5
              go_wp2_with (at_builtin; refine wpList_app rfl (.tmp 48) (.tmp 52) tRow rfl rfl rfl H1.out HS5.out hone.out hk1.out hk2.out hz5.out ?_; intro v9 w9 hown9 hg9; have hg9 : w5.grownBy w9 dv.ownBlock := hg9; obtain ⟨a9, n9, c9, rfl⟩ := ownSlice hown9; have x9 := Lib.hid (X5.out.grown hg9 HNE.out); obtain ⟨y0, y1, y2⟩ := x9.out.cells; have fy := fun i => frozen_of_heap x9.out i)
              have hbs := butSet w9 p 2 (.slice a9 n9 c9)
              have hfar : ∀ j, dv.ownBlock = some j → q + 1 + 1 ≤ j := fun j hj => (H1.out.lt j hj).1
              have hE9 : Ext w w9 := Below.grown hE5 hg9 hE5.size (fun j hj => by have := hfar j hj; have := HQ.out; omega)
              have x10 := Lib.hid (x9.out.setD (.slice a9 n9 c9))
              have rr9 : OwnRR w9 (q + 1 + 1) (.slice a9 n9 c9) ((D.take (k + 1)).map (fun l => Term.left l gone)) := by
                rw [HTK.out]
                exact OwnRR.snoc (w := w5) (v := dv) (xs := xs) (by rw [HK.out]; exact H1.out) H2.out H3.out HU.out hg9 (by rw [HK.out]; exact hown9)
              have rr10 := Lib.hid (rr9.but x9.out (by decide) (by decide) hbs)
              have s10 := Lib.hid (((OS.out.ext hz).grown H1.out hg9).but x9.out (by decide) hbs)
              have hneA : some q ≠ dv.ownBlock := rowBeside H1.out (A.out.ext hz) (by decide)
              have hneR : some (q + 1 + 1) ≠ dv.ownBlock := rowBeside H1.out (R.out.ext hz) (by decide)
              have A10 := Lib.hid (((A.out.ext hz).grown hg9 hneA).but hbs (by omega))
              have R10 := Lib.hid (((R.out.ext hz).grown hg9 hneR).but hbs (by omega))
              have B5 := heap_ext B.out hz
              have hB1 := (Array.getElem?_eq_some_iff.1 B5).1
              have B10 := Lib.hid (show (w9.setCell ⟨p, 2, none⟩ (.slice a9 n9 c9)).heap[q + 1]? = some (.cells #[.slice ga gone.length gcap] 22 (0, 0)) from (hbs.block (q + 1) (Nat.lt_of_lt_of_le hB1 hg9.size) (by omega)).trans ((hg9.block (q + 1) hB1 (fun e => by have := hfar _ e.symm; omega)).trans B5))
              have hE10 : Ext w (w9.setCell ⟨p, 2, none⟩ (.slice a9 n9 c9)) := Below.setCell hE9 (p := ⟨p, 2, none⟩) (by show w.heap.size ≤ p; have := HQ.out; omega) _
              clear hown9 hg9 rr9 hbs y0 y1 y2 fy B5 hneA hneR
              go_wp2_with fail
              go_roundw
              case rel => exact ⟨k + 1, by omega, by go_num, _, x10.out, rr10.out, s10.out, A10.out, B10.out, R10.out, hE10⟩
              case measure => simp [intOf]; omega
          · have hK : (D.take k).map (fun l => Term.left l gone) = D.map (fun l => Term.left l gone) := by rw [List.take_of_length_le (by omega)]
            rw [hK] at O
            have HXB := Lib.hid (show ∀ w', Ext wr w' → IsConf w' (confV (t + 1) (.slice an 0 cn) dv) (Term.next ⟨t, S, D⟩ gone) from fun w' h => by rw [HNX.out]; exact ⟨_, _, rfl, (OS.out.ext h).ints, (O.out.ext h).rows⟩)
            obtain ⟨da, dn, dc, rfl⟩ := O.out.slice
            obtain ⟨d0, d1, d2⟩ := X.out.cells
            clear hK
            go_wp2_with fail
            refine (right6_any _ (Term.next ⟨t, S, D⟩ gone) _ (HXB.out _ (Ext.refl _))).mono ?_
            rintro e w11 ⟨rfl, hE11⟩
            have r11 := Lib.hid (R.out.ext hE11)
            have x11 := Lib.hid (X.out.ext hE11)
            have e11 := hE.trans hE11
            clear d0 d1 d2
            obtain ⟨c0, c1, c2⟩ := r11.out.cells
            obtain ⟨d0, d1, d2⟩ := x11.out.cells
            have fr : ∀ i, w11.frozen? ⟨q + 1 + 1, i, none⟩ = false := fun i => frozen_of_heap r11.out i
            cases hrr : Term.right (Term.next ⟨t, S, D⟩ gone) with
            | false =>
              have HRR := Lib.hid hrr
              clear hrr
              go_wp2_with fail
              have hs := r11.out.setAll 0 (.slice none 0 0) (.slice none 0 0)
              exact bodyPost_ret (v := .tuple #[confV 0 (.slice none 0 0) (.slice none 0 0), .bool false]) (by simp [results, Try.results9, go_sem, c0, c1, c2, fr, confV]) rfl
                ⟨_, by rw [HN.out, HRR.out], by rw [HN.out, HRR.out]; exact ⟨_, _, rfl, ints0 _, irows0 _⟩, Below.trans (B := w.heap.size) e11 (hs.2.below (by have := HQ.out; omega) e11.size)⟩
            | true =>
              have HRR := Lib.hid hrr
              clear hrr
              go_wp2_with fail
              have hs := r11.out.setAll (t + 1) (.slice an 0 cn) (.slice da dn dc)
              refine bodyPost_ret (v := .tuple #[confV (t + 1) (.slice an 0 cn) (.slice da dn dc), .bool true]) (by simp [results, Try.results9, go_sem, c0, c1, c2, d0, d1, d2, fr, confV]) rfl
                ⟨_, by rw [HN.out, HRR.out], by rw [HN.out, HRR.out, show orNoC true (Term.next ⟨t, S, D⟩ gone) = Term.next ⟨t, S, D⟩ gone from rfl, HNX.out]; exact ⟨_, _, rfl, ((OS.out.ext hE11).but r11.out (by decide) hs.2).ints, ((O.out.ext hE11).but r11.out (by decide) (by decide) hs.2).rows⟩, Below.trans (B := w.heap.size) e11 (hs.2.below (by have := HQ.out; omega) e11.size)⟩
      · by_cases n1 : NL.length % 2 = 0
        · obtain ⟨k9, hk9⟩ : ∃ k9, NL.length = k9 + 1 := ⟨NL.length - 1, by omega⟩
          have HOD := Lib.hid (show Term.odd NL = List.take k9 NL by rw [oddEven n1, hk9]; rfl)
          have HEV := Lib.hid (decide_eq_true n1)
          have hk9c : k9 ≤ cn := by
            obtain ⟨a8, c8, e8, h8, _⟩ := O3.out.ints.open
            injection e8 with _ _ e8
            omega
          have hsl := fun wy => to6 wy an (k9 + 1) cn k9 hk9c
          have O3c := Lib.hid (O3.out.cut k9 (by omega))
          have O3i := Lib.hid O3.out.ints
          have hpos : (0 : Int) < (k9 : Int) + 1 := by omega
          rw [hk9] at X3 O3i e3 A3 B3 R3 O3c ⊢
          clear n0 n1 O3
          go_wp2_with fail
          clear c0 c1 c2 fp
          generalize hw3 : (((w2.setCell ⟨p, 0, none⟩ (.int .i64 (t + 1))).setCell ⟨p, 1, none⟩ (.slice an (k9 + 1) cn)).setCell ⟨p, 2, none⟩ (.slice none 0 0)) = w3 at *
          clear hw3
          refine (isEven6_any _ NL _ O3i.out).mono ?_
          rw [HEV.out]
          rintro e w' ⟨rfl, rfl⟩
          obtain ⟨y0, y1, y2⟩ := X3.out.cells
          have fy := fun i => frozen_of_heap X3.out i
          have hbs := butSet w3 p 1 (.slice an k9 cn)
          have X4 := Lib.hid (X3.out.setS (.slice an k9 cn))
          have A4 := Lib.hid (A3.out.but hbs (by omega))
          have B4 := Lib.hid ((hbs.block (q + 1) (Array.getElem?_eq_some_iff.1 B3.out).1 (by omega)).trans B3.out)
          have R4 := Lib.hid (R3.out.but hbs (by omega))
          have O4 := Lib.hid (O3c.out.but X3.out (by decide) hbs)
          have e4 : Ext w _ := Below.setCell e3 (p := ⟨p, 1, none⟩) (by show w.heap.size ≤ p; have := HQ.out; omega) (.slice an k9 cn)
          obtain ⟨k0, k1, k2⟩ := A4.out.cells
          clear hbs
          go_wp2_with fail
          clear y0 y1 y2 fy k0 k1 k2
          generalize hw4 : w3.setCell ⟨p, 1, none⟩ (.slice an k9 cn) = w4 at *
          clear hw4 X3 A3 B3 R3 O3c O3i e3 hsl
          have HNX := Lib.hid (show Term.next ⟨t, S, D⟩ gone = ⟨t + 1, (List.take k9 NL), D.map (fun l => Term.left l gone)⟩ by unfold Term.next; simp only; rw [HNL.out, HOD.out])
          go_loopw [10, 43] (fun _ i wr => ∃ k : Nat, k ≤ D.length ∧ i = .int .i64 k ∧ ∃ dv, Hid (ConfAt 26 wr p (t + 1) (.slice an k9 cn) dv) ∧ Hid (OwnRR wr (q + 1 + 1) dv ((D.take k).map (fun l => Term.left l gone))) ∧ Hid (OwnI wr q (.slice an k9 cn) (List.take k9 NL)) ∧ Hid (ConfAt 26 wr q t (.slice a1 S.length cap1) (.slice a2 D.length cap2)) ∧ Hid (wr.heap[q + 1]? = some (.cells #[.slice ga gone.length gcap] 22 (0, 0))) ∧ Hid (ConfAt 26 wr (q + 1 + 1) 0 (.slice none 0 0) (.slice none 0 0)) ∧ Ext w wr) (fun _ i _ => D.length - (intOf i).toNat)
          case atStart => exact ⟨0, by omega, rfl, _, X4.out, OwnRR.nil _ _, O4.out, A4.out, B4.out, R4.out, e4⟩
          case round =>
            obtain ⟨k, hk, rfl, dv, X, O, OS, A, B, R, hE⟩ := hrel
            by_cases hlt : k < D.length
            · obtain ⟨a', cap', e', _, _, hc⟩ := (HD.out.below hE).open
              obtain ⟨b, off, x, rfl, hcell, hx⟩ := hc k hlt
              injection e' with e4 e5 e6
              subst e4
              clear hc e5 e6
              have HX := Lib.hid hx
              obtain ⟨ax, cx, rfl, _⟩ := hx.open
              obtain ⟨g1, g2, g3⟩ := Term.shard_ok (HQ3.out _ (List.getElem_mem hlt))
              have HTK := Lib.hid (show (D.take (k + 1)).map (fun l => Term.left l gone) = (D.take k).map (fun l => Term.left l gone) ++ [Term.left D[k] gone] by rw [take_succ_getD D k hlt, List.map_append]; rfl)
              have HK := Lib.hid (show ((D.take k).map (fun l => Term.left l gone)).length = k by simp; omega)
              have HST := Lib.hid (fun (wy : World) (h : Ext wr wy) => stay6_any (.slice ax D[k].length cx) (.slice ga gone.length gcap) D[k] gone (q + 1) wy (HX.out.below h) g1 (by omega) (cell_of_heap (heap_ext B.out h) 0) (HG.out.below (hE.trans h)))
              have hqr : q + 1 + 1 ≤ wr.heap.size := by have := R.out.lt; omega
              have HZ := Lib.hid (fun (wy : World) (h : Ext wr wy) => Nat.le_trans hqr h.size)
              clear hx g3
              go_wp2_with fail
              refine wp_region_tail (by kernel_rfl) 6 Ext (fun iop v w => match iop with
                  | 0 => v = .pointer (some ⟨p, 2, none⟩)
                  | 1 => v = dv
                  | 2 => v = .func (.func 20) #[] #[.pointer (some ⟨q + 1, 0, none⟩)]
                  | 3 => v = .slice ax D[k].length cx
                  | 4 => ∃ un uc, v = .slice un (Term.left D[k] gone).length uc ∧ OwnI w (q + 1 + 1) v (Term.left D[k] gone)
                  | _ => ∃ x an n c, x = .slice an n c ∧ OwnI w (q + 1 + 1) x (Term.left D[k] gone) ∧ Sl w v [x]
                  ) (by kernel_rfl) (by kernel_rfl) (by decide) (fun _ _ _ h k => Ext.trans h k) (fun a => Ext.refl a) (Ext.drew _) ?_ ?_ ?_
              · intro iop v wa wb hF hL
                cases iop with
                | zero => exact hF
                | succ iop =>
                  cases iop with
                  | zero => exact hF
                  | succ iop =>
                    cases iop with
                    | zero => exact hF
                    | succ iop =>
                      cases iop with
                      | zero => exact hF
                      | succ iop =>
                        cases iop with
                        | zero => (first | exact hF | (obtain ⟨a, b, h1, h2⟩ := hF; exact ⟨a, b, h1, h2.ext hL⟩) | (obtain ⟨x, a, n, c, h1, h2, h3⟩ := hF; exact ⟨x, a, n, c, h1, h2.ext hL, h3.below hL⟩))
                        | succ iop =>
                          (first | exact hF | (obtain ⟨a, b, h1, h2⟩ := hF; exact ⟨a, b, h1, h2.ext hL⟩) | (obtain ⟨x, a, n, c, h1, h2, h3⟩ := hF; exact ⟨x, a, n, c, h1, h2.ext hL, h3.below hL⟩))
              · refine Obls.cons ?_ (Obls.cons ?_ (Obls.cons ?_ (Obls.cons ?_ (Obls.cons ?_ (Obls.cons ?_ (Obls.nil))))))
                · intro ev wy hp hl hk hd
                  have e7 : ev (.tmp 7) = .pointer (some ⟨p, 0, none⟩) := hk 7 (by decide)
                  clear hk
                  clear hd
                  exact Yield.op (v := .pointer (some ⟨p, 2, none⟩)) (w' := wy) (by simp [execOp, go_sem, e7]) ⟨Ext.refl _, rfl⟩
                · intro ev wy hp hl hk hd
                  have e47 : ev (.tmp 47) = .pointer (some ⟨p, 2, none⟩) := hk 47 (by decide)
                  clear hk
                  clear hd
                  obtain ⟨da, dn, dc, hdv⟩ := O.out.slice
                  exact Yield.load rfl e47 (by rw [hdv]; simp [go_sem, (X.out.ext hl).cells.2.2, hdv]) ⟨Ext.refl _, rfl⟩
                · intro ev wy hp hl hk hd
                  have e6 : ev (.tmp 6) = .func (.func 20) #[] #[.pointer (some ⟨q + 1, 0, none⟩)] := hk 6 (by decide)
                  clear hk
                  clear hd
                  exact Yield.mv rfl ⟨Ext.refl _, e6⟩
                · intro ev wy hp hl hk hd
                  have e10 : ev (.tmp 10) = .slice ax D[k].length cx := hk 10 (by decide)
                  clear hk
                  clear hd
                  exact Yield.mv rfl ⟨Ext.refl _, e10⟩
                · intro ev wy hp hl hk hd
                  have e49 : ev (.tmp 49) = .func (.func 20) #[] #[.pointer (some ⟨q + 1, 0, none⟩)] := hk 49 (by decide)
                  have e50 : ev (.tmp 50) = .slice ax D[k].length cx := hk 50 (by decide)
                  clear hk
                  clear hd
                  refine Yield.callv rfl e49 Try.func20 rfl (by kernel_rfl) ?_
                  simp only [List.map_toArray, List.map_cons, List.map_nil, List.append_toArray, List.cons_append, List.nil_append, e50]
                  exact (HST.out wy hl).mono fun e w' ⟨u, he, ho, hE⟩ => ⟨u, he, hE, by obtain ⟨ua, uc, hu, _⟩ := ho.ints.open; exact ⟨ua, uc, hu, ho.lower (HZ.out wy hl)⟩⟩
                · intro ev wy hp hl hk hd
                  have f51 : (fun (v : Value) (w : World) => ∃ un uc, v = .slice un (Term.left D[k] gone).length uc ∧ OwnI w (q + 1 + 1) v (Term.left D[k] gone)) (ev (.tmp 51)) wy := hk 51 (by decide)
                  generalize hx51 : ev (.tmp 51) = x51 at *
                  clear hk
                  clear hd
                  obtain ⟨un, uc, hv51, ho51⟩ := f51
                  subst hv51
                  exact Yield.op (v := .slice (some ⟨wy.heap.size, 0, none⟩) 1 1) (w' := wy.alloc (.cells #[.slice un (Term.left D[k] gone).length uc] 22)) (by simp [execOp, go_sem, hx51, build_row1]) ⟨Ext.alloc _ _, _, _, _, _, rfl, ho51.ext (Ext.alloc _ _), slOne wy _ 22⟩
              · intro vals wz hz hv
                have g47 : vals 0 = .pointer (some ⟨p, 2, none⟩) := hv 0 (by decide)
                have g48 : vals 1 = dv := hv 1 (by decide)
                have g49 : vals 2 = .func (.func 20) #[] #[.pointer (some ⟨q + 1, 0, none⟩)] := hv 2 (by decide)
                have g50 : vals 3 = .slice ax D[k].length cx := hv 3 (by decide)
                have g51 : (fun (v : Value) (w : World) => ∃ un uc, v = .slice un (Term.left D[k] gone).length uc ∧ OwnI w (q + 1 + 1) v (Term.left D[k] gone)) (vals 4) wz := hv 4 (by decide)
                have g52 : (fun (v : Value) (w : World) => ∃ x an n c, x = .slice an n c ∧ OwnI w (q + 1 + 1) x (Term.left D[k] gone) ∧ Sl w v [x]) (vals 5) wz := hv 5 (by decide)
                clear hv
                simp only [List.take_succ_cons, List.take_zero, List.drop_succ_cons, List.drop_zero]
                simp only [putAll, Act.put, List.setIfInBounds_toArray, List.set_cons_zero, List.set_cons_succ, g47, g48, g49, g50]
                clear g47
                clear g48
                clear g49
                clear g50
                generalize vals 4 = v51 at *
                generalize vals 5 = v52 at *
                obtain ⟨w5, hw5⟩ : ∃ w5, w5 = wz := ⟨_, rfl⟩
                rw [← hw5] at hz g51 g52 ⊢
                clear hw5 g51
                obtain ⟨u5, ua, un, uc, hu5, hou5, hsl5⟩ := g52
                obtain ⟨sa, sn, sc, rfl⟩ : ∃ a n c, v52 = .slice a n c := by obtain ⟨a9, c9, e9, _⟩ := hsl5; exact ⟨_, _, _, e9⟩
                have hE5 := hE.trans hz
                have X5 := Lib.hid (X.out.ext hz)
                obtain ⟨xs, h1, h2, h3⟩ := O.out.ext hz
                rw [HK.out] at h1
                have H1 := Lib.hid h1
                have H2 := Lib.hid h2
                have H3 := Lib.hid h3
                have HU := Lib.hid hou5
                have HS5 := Lib.hid hsl5
                have hone := Lib.hid (oneSlice ⟨ua, un, uc, hu5⟩)
                have hk1 := Lib.hid (show k + [u5].length ≤ maxLen by simp [maxLen]; omega)
                have hk2 := Lib.hid (show (k + [u5].length) * 24 ≤ 140737488355328 by simp; omega)
                have hz5 := Lib.hid (HZ.out w5 hz)
                have HNE := Lib.hid (rowBeside h1 X5.out (by decide))
                clear h1 h2 h3 hou5 hsl5
                go_wp2_with (at_builtin; refine wpList_app rfl (.tmp 48) (.tmp 52) tRow rfl rfl rfl H1.out HS5.out hone.out hk1.out hk2.out hz5.out ?_; intro v9 w9 hown9 hg9; have hg9 : w5.grownBy w9 dv.ownBlock := hg9; obtain ⟨a9, n9, c9, rfl⟩ := ownSlice hown9; have x9 := Lib.hid (X5.out.grown hg9 HNE.out); obtain ⟨y0, y1, y2⟩ := x9.out.cells; have fy := fun i => frozen_of_heap x9.out i)
                have hbs := butSet w9 p 2 (.slice a9 n9 c9)
                have hfar : ∀ j, dv.ownBlock = some j → q + 1 + 1 ≤ j := fun j hj => (H1.out.lt j hj).1
                have hE9 : Ext w w9 := Below.grown hE5 hg9 hE5.size (fun j hj => by have := hfar j hj; have := HQ.out; omega)
                have x10 := Lib.hid (x9.out.setD (.slice a9 n9 c9))
                have rr9 : OwnRR w9 (q + 1 + 1) (.slice a9 n9 c9) ((D.take (k + 1)).map (fun l => Term.left l gone)) := by
                  rw [HTK.out]
                  exact OwnRR.snoc (w := w5) (v := dv) (xs := xs) (by rw [HK.out]; exact H1.out) H2.out H3.out HU.out hg9 (by rw [HK.out]; exact hown9)
                have rr10 := Lib.hid (rr9.but x9.out (by decide) (by decide) hbs)
                have s10 := Lib.hid (((OS.out.ext hz).grown H1.out hg9).but x9.out (by decide) hbs)
                have hneA : some q ≠ dv.ownBlock := rowBeside H1.out (A.out.ext hz) (by decide)
                have hneR : some (q + 1 + 1) ≠ dv.ownBlock := rowBeside H1.out (R.out.ext hz) (by decide)
                have A10 := Lib.hid (((A.out.ext hz).grown hg9 hneA).but hbs (by omega))
                have R10 := Lib.hid (((R.out.ext hz).grown hg9 hneR).but hbs (by omega))
                have B5 := heap_ext B.out hz
                have hB1 := (Array.getElem?_eq_some_iff.1 B5).1
                have B10 := Lib.hid (show (w9.setCell ⟨p, 2, none⟩ (.slice a9 n9 c9)).heap[q + 1]? = some (.cells #[.slice ga gone.length gcap] 22 (0, 0)) from (hbs.block (q + 1) (Nat.lt_of_lt_of_le hB1 hg9.size) (by omega)).trans ((hg9.block (q + 1) hB1 (fun e => by have := hfar _ e.symm; omega)).trans B5))
                have hE10 : Ext w (w9.setCell ⟨p, 2, none⟩ (.slice a9 n9 c9)) := Below.setCell hE9 (p := ⟨p, 2, none⟩) (by show w.heap.size ≤ p; have := HQ.out; omega) _
                clear hown9 hg9 rr9 hbs y0 y1 y2 fy B5 hneA hneR
                go_wp2_with fail
                go_roundw
                case rel => exact ⟨k + 1, by omega, by go_num, _, x10.out, rr10.out, s10.out, A10.out, B10.out, R10.out, hE10⟩
                case measure => simp [intOf]; omega
            · have hK : (D.take k).map (fun l => Term.left l gone) = D.map (fun l => Term.left l gone) := by rw [List.take_of_length_le (by omega)]
              rw [hK] at O
              have HXB := Lib.hid (show ∀ w', Ext wr w' → IsConf w' (confV (t + 1) (.slice an k9 cn) dv) (Term.next ⟨t, S, D⟩ gone) from fun w' h => by rw [HNX.out]; exact ⟨_, _, rfl, (OS.out.ext h).ints, (O.out.ext h).rows⟩)
              obtain ⟨da, dn, dc, rfl⟩ := O.out.slice
              obtain ⟨d0, d1, d2⟩ := X.out.cells
              clear hK
              go_wp2_with fail
              refine (right6_any _ (Term.next ⟨t, S, D⟩ gone) _ (HXB.out _ (Ext.refl _))).mono ?_
              rintro e w11 ⟨rfl, hE11⟩
              have r11 := Lib.hid (R.out.ext hE11)
              have x11 := Lib.hid (X.out.ext hE11)
              have e11 := hE.trans hE11
              clear d0 d1 d2
              obtain ⟨c0, c1, c2⟩ := r11.out.cells
              obtain ⟨d0, d1, d2⟩ := x11.out.cells
              have fr : ∀ i, w11.frozen? ⟨q + 1 + 1, i, none⟩ = false := fun i => frozen_of_heap r11.out i
              cases hrr : Term.right (Term.next ⟨t, S, D⟩ gone) with
              | false =>
                have HRR := Lib.hid hrr
                clear hrr
                go_wp2_with fail
                have hs := r11.out.setAll 0 (.slice none 0 0) (.slice none 0 0)
                exact bodyPost_ret (v := .tuple #[confV 0 (.slice none 0 0) (.slice none 0 0), .bool false]) (by simp [results, Try.results9, go_sem, c0, c1, c2, fr, confV]) rfl
                  ⟨_, by rw [HN.out, HRR.out], by rw [HN.out, HRR.out]; exact ⟨_, _, rfl, ints0 _, irows0 _⟩, Below.trans (B := w.heap.size) e11 (hs.2.below (by have := HQ.out; omega) e11.size)⟩
              | true =>
                have HRR := Lib.hid hrr
                clear hrr
                go_wp2_with fail
                have hs := r11.out.setAll (t + 1) (.slice an k9 cn) (.slice da dn dc)
                refine bodyPost_ret (v := .tuple #[confV (t + 1) (.slice an k9 cn) (.slice da dn dc), .bool true]) (by simp [results, Try.results9, go_sem, c0, c1, c2, d0, d1, d2, fr, confV]) rfl
                  ⟨_, by rw [HN.out, HRR.out], by rw [HN.out, HRR.out, show orNoC true (Term.next ⟨t, S, D⟩ gone) = Term.next ⟨t, S, D⟩ gone from rfl, HNX.out]; exact ⟨_, _, rfl, ((OS.out.ext hE11).but r11.out (by decide) hs.2).ints, ((O.out.ext hE11).but r11.out (by decide) (by decide) hs.2).rows⟩, Below.trans (B := w.heap.size) e11 (hs.2.below (by have := HQ.out; omega) e11.size)⟩
        · have HOD := Lib.hid (oddOdd n1)
          have HEV := Lib.hid (decide_eq_false n1)
          obtain ⟨k9, hk9⟩ : ∃ k9, NL.length = k9 + 1 := ⟨NL.length - 1, by omega⟩
          have O3i := Lib.hid O3.out.ints
          have hpos : (0 : Int) < (k9 : Int) + 1 := by omega
          rw [hk9] at X3 O3i e3 A3 B3 R3 O3 ⊢
          clear n0 n1
          obtain ⟨k0, k1, k2⟩ := A3.out.cells
          go_wp2_with fail
          clear c0 c1 c2 fp
          generalize hw3 : (((w2.setCell ⟨p, 0, none⟩ (.int .i64 (t + 1))).setCell ⟨p, 1, none⟩ (.slice an (k9 + 1) cn)).setCell ⟨p, 2, none⟩ (.slice none 0 0)) = w4 at *
          clear hw3
          refine (isEven6_any _ NL _ O3i.out).mono ?_
          rw [HEV.out]
          rintro e w' ⟨rfl, rfl⟩
          go_wp2_with fail
          clear k0 k1 k2
          have X4 := X3
          have O4 := O3
          have A4 := A3
          have B4 := B3
          have R4 := R3
          have e4 := e3
          clear X3 O3 A3 B3 R3 e3 O3i
          have HNX := Lib.hid (show Term.next ⟨t, S, D⟩ gone = ⟨t + 1, NL, D.map (fun l => Term.left l gone)⟩ by unfold Term.next; simp only; rw [HNL.out, HOD.out])
          go_loopw [10, 43] (fun _ i wr => ∃ k : Nat, k ≤ D.length ∧ i = .int .i64 k ∧ ∃ dv, Hid (ConfAt 26 wr p (t + 1) (.slice an (k9 + 1) cn) dv) ∧ Hid (OwnRR wr (q + 1 + 1) dv ((D.take k).map (fun l => Term.left l gone))) ∧ Hid (OwnI wr q (.slice an (k9 + 1) cn) NL) ∧ Hid (ConfAt 26 wr q t (.slice a1 S.length cap1) (.slice a2 D.length cap2)) ∧ Hid (wr.heap[q + 1]? = some (.cells #[.slice ga gone.length gcap] 22 (0, 0))) ∧ Hid (ConfAt 26 wr (q + 1 + 1) 0 (.slice none 0 0) (.slice none 0 0)) ∧ Ext w wr) (fun _ i _ => D.length - (intOf i).toNat)
          case atStart => exact ⟨0, by omega, rfl, _, X4.out, OwnRR.nil _ _, O4.out, A4.out, B4.out, R4.out, e4⟩
          case round =>
            obtain ⟨k, hk, rfl, dv, X, O, OS, A, B, R, hE⟩ := hrel
            by_cases hlt : k < D.length
            · obtain ⟨a', cap', e', _, _, hc⟩ := (HD.out.below hE).open
              obtain ⟨b, off, x, rfl, hcell, hx⟩ := hc k hlt
              injection e' with e4 e5 e6
              subst e4
              clear hc e5 e6
              have HX := Lib.hid hx
              obtain ⟨ax, cx, rfl, _⟩ := hx.open
              obtain ⟨g1, g2, g3⟩ := Term.shard_ok (HQ3.out _ (List.getElem_mem hlt))
              have HTK := Lib.hid (show (D.take (k + 1)).map (fun l => Term.left l gone) = (D.take k).map (fun l => Term.left l gone) ++ [Term.left D[k] gone] by rw [take_succ_getD D k hlt, List.map_append]; rfl)
              have HK := Lib.hid (show ((D.take k).map (fun l => Term.left l gone)).length = k by simp; omega)
              have HST := Lib.hid (fun (wy : World) (h : Ext wr wy) => stay6_any (.slice ax D[k].length cx) (.slice ga gone.length gcap) D[k] gone (q + 1) wy (HX.out.below h) g1 (by omega) (cell_of_heap (heap_ext B.out h) 0) (HG.out.below (hE.trans h)))
              have hqr : q + 1 + 1 ≤ wr.heap.size := by have := R.out.lt; omega
              have HZ := Lib.hid (fun (wy : World) (h : Ext wr wy) => Nat.le_trans hqr h.size)
              clear hx g3
              go_wp2_with fail
              refine wp_region_tail (by kernel_rfl) 6 Ext (fun iop v w => match iop with
                  | 0 => v = .pointer (some ⟨p, 2, none⟩)
                  | 1 => v = dv
                  | 2 => v = .func (.func 20) #[] #[.pointer (some ⟨q + 1, 0, none⟩)]
                  | 3 => v = .slice ax D[k].length cx
                  | 4 => ∃ un uc, v = .slice un (Term.left D[k] gone).length uc ∧ OwnI w (q + 1 + 1) v (Term.left D[k] gone)
                  | _ => ∃ x an n c, x = .slice an n c ∧ OwnI w (q + 1 + 1) x (Term.left D[k] gone) ∧ Sl w v [x]
                  ) (by kernel_rfl) (by kernel_rfl) (by decide) (fun _ _ _ h k => Ext.trans h k) (fun a => Ext.refl a) (Ext.drew _) ?_ ?_ ?_
              · intro iop v wa wb hF hL
                cases iop with
                | zero => exact hF
                | succ iop =>
                  cases iop with
                  | zero => exact hF
                  | succ iop =>
                    cases iop with
                    | zero => exact hF
                    | succ iop =>
                      cases iop with
                      | zero => exact hF
                      | succ iop =>
                        cases iop with
                        | zero => (first | exact hF | (obtain ⟨a, b, h1, h2⟩ := hF; exact ⟨a, b, h1, h2.ext hL⟩) | (obtain ⟨x, a, n, c, h1, h2, h3⟩ := hF; exact ⟨x, a, n, c, h1, h2.ext hL, h3.below hL⟩))
                        | succ iop =>
                          (first | exact hF | (obtain ⟨a, b, h1, h2⟩ := hF; exact ⟨a, b, h1, h2.ext hL⟩) | (obtain ⟨x, a, n, c, h1, h2, h3⟩ := hF; exact ⟨x, a, n, c, h1, h2.ext hL, h3.below hL⟩))
              · refine Obls.cons ?_ (Obls.cons ?_ (Obls.cons ?_ (Obls.cons ?_ (Obls.cons ?_ (Obls.cons ?_ (Obls.nil))))))
                · intro ev wy hp hl hk hd
                  have e7 : ev (.tmp 7) = .pointer (some ⟨p, 0, none⟩) := hk 7 (by decide)
                  clear hk
                  clear hd
                  exact Yield.op (v := .pointer (some ⟨p, 2, none⟩)) (w' := wy) (by simp [execOp, go_sem, e7]) ⟨Ext.refl _, rfl⟩
                · intro ev wy hp hl hk hd
                  have e47 : ev (.tmp 47) = .pointer (some ⟨p, 2, none⟩) := hk 47 (by decide)
                  clear hk
                  clear hd
                  obtain ⟨da, dn, dc, hdv⟩ := O.out.slice
                  exact Yield.load rfl e47 (by rw [hdv]; simp [go_sem, (X.out.ext hl).cells.2.2, hdv]) ⟨Ext.refl _, rfl⟩
                · intro ev wy hp hl hk hd
                  have e6 : ev (.tmp 6) = .func (.func 20) #[] #[.pointer (some ⟨q + 1, 0, none⟩)] := hk 6 (by decide)
                  clear hk
                  clear hd
                  exact Yield.mv rfl ⟨Ext.refl _, e6⟩
                · intro ev wy hp hl hk hd
                  have e10 : ev (.tmp 10) = .slice ax D[k].length cx := hk 10 (by decide)
                  clear hk
                  clear hd
                  exact Yield.mv rfl ⟨Ext.refl _, e10⟩
                · intro ev wy hp hl hk hd
                  have e49 : ev (.tmp 49) = .func (.func 20) #[] #[.pointer (some ⟨q + 1, 0, none⟩)] := hk 49 (by decide)
                  have e50 : ev (.tmp 50) = .slice ax D[k].length cx := hk 50 (by decide)
                  clear hk
                  clear hd
                  refine Yield.callv rfl e49 Try.func20 rfl (by kernel_rfl) ?_
                  simp only [List.map_toArray, List.map_cons, List.map_nil, List.append_toArray, List.cons_append, List.nil_append, e50]
                  exact (HST.out wy hl).mono fun e w' ⟨u, he, ho, hE⟩ => ⟨u, he, hE, by obtain ⟨ua, uc, hu, _⟩ := ho.ints.open; exact ⟨ua, uc, hu, ho.lower (HZ.out wy hl)⟩⟩
                · intro ev wy hp hl hk hd
                  have f51 : (fun (v : Value) (w : World) => ∃ un uc, v = .slice un (Term.left D[k] gone).length uc ∧ OwnI w (q + 1 + 1) v (Term.left D[k] gone)) (ev (.tmp 51)) wy := hk 51 (by decide)
                  generalize hx51 : ev (.tmp 51) = x51 at *
                  clear hk
                  clear hd
                  obtain ⟨un, uc, hv51, ho51⟩ := f51
                  subst hv51
                  exact Yield.op (v := .slice (some ⟨wy.heap.size, 0, none⟩) 1 1) (w' := wy.alloc (.cells #[.slice un (Term.left D[k] gone).length uc] 22)) (by simp [execOp, go_sem, hx51, build_row1]) ⟨Ext.alloc _ _, _, _, _, _, rfl, ho51.ext (Ext.alloc _ _), slOne wy _ 22⟩
              · intro vals wz hz hv
                have g47 : vals 0 = .pointer (some ⟨p, 2, none⟩) := hv 0 (by decide)
                have g48 : vals 1 = dv := hv 1 (by decide)
                have g49 : vals 2 = .func (.func 20) #[] #[.pointer (some ⟨q + 1, 0, none⟩)] := hv 2 (by decide)
                have g50 : vals 3 = .slice ax D[k].length cx := hv 3 (by decide)
                have g51 : (fun (v : Value) (w : World) => ∃ un uc, v = .slice un (Term.left D[k] gone).length uc ∧ OwnI w (q + 1 + 1) v (Term.left D[k] gone)) (vals 4) wz := hv 4 (by decide)
                have g52 : (fun (v : Value) (w : World) => ∃ x an n c, x = .slice an n c ∧ OwnI w (q + 1 + 1) x (Term.left D[k] gone) ∧ Sl w v [x]) (vals 5) wz := hv 5 (by decide)
                clear hv
                simp only [List.take_succ_cons, List.take_zero, List.drop_succ_cons, List.drop_zero]
                simp only [putAll, Act.put, List.setIfInBounds_toArray, List.set_cons_zero, List.set_cons_succ, g47, g48, g49, g50]
                clear g47
                clear g48
                clear g49
                clear g50
                generalize vals 4 = v51 at *
                generalize vals 5 = v52 at *
                obtain ⟨w5, hw5⟩ : ∃ w5, w5 = wz := ⟨_, rfl⟩
                rw [← hw5] at hz g51 g52 ⊢
                clear hw5 g51
                obtain ⟨u5, ua, un, uc, hu5, hou5, hsl5⟩ := g52
                obtain ⟨sa, sn, sc, rfl⟩ : ∃ a n c, v52 = .slice a n c := by obtain ⟨a9, c9, e9, _⟩ := hsl5; exact ⟨_, _, _, e9⟩
                have hE5 := hE.trans hz
                have X5 := Lib.hid (X.out.ext hz)
                obtain ⟨xs, h1, h2, h3⟩ := O.out.ext hz
                rw [HK.out] at h1
                have H1 := Lib.hid h1
                have H2 := Lib.hid h2
                have H3 := Lib.hid h3
                have HU := Lib.hid hou5
                have HS5 := Lib.hid hsl5
                have hone := Lib.hid (oneSlice ⟨ua, un, uc, hu5⟩)
                have hk1 := Lib.hid (show k + [u5].length ≤ maxLen by simp [maxLen]; omega)
                have hk2 := Lib.hid (show (k + [u5].length) * 24 ≤ 140737488355328 by simp; omega)
                have hz5 := Lib.hid (HZ.out w5 hz)
                have HNE := Lib.hid (rowBeside h1 X5.out (by decide))
                clear h1 h2 h3 hou5 hsl5
                go_wp2_with (at_builtin; refine wpList_app rfl (.tmp 48) (.tmp 52) tRow rfl rfl rfl H1.out HS5.out hone.out hk1.out hk2.out hz5.out ?_; intro v9 w9 hown9 hg9; have hg9 : w5.grownBy w9 dv.ownBlock := hg9; obtain ⟨a9, n9, c9, rfl⟩ := ownSlice hown9; have x9 := Lib.hid (X5.out.grown hg9 HNE.out); obtain ⟨y0, y1, y2⟩ := x9.out.cells; have fy := fun i => frozen_of_heap x9.out i)
                have hbs := butSet w9 p 2 (.slice a9 n9 c9)
                have hfar : ∀ j, dv.ownBlock = some j → q + 1 + 1 ≤ j := fun j hj => (H1.out.lt j hj).1
                have hE9 : Ext w w9 := Below.grown hE5 hg9 hE5.size (fun j hj => by have := hfar j hj; have := HQ.out; omega)
                have x10 := Lib.hid (x9.out.setD (.slice a9 n9 c9))
                have rr9 : OwnRR w9 (q + 1 + 1) (.slice a9 n9 c9) ((D.take (k + 1)).map (fun l => Term.left l gone)) := by
                  rw [HTK.out]
                  exact OwnRR.snoc (w := w5) (v := dv) (xs := xs) (by rw [HK.out]; exact H1.out) H2.out H3.out HU.out hg9 (by rw [HK.out]; exact hown9)
                have rr10 := Lib.hid (rr9.but x9.out (by decide) (by decide) hbs)
                have s10 := Lib.hid (((OS.out.ext hz).grown H1.out hg9).but x9.out (by decide) hbs)
                have hneA : some q ≠ dv.ownBlock := rowBeside H1.out (A.out.ext hz) (by decide)
                have hneR : some (q + 1 + 1) ≠ dv.ownBlock := rowBeside H1.out (R.out.ext hz) (by decide)
                have A10 := Lib.hid (((A.out.ext hz).grown hg9 hneA).but hbs (by omega))
                have R10 := Lib.hid (((R.out.ext hz).grown hg9 hneR).but hbs (by omega))
                have B5 := heap_ext B.out hz
                have hB1 := (Array.getElem?_eq_some_iff.1 B5).1
                have B10 := Lib.hid (show (w9.setCell ⟨p, 2, none⟩ (.slice a9 n9 c9)).heap[q + 1]? = some (.cells #[.slice ga gone.length gcap] 22 (0, 0)) from (hbs.block (q + 1) (Nat.lt_of_lt_of_le hB1 hg9.size) (by omega)).trans ((hg9.block (q + 1) hB1 (fun e => by have := hfar _ e.symm; omega)).trans B5))
                have hE10 : Ext w (w9.setCell ⟨p, 2, none⟩ (.slice a9 n9 c9)) := Below.setCell hE9 (p := ⟨p, 2, none⟩) (by show w.heap.size ≤ p; have := HQ.out; omega) _
                clear hown9 hg9 rr9 hbs y0 y1 y2 fy B5 hneA hneR
                go_wp2_with fail
                go_roundw
                case rel => exact ⟨k + 1, by omega, by go_num, _, x10.out, rr10.out, s10.out, A10.out, B10.out, R10.out, hE10⟩
                case measure => simp [intOf]; omega
            · have hK : (D.take k).map (fun l => Term.left l gone) = D.map (fun l => Term.left l gone) := by rw [List.take_of_length_le (by omega)]
              rw [hK] at O
              have HXB := Lib.hid (show ∀ w', Ext wr w' → IsConf w' (confV (t + 1) (.slice an (k9 + 1) cn) dv) (Term.next ⟨t, S, D⟩ gone) from fun w' h => by rw [HNX.out]; exact ⟨_, _, rfl, (OS.out.ext h).ints, (O.out.ext h).rows⟩)
              obtain ⟨da, dn, dc, rfl⟩ := O.out.slice
              obtain ⟨d0, d1, d2⟩ := X.out.cells
              clear hK
              go_wp2_with fail
              refine (right6_any _ (Term.next ⟨t, S, D⟩ gone) _ (HXB.out _ (Ext.refl _))).mono ?_
              rintro e w11 ⟨rfl, hE11⟩
              have r11 := Lib.hid (R.out.ext hE11)
              have x11 := Lib.hid (X.out.ext hE11)
              have e11 := hE.trans hE11
              clear d0 d1 d2
              obtain ⟨c0, c1, c2⟩ := r11.out.cells
              obtain ⟨d0, d1, d2⟩ := x11.out.cells
              have fr : ∀ i, w11.frozen? ⟨q + 1 + 1, i, none⟩ = false := fun i => frozen_of_heap r11.out i
              cases hrr : Term.right (Term.next ⟨t, S, D⟩ gone) with
              | false =>
                have HRR := Lib.hid hrr
                clear hrr
                go_wp2_with fail
                have hs := r11.out.setAll 0 (.slice none 0 0) (.slice none 0 0)
                exact bodyPost_ret (v := .tuple #[confV 0 (.slice none 0 0) (.slice none 0 0), .bool false]) (by simp [results, Try.results9, go_sem, c0, c1, c2, fr, confV]) rfl
                  ⟨_, by rw [HN.out, HRR.out], by rw [HN.out, HRR.out]; exact ⟨_, _, rfl, ints0 _, irows0 _⟩, Below.trans (B := w.heap.size) e11 (hs.2.below (by have := HQ.out; omega) e11.size)⟩
              | true =>
                have HRR := Lib.hid hrr
                clear hrr
                go_wp2_with fail
                have hs := r11.out.setAll (t + 1) (.slice an (k9 + 1) cn) (.slice da dn dc)
                refine bodyPost_ret (v := .tuple #[confV (t + 1) (.slice an (k9 + 1) cn) (.slice da dn dc), .bool true]) (by simp [results, Try.results9, go_sem, c0, c1, c2, d0, d1, d2, fr, confV]) rfl
                  ⟨_, by rw [HN.out, HRR.out], by rw [HN.out, HRR.out, show orNoC true (Term.next ⟨t, S, D⟩ gone) = Term.next ⟨t, S, D⟩ gone from rfl, HNX.out]; exact ⟨_, _, rfl, ((OS.out.ext hE11).but r11.out (by decide) hs.2).ints, ((O.out.ext hE11).but r11.out (by decide) (by decide) hs.2).rows⟩, Below.trans (B := w.heap.size) e11 (hs.2.below (by have := HQ.out; omega) e11.size)⟩
end Go.Proofs.Ytpfodkgncachiaa
