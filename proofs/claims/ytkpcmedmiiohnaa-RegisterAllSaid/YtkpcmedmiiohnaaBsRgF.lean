/-
  Merged: Layer 14, the program: Install.
-/
import Derived.Test.YtkpcmedmiiohnaaBsEnt2
import Derived.Test.YtkpcmedmiiohnaaBsLib
import Derived.Test.YtkpcmedmiiohnaaBsReg
import Derived.Test.YtkpcmedmiiohnaaBsRgN

namespace Go.Proofs.Ytkpcmedmiiohnaa
set_option linter.unusedSimpArgs false
set_option linter.unusedVariables false
set_option maxRecDepth 100000
open Go.RowKit
/- Layer 14, the program: Install. -/
theorem tR14 : ElemN Try.prog 69 68 (.agg #[.int .i64 0, .slice none 0 0, .slice none 0 0, .slice none 0 0, .int .i64 0]) 5 88 := ⟨Try.underlying69, by kernel_rfl, rfl, by omega⟩
theorem Yield.app14 {P : Program} {o : Oper} {ev : Operand → Value} {w : World} {R : Value → World → Prop} {t e : TypeId} {z : Value} {size bytes : Nat} (s x : Operand) (E : ElemN P t e z size bytes)
    (ho : o.op = .call { callee := .builtin .append, args := #[s, x], argTypes := #[t, t] }) {base : Nat} {v u : Value} {n m : Nat} {xs ys : List Value} (hs : ev s = v) (hx : ev x = u)
    (hown : w.ownsRow base e size v n xs) (hu : SlN size w u m ys) (hm : 0 < m) (h1 : ∀ y ∈ ys, y.oneCell' = true) (hsz : n + m ≤ maxLen) (hby : (n + m) * bytes ≤ 140737488355328) (hb : base ≤ w.heap.size)
    (h : ∀ v' w', w'.ownsRow base e size v' (n + m) (xs ++ ys) → w.grownBy w' v.ownBlock → R v' w') : Yield P o ev w R := by
  obtain ⟨v', w', hr, h2, h3, _⟩ := run_appN_at (P := P) (ty := o.type) E hown hu hm h1 hsz hby hb
  refine Yield.op (v := v') (w' := w') ?_ (h v' w' h2 h3)
  simp only [execOp, ho, resolve, invoke, builtin, Sem.run_bind, Sem.run_pure, Result.andThen_ok, List.map_toArray, List.map_cons, List.map_nil, hs, hx, hr]

/-- What Install leaves. -/
def GivesInst14 (B p : Nat) (R : List Reg.Row) (c : Term.C) (l : List Ent.E) (w : World) (e : Ending) (w' : World) : Prop := ∃ code R', e = .returned (.int .i64 code) ∧ Reg.Inst R c l code R' ∧ IsReg w' B p R' ∧ Below B w w' ∧ Keeps14 w w'
/-- A row that is there, as it lies. -/
theorem IsReg.row14 {w : World} {B p g c n : Nat} {R : List Reg.Row} (h : IsReg w B p R) (hp : w.heap[p]? = some (.cells #[.slice (some ⟨g, 0, none⟩) n c] 71 (0, 0))) (i : Nat) (hi : i < R.length) :
    ∃ a1 n1 c1 a2 c2 a3 c3, w.cell? ⟨g, i * 5, none⟩ = some (.int .i64 R[i].c.term) ∧ w.cell? ⟨g, i * 5 + 1, none⟩ = some (.slice a1 n1 c1) ∧ w.cell? ⟨g, i * 5 + 2, none⟩ = some (.slice a2 R[i].c.shards.length c2) ∧ w.cell? ⟨g, i * 5 + 3, none⟩ = some (.slice a3 R[i].tail.length c3) ∧ w.cell? ⟨g, i * 5 + 4, none⟩ = some (.int .i64 R[i].start) ∧
      Ints w (.slice a1 n1 c1) R[i].c.seqs ∧ IRows w (.slice a2 R[i].c.shards.length c2) R[i].c.shards ∧ Ents w (.slice a3 R[i].tail.length c3) R[i].tail := by
  obtain ⟨g', c', L, h1, h2, h3, h4, hl, hat, hR, hc⟩ := h.open
  rw [hp] at h1
  injection h1 with h1
  injection h1 with h1 _ _
  simp only [Array.mk.injEq, List.cons.injEq, Value.slice.injEq, Option.some.injEq, Addr.mk.injEq] at h1
  have hg := h1.1.1.1
  subst hg
  have hiL : i < L.length := by rw [hl]; exact hi
  have hx : L[i].x = R[i] := by
    subst hR
    simp
  obtain ⟨k0, k1, k2, k3, k4⟩ := hc i hiL
  obtain ⟨r1, r2, r3⟩ := hat _ (List.getElem_mem hiL)
  rw [hx] at k0 k4 r1 r2 r3
  obtain ⟨a1, n1, c1, e1⟩ := ownSlice r1
  obtain ⟨a2, c2, e2, _⟩ := r2.rows.open
  obtain ⟨a3, c3, e3, _⟩ := r3.ents.shape
  rw [e1] at k1 r1
  rw [e2] at k2 r2
  rw [e3] at k3 r3
  exact ⟨a1, n1, c1, a2, c2, a3, c3, k0, k1, k2, k3, k4, r1.ints, r2.rows, r3.ents⟩

theorem SlN.row14 (w : World) (T : TypeId) (r : Row14) : SlN 5 (w.alloc (.cells r.cells.toArray T)) (.slice (some ⟨w.heap.size, 0, none⟩) 1 1) 1 (flat14 [r]) := by
  refine ⟨_, _, rfl, Nat.le_refl _, by simp [maxLen], fun e => by simp at e, rfl, fun j hj => ⟨_, _, rfl, ?_⟩⟩
  have hj5 : j < 5 := by simpa [flat14, Row14.cells] using hj
  rw [Nat.zero_add, World.cell?_alloc_mark]
  simp [flat14, Row14.cells]
theorem build_rowS14 (w : World) (n st : Int) (a b : Option Addr) (n1 n2 c1 c2 : Nat) : (Instr.build 68 #[(0, .agg #[.int .i64 n, .slice a n1 c1, .slice b n2 c2]), (2, .int .i64 st)]).run Try.prog w = .ok (.agg #[.int .i64 n, .slice a n1 c1, .slice b n2 c2, .slice none 0 0, .int .i64 st]) w := by kernel_rfl
theorem build_rows14 (w : World) (n st : Int) (a b : Option Addr) (n1 n2 c1 c2 : Nat) : (Instr.buildSlice 69 1 #[(0, .agg #[.int .i64 n, .slice a n1 c1, .slice b n2 c2, .slice none 0 0, .int .i64 st])]).run Try.prog w = .ok (.slice (some ⟨w.heap.size, 0, none⟩) 1 1) (w.alloc (.cells #[.int .i64 n, .slice a n1 c1, .slice b n2 c2, .slice none 0 0, .int .i64 st] 68)) := by kernel_rfl
set_option maxHeartbeats 8000000 in
theorem install14_any {w : World} {B p : Nat} {R : List Reg.Row} (v tl : Value) (c : Term.C) (l : List Ent.E) (h : IsReg w B p R) (hv : IsConf w v c) (ht : Ents w tl l) (hB : B ≤ w.heap.size) (hl : l.length * 64 ≤ 140737488355328) (hvk : ∀ w', Below B w w' → Keeps14 w w' → IsConf w' v c) (hterm : -9223372036854775808 ≤ c.term ∧ c.term ≤ 9223372036854775807) :
    Calls Try.prog 12 #[.pointer (some ⟨p, 0, none⟩), v, tl] w (GivesInst14 B p R c l w) := by
  have HV := Lib.hid hv
  have HT := Lib.hid ht
  have HH := Lib.hid h
  have HVK := Lib.hid hvk
  obtain ⟨s, d, rfl, hs, hd⟩ := hv
  obtain ⟨sa, sn, sc, rfl⟩ := hs.isSlice
  obtain ⟨da, dc, rfl, _⟩ := hd.open
  obtain ⟨ta, tc, rfl, _⟩ := ht.shape
  unfold confV at HV HVK ⊢
  obtain ⟨N, hN⟩ : ∃ z, c.shards.length = z := ⟨_, rfl⟩
  obtain ⟨m, hm⟩ : ∃ z, l.length = z := ⟨_, rfl⟩
  obtain ⟨T, hT⟩ : ∃ z, c.term = z := ⟨_, rfl⟩
  rw [hN, hT] at HV HVK
  rw [hm] at HT
  rw [hN, hm, hT]
  have HN := Lib.hid (And.intro hN (And.intro hm hT))
  obtain ⟨q, hq⟩ : ∃ q, w.heap.size = q := ⟨_, rfl⟩
  obtain ⟨w1, hw1⟩ : ∃ z, w.alloc (.cells #[.int .i64 T, .slice sa sn sc, .slice da N dc] 33) = z := ⟨_, rfl⟩
  have hE1 : Ext w w1 := by rw [← hw1]; exact Ext.alloc _ _
  have HB1 := Lib.hid (show w1.heap[q]? = some (.cells #[.int .i64 T, .slice sa sn sc, .slice da N dc] 33 (0, 0)) by rw [← hw1, ← hq]; exact heap_alloc_new _ _)
  have HW := Lib.hid (And.intro hq (And.intro hw1 hE1))
  obtain ⟨g, gc, n, hp0, hRn, hnc, hgc, _⟩ := h.firstCell
  have HP0 := Lib.hid hp0
  obtain ⟨TM, hTM⟩ : ∃ z, IntKind.i64.wrap (T - 1) = z := ⟨_, rfl⟩
  have HTM := Lib.hid hTM
  have HA1 := Lib.hid (fun (wy : World) (hy : Ext w wy) => at14_any TM (h.ext hy) (heap_ext hp0 hy))
  have HA2 := Lib.hid (fun (wy : World) (hy : Ext w wy) => at14_any T (h.ext hy) (heap_ext hp0 hy))
  have HRN := Lib.hid hRn
  obtain ⟨pa, hpa⟩ : ∃ z, atPtr14 g R TM = z := ⟨_, rfl⟩
  obtain ⟨ph, hph⟩ : ∃ z, atPtr14 g R T = z := ⟨_, rfl⟩
  rw [hpa] at HA1
  rw [hph] at HA2
  have HPA := Lib.hid (And.intro hpa hph)
  have HTT := Lib.hid (show -9223372036854775808 ≤ T ∧ T ≤ 9223372036854775807 by rw [← hT]; exact hterm)
  clear hs hd ht h hp0 hN hm hT hq hw1 hE1 hRn hpa hph hterm hTM hvk
  go_enter Try.func12, Try.ntmps12
  go_upto_region 1 with fail
  rw [HW.out.1, HW.out.2.1]
  refine wp_region_tail (by kernel_rfl) 10 Ext (fun iop v w => match iop with
      | 0 => v = .pointer (some ⟨p, 0, none⟩)
      | 1 => v = .pointer (some ⟨q, 0, none⟩)
      | 2 => v = .int .i64 T
      | 3 => v = .int .i64 TM
      | 4 => v = .pointer pa
      | 5 => v = .pointer (some ⟨p, 0, none⟩)
      | 6 => v = .pointer (some ⟨q, 0, none⟩)
      | 7 => v = .int .i64 T
      | 8 => v = .pointer ph
      | _ => ∃ x, v = .pointer (some ⟨x, 0, none⟩) ∧ w1.heap.size ≤ x ∧ w.heap[x]? = some (.cells #[.pointer none] 77 (0, 0))
      ) (by kernel_rfl) (by kernel_rfl) (by decide) (fun _ _ _ h k => Ext.trans h k) (fun a => Ext.refl a) (Ext.drew _) ?_ ?_ ?_
  · intro iop v wa wb hF hL
    iterate 9 (rcases iop with _ | iop; exact hF)
    (first | exact hF | (obtain ⟨x, h1, h2, h3⟩ := hF; exact ⟨x, h1, h2, heap_ext h3 hL⟩))
  · refine Obls.cons ?_ (Obls.cons ?_ (Obls.cons ?_ (Obls.cons ?_ (Obls.cons ?_ (Obls.cons ?_ (Obls.cons ?_ (Obls.cons ?_ (Obls.cons ?_ (Obls.cons ?_ (Obls.nil))))))))))
    · intro ev wy hp hl hk hd
      have e0 : ev _ = .pointer (some ⟨p, 0, none⟩) := hk 0 (by decide)
      exact Yield.mv rfl ⟨Ext.refl _, e0⟩
    · intro ev wy hp hl hk hd
      have e4 : ev _ = .pointer (some ⟨q, 0, none⟩) := hk 4 (by decide)
      exact Yield.oq (by simp [execOp, go_sem, e4])
    · intro ev wy hp hl hk hd
      have e11 : ev _ = _ := hk 11 (by decide)
      exact Yield.op (v := .int .i64 T) (w' := wy) (by simp [execOp, go_sem, e11, cell_of_heap (heap_ext HB1.out hl) 0]) ⟨Ext.refl _, rfl⟩
    · intro ev wy hp hl hk hd
      have e12 : ev _ = _ := hk 12 (by decide)
      exact Yield.op (v := .int .i64 TM) (w' := wy) (by simp [execOp, go_sem, e12, hp.const]; exact HTM.out) ⟨Ext.refl _, rfl⟩
    · intro ev wy hp hl hk hd
      have e10 : ev _ = _ := hk 10 (by decide)
      have e13 : ev _ = _ := hk 13 (by decide)
      refine Yield.call rfl hp Try.func29 rfl (by kernel_rfl) ?_
      simp only [List.map_toArray, List.map_cons, List.map_nil, e10, e13]
      exact (HA1.out wy (HW.out.2.2.trans hl)).mono fun _ _ ⟨he, hb⟩ => ⟨_, he, hb, by first | rfl | simp⟩
    · intro ev wy hp hl hk hd
      have e0 : ev _ = .pointer (some ⟨p, 0, none⟩) := hk 0 (by decide)
      exact Yield.mv rfl ⟨Ext.refl _, e0⟩
    · intro ev wy hp hl hk hd
      have e4 : ev _ = .pointer (some ⟨q, 0, none⟩) := hk 4 (by decide)
      exact Yield.oq (by simp [execOp, go_sem, e4])
    · intro ev wy hp hl hk hd
      have e16 : ev _ = _ := hk 16 (by decide)
      exact Yield.op (v := .int .i64 T) (w' := wy) (by simp [execOp, go_sem, e16, cell_of_heap (heap_ext HB1.out hl) 0]) ⟨Ext.refl _, rfl⟩
    · intro ev wy hp hl hk hd
      have e15 : ev _ = _ := hk 15 (by decide)
      have e17 : ev _ = _ := hk 17 (by decide)
      refine Yield.call rfl hp Try.func29 rfl (by kernel_rfl) ?_
      simp only [List.map_toArray, List.map_cons, List.map_nil, e15, e17]
      exact (HA2.out wy (HW.out.2.2.trans hl)).mono fun _ _ ⟨he, hb⟩ => ⟨_, he, hb, by first | rfl | simp⟩
    · intro ev wy hp hl hk hd
      exact Yield.op (v := .pointer (some ⟨wy.heap.size, 0, none⟩)) (w' := wy.alloc (.cells #[.pointer none] 77)) (by simp [execOp, go_sem]) ⟨Ext.alloc _ _, _, rfl, hl.size, heap_alloc_new _ _⟩
  · intro vals wz hz hv
    have g10 : vals 0 = _ := hv 0 (by decide)
    have g11 : vals 1 = _ := hv 1 (by decide)
    have g12 : vals 2 = _ := hv 2 (by decide)
    have g13 : vals 3 = _ := hv 3 (by decide)
    have g14 : vals 4 = _ := hv 4 (by decide)
    have g15 : vals 5 = _ := hv 5 (by decide)
    have g16 : vals 6 = _ := hv 6 (by decide)
    have g17 : vals 7 = _ := hv 7 (by decide)
    have g18 : vals 8 = _ := hv 8 (by decide)
    have g7 : (fun (v : Value) (w : World) => ∃ x, v = .pointer (some ⟨x, 0, none⟩) ∧ w1.heap.size ≤ x ∧ w.heap[x]? = some (.cells #[.pointer none] 77 (0, 0))) (vals 9) wz := hv 9 (by decide)
    clear hv
    simp only [List.take_succ_cons, List.take_zero, List.drop_succ_cons, List.drop_zero]
    simp only [putAll, Act.put, List.setIfInBounds_toArray, List.set_cons_zero, List.set_cons_succ, g10, g11, g12, g13, g14, g15, g16, g17, g18]
    clear g10 g11 g12 g13 g14 g15 g16 g17 g18
    generalize vals 9 = v7 at *
    obtain ⟨w2, hw2⟩ : ∃ z, z = wz := ⟨_, rfl⟩
    subst hw2
    obtain ⟨qa, hqa1, hqa2, hqa3⟩ := g7
    subst hqa1
    have hqc := cell_of_heap hqa3 0
    have hqf := frozen_of_heap hqa3 0
    simp only [List.getElem?_toArray, List.getElem?_cons_zero] at hqc
    go_upto_region 3 with fail
    obtain ⟨w3, hw3⟩ : ∃ z, w2.setCell ⟨qa, 0, none⟩ (.pointer pa) = z := ⟨_, rfl⟩
    rw [hw3]
    have hql : q < w1.heap.size := (Array.getElem?_eq_some_iff.1 HB1.out).1
    have hBt : But qa w2 w3 := by rw [← hw3]; exact butSet _ _ _ _
    have hwq : w.heap.size ≤ qa := Nat.le_trans HW.out.2.2.size hqa2
    have HE3 := Lib.hid (show Ext w w3 from Below.trans (B := w.heap.size) (HW.out.2.2.trans hz) (hBt.below hwq (HW.out.2.2.trans hz).size))
    have HB3 := Lib.hid (show w3.heap[q]? = some (.cells #[.int .i64 T, .slice sa sn sc, .slice da N dc] 33 (0, 0)) from (hBt.block q (by have := hz.size; omega) (by omega)).trans (heap_ext HB1.out hz))
    have HQ3 := Lib.hid (show w3.heap[qa]? = some (.cells #[.pointer pa] 77 (0, 0)) by rw [← hw3]; exact heap_setCell hqa3 0 _)
    have HAH := Lib.hid (show AheadAt w3 qa ((Reg.look R TM).map (·.c)) from by
      have hq0 : w3.cell? ⟨qa, 0, none⟩ = some (.pointer pa) := by rw [cell_of_heap HQ3.out 0]; rfl
      by_cases hin : Reg.first R ≤ TM ∧ TM ≤ Reg.current R
      · obtain ⟨i, hi, hw, hlk, _⟩ := HH.out.ok.look_some hin.1 hin.2
        have h1 := HPA.out.1
        unfold atPtr14 at h1
        rw [hw] at h1
        rw [hlk]
        obtain ⟨_, _, _, a2, c2, _, _, _, _, k2, _⟩ := HH.out.row14 HP0.out i hi
        exact ⟨g, i * 5, a2, c2, by rw [hq0, ← h1]; rfl, cellExt HE3.out k2⟩
      · obtain ⟨hw, hlk⟩ := Reg.look_none hin
        have h1 := HPA.out.1
        unfold atPtr14 at h1
        rw [hw] at h1
        rw [hlk]
        show w3.cell? ⟨qa, 0, none⟩ = some (.pointer none)
        rw [hq0, ← h1]
        rfl)
    have HQA := Lib.hid (And.intro hqa2 hwq)
    have c0 := cell_of_heap HB3.out 0
    have c1 := cell_of_heap HB3.out 1
    have c2 := cell_of_heap HB3.out 2
    simp only [List.getElem?_toArray, List.getElem?_cons_zero, List.getElem?_cons_succ] at c0 c1 c2
    have hend : ∀ (w' : World) (code : Int), Ext w3 w' → Reg.Inst R c l code R → GivesInst14 B p R c l w (.returned (.int .i64 code)) w' := fun w' code hE hi => ⟨code, R, rfl, hi, HH.out.ext (HE3.out.trans hE), (HE3.out.trans hE).mono hB, Keeps14.ext (HE3.out.trans hE)⟩
    have HEND := Lib.hid hend
    clear hz hqa3 hqc hqf hw3 hBt hend hqa2 hwq
    go_wp2_with fail
    refine (right6_any _ c w3 (HV.out.below HE3.out)).mono ?_
    rintro e w4 ⟨rfl, hE4⟩
    have HE4 := Lib.hid hE4
    clear hE4 c0 c1 c2
    cases hr : Term.right c with
    | false =>
      have HB' := Lib.hid (Reg.Inst.bad (R := R) (c := c) (l := l) (fun hg => by have h1 := hg.1; rw [hr] at h1; cases h1))
      clear hr
      go_wp2_with fail
      go_ret
      exact HEND.out _ 1 HE4.out HB'.out
    | true =>
      have HR := Lib.hid hr
      clear hr
      have hTr := (Term.right_ok HR.out).1
      rw [HN.out.2.2] at hTr
      have hTM1 : TM = T - 1 := by rw [← HTM.out]; exact IntWalk.i64_in _ (by omega)
      go_wp2_with fail
      refine (chain5_any _ l w4 (HT.out.below (HE3.out.trans HE4.out))).mono ?_
      rintro e w5 ⟨rfl, hE5⟩
      have HE5 := Lib.hid (HE4.out.trans hE5)
      clear hE5
      obtain ⟨ch, hch⟩ : ∃ z, Ent.chain l = z := ⟨_, rfl⟩
      rw [hch]
      have HCH := Lib.hid hch
      clear hch
      by_cases hchm : ch = m
      case neg =>
        have HB' := Lib.hid (Reg.Inst.bad (R := R) (c := c) (l := l) (fun hg => hchm (by rw [← HCH.out, ← HN.out.2.1]; exact hg.2.1)))
        have hne : ¬ ((ch : Int) = (m : Int)) := by omega
        clear hTM1
        go_wp2_with fail
        go_ret
        exact HEND.out _ 1 HE5.out HB'.out
      case pos =>
        subst hchm
        have hTM2 := Lib.hid hTM1
        clear hTM1
        go_wp2_with fail
        refine (anyMisfit14_any _ l _ qa w5 (HT.out.below (HE3.out.trans HE5.out)) (HAH.out.ext HE5.out)).mono ?_
        rintro e w6 ⟨rfl, hE6⟩
        have HE6 := Lib.hid (HE5.out.trans hE6)
        clear hE6
        obtain ⟨mf, hmf⟩ : ∃ z, Reg.anyMisfit ((Reg.look R TM).map (·.c)) l = z := ⟨_, rfl⟩
        rw [hmf]
        have HMF := Lib.hid hmf
        clear hmf
        cases mf with
        | true =>
          have HB' := Lib.hid (Reg.Inst.bad (R := R) (c := c) (l := l) (fun hg => by
            have h1 := HMF.out
            unfold Reg.anyMisfit at h1
            rw [List.any_eq_true] at h1
            obtain ⟨e, he, h2⟩ := h1
            cases ha : Reg.look R TM with
            | none => rw [ha] at h2; cases h2
            | some a =>
              rw [ha] at h2
              have h3 := hg.2.2 a (by rw [HN.out.2.2, ← hTM2.out]; exact ha) e he
              have h4 : Reg.misfit a.c e = true := h2
              rw [h3] at h4
              cases h4))
          go_wp2_with fail
          go_ret
          exact HEND.out _ 1 HE6.out HB'.out
        | false =>
          have HG := Lib.hid (show Reg.good R c l from ⟨HR.out, by rw [HCH.out, HN.out.2.1], fun a ha e he => by
            rw [HN.out.2.2, ← hTM2.out] at ha
            have h1 := HMF.out
            unfold Reg.anyMisfit at h1
            rw [List.any_eq_false] at h1
            have h2 := h1 e he
            rw [ha] at h2
            cases hx : Reg.misfit a.c e with
            | false => rfl
            | true => exact absurd (show Reg.misfitO (some a.c) e = true from hx) h2⟩)
          have HE36 := Lib.hid (HE3.out.trans HE6.out)
          have HB6 := Lib.hid (heap_ext HB3.out HE6.out)
          have HQ6 := Lib.hid (heap_ext HQ3.out HE6.out)
          go_wp2_with fail
          by_cases hhin : Reg.first R ≤ T ∧ T ≤ Reg.current R
          case neg =>
            obtain ⟨hw, hlk⟩ := Reg.look_none hhin
            have hph : ph = none := by
              have h1 := HPA.out.2
              unfold atPtr14 at h1
              rw [hw] at h1
              rw [← h1]
              rfl
            subst hph
            have HLK := Lib.hid (show Reg.look R c.term = none by rw [HN.out.2.2]; exact hlk)
            clear hw hlk
            refine wp_region_facts (by kernel_rfl) Ext (fun iop v w => match iop with
                | 0 => v = .pointer none
                | 1 => v = .bool false
                | 2 => v = .bool false
                | 3 => v = undef
                | 4 => v = undef
                | 5 => v = .bool false
                | 6 => v = .bool false
                | 7 => v = undef
                | 8 => v = undef
                | 9 => v = undef
                | 10 => v = undef
                | 11 => v = undef
                | 12 => v = undef
                | 13 => v = .bool false
                | 14 => v = .bool false
                | 15 => v = undef
                | 16 => v = undef
                | 17 => v = undef
                | 18 => v = undef
                | 19 => v = undef
                | 20 => v = undef
                | 21 => v = .bool false
                | _ => v = .bool false
                ) (by kernel_rfl) (fun _ _ _ h k => Ext.trans h k) (fun a => Ext.refl a) (Ext.drew _) ?_ ?_ ?_
            · intro iop v wa wb hF hL
              iterate 22 (rcases iop with _ | iop; exact hF)
              exact hF
            · refine Obls.cons ?_ (Obls.cons ?_ (Obls.cons ?_ (Obls.cons ?_ (Obls.cons ?_ (Obls.cons ?_ (Obls.cons ?_ (Obls.cons ?_ (Obls.cons ?_ (Obls.cons ?_ (Obls.cons ?_ (Obls.cons ?_ (Obls.cons ?_ (Obls.cons ?_ (Obls.cons ?_ (Obls.cons ?_ (Obls.cons ?_ (Obls.cons ?_ (Obls.cons ?_ (Obls.cons ?_ (Obls.cons ?_ (Obls.cons ?_ (Obls.cons ?_ (Obls.nil)))))))))))))))))))))))
              · intro ev wy hp hl hk hd
                have e8 : ev _ = .pointer none := hk 8 (by decide)
                exact Yield.mv rfl ⟨Ext.refl _, e8⟩
              · intro ev wy hp hl hk hd
                have e37 : ev _ = _ := hk 37 (by decide)
                exact Yield.op (v := .bool false) (w' := wy) (by simp [execOp, go_sem, e37, hp.const]) ⟨Ext.refl _, rfl⟩
              · intro ev wy hp hl hk hd
                have e38 : ev _ = _ := hk 38 (by decide)
                exact Yield.mv rfl ⟨Ext.refl _, e38⟩
              · intro ev wy hp hl hk hd
                have e7 : ev _ = .pointer (some ⟨qa, 0, none⟩) := hk 7 (by decide)
                exact ⟨fun x hx he => (by rw [show x = .bool false from hx] at he; cases he), fun _ _ _ => rfl⟩
              · intro ev wy hp hl hk hd
                have e40 : ev _ = _ := hk 40 (by decide)
                exact ⟨fun x hx he => (by rw [show x = .bool false from hx] at he; cases he), fun _ _ _ => rfl⟩
              · intro ev wy hp hl hk hd
                have e39 : ev _ = _ := hk 39 (by decide)
                have e41 : ev _ = _ := hk 41 (by decide)
                exact Yield.pick (t := false) rfl e39 ⟨Ext.refl _, hp.const _⟩
              · intro ev wy hp hl hk hd
                have e42 : ev _ = _ := hk 42 (by decide)
                exact Yield.mv rfl ⟨Ext.refl _, e42⟩
              · intro ev wy hp hl hk hd
                have e4 : ev _ = .pointer (some ⟨q, 0, none⟩) := hk 4 (by decide)
                exact ⟨fun x hx he => (by rw [show x = .bool false from hx] at he; cases he), fun _ _ _ => rfl⟩
              · intro ev wy hp hl hk hd
                have e8 : ev _ = .pointer none := hk 8 (by decide)
                exact ⟨fun x hx he => (by rw [show x = .bool false from hx] at he; cases he), fun _ _ _ => rfl⟩
              · intro ev wy hp hl hk hd
                have e45 : ev _ = _ := hk 45 (by decide)
                exact ⟨fun x hx he => (by rw [show x = .bool false from hx] at he; cases he), fun _ _ _ => rfl⟩
              · intro ev wy hp hl hk hd
                have e46 : ev _ = _ := hk 46 (by decide)
                exact ⟨fun x hx he => (by rw [show x = .bool false from hx] at he; cases he), fun _ _ _ => rfl⟩
              · intro ev wy hp hl hk hd
                have e47 : ev _ = _ := hk 47 (by decide)
                exact ⟨fun x hx he => (by rw [show x = .bool false from hx] at he; cases he), fun _ _ _ => rfl⟩
              · intro ev wy hp hl hk hd
                have e44 : ev _ = _ := hk 44 (by decide)
                have e48 : ev _ = _ := hk 48 (by decide)
                exact ⟨fun x hx he => (by rw [show x = .bool false from hx] at he; cases he), fun _ _ _ => rfl⟩
              · intro ev wy hp hl hk hd
                have e43 : ev _ = _ := hk 43 (by decide)
                have e49 : ev _ = _ := hk 49 (by decide)
                exact Yield.pick (t := false) rfl e43 ⟨Ext.refl _, hp.const _⟩
              · intro ev wy hp hl hk hd
                have e50 : ev _ = _ := hk 50 (by decide)
                exact Yield.mv rfl ⟨Ext.refl _, e50⟩
              · intro ev wy hp hl hk hd
                have e2 : ev _ = .slice ta ch tc := hk 2 (by decide)
                exact ⟨fun x hx he => (by rw [show x = .bool false from hx] at he; cases he), fun _ _ _ => rfl⟩
              · intro ev wy hp hl hk hd
                have e7 : ev _ = .pointer (some ⟨qa, 0, none⟩) := hk 7 (by decide)
                exact ⟨fun x hx he => (by rw [show x = .bool false from hx] at he; cases he), fun _ _ _ => rfl⟩
              · intro ev wy hp hl hk hd
                have e53 : ev _ = _ := hk 53 (by decide)
                exact ⟨fun x hx he => (by rw [show x = .bool false from hx] at he; cases he), fun _ _ _ => rfl⟩
              · intro ev wy hp hl hk hd
                have e54 : ev _ = _ := hk 54 (by decide)
                exact ⟨fun x hx he => (by rw [show x = .bool false from hx] at he; cases he), fun _ _ _ => rfl⟩
              · intro ev wy hp hl hk hd
                have e55 : ev _ = _ := hk 55 (by decide)
                exact ⟨fun x hx he => (by rw [show x = .bool false from hx] at he; cases he), fun _ _ _ => rfl⟩
              · intro ev wy hp hl hk hd
                have e52 : ev _ = _ := hk 52 (by decide)
                have e56 : ev _ = _ := hk 56 (by decide)
                exact ⟨fun x hx he => (by rw [show x = .bool false from hx] at he; cases he), fun _ _ _ => rfl⟩
              · intro ev wy hp hl hk hd
                have e51 : ev _ = _ := hk 51 (by decide)
                have e57 : ev _ = _ := hk 57 (by decide)
                exact Yield.pick (t := false) rfl e51 ⟨Ext.refl _, hp.const _⟩
              · intro ev wy hp hl hk hd
                have e58 : ev _ = _ := hk 58 (by decide)
                exact Yield.as rfl ⟨Ext.refl _, e58⟩
            · intro vals wz hz hv
              have g37 : vals 0 = _ := hv 0 (by decide)
              have g38 : vals 1 = _ := hv 1 (by decide)
              have g39 : vals 2 = _ := hv 2 (by decide)
              have g40 : vals 3 = _ := hv 3 (by decide)
              have g41 : vals 4 = _ := hv 4 (by decide)
              have g42 : vals 5 = _ := hv 5 (by decide)
              have g43 : vals 6 = _ := hv 6 (by decide)
              have g44 : vals 7 = _ := hv 7 (by decide)
              have g45 : vals 8 = _ := hv 8 (by decide)
              have g46 : vals 9 = _ := hv 9 (by decide)
              have g47 : vals 10 = _ := hv 10 (by decide)
              have g48 : vals 11 = _ := hv 11 (by decide)
              have g49 : vals 12 = _ := hv 12 (by decide)
              have g50 : vals 13 = _ := hv 13 (by decide)
              have g51 : vals 14 = _ := hv 14 (by decide)
              have g52 : vals 15 = _ := hv 15 (by decide)
              have g53 : vals 16 = _ := hv 16 (by decide)
              have g54 : vals 17 = _ := hv 17 (by decide)
              have g55 : vals 18 = _ := hv 18 (by decide)
              have g56 : vals 19 = _ := hv 19 (by decide)
              have g57 : vals 20 = _ := hv 20 (by decide)
              have g58 : vals 21 = _ := hv 21 (by decide)
              have g36 : vals 22 = _ := hv 22 (by decide)
              clear hv
              simp only [putAll, Act.put, List.setIfInBounds_toArray, List.set_cons_zero, List.set_cons_succ, g37, g38, g39, g40, g41, g42, g43, g44, g45, g46, g47, g48, g49, g50, g51, g52, g53, g54, g55, g56, g57, g58, g36]
              clear g37 g38 g39 g40 g41 g42 g43 g44 g45 g46 g47 g48 g49 g50 g51 g52 g53 g54 g55 g56 g57 g58 g36
              obtain ⟨w8, hw8⟩ : ∃ z, z = wz := ⟨_, rfl⟩
              subst hw8
              have HZ6 := Lib.hid hz
              have HZ := Lib.hid (HE6.out.trans hz)
              have hqz := heap_ext HQ6.out hz
              have hq0 := cell_of_heap hqz 0
              simp only [List.getElem?_toArray, List.getElem?_cons_zero] at hq0
              have HQZ := Lib.hid hqz
              clear hz hqz
              by_cases hain : Reg.first R ≤ TM ∧ TM ≤ Reg.current R
              case neg =>
                obtain ⟨hw, hlk⟩ := Reg.look_none hain
                have hpa : pa = none := by
                  have h1 := HPA.out.1
                  unfold atPtr14 at h1
                  rw [hw] at h1
                  rw [← h1]
                  rfl
                subst hpa
                have HIN := Lib.hid (Reg.Inst.none (R := R) (c := c) (l := l) HG.out HLK.out (by rw [HN.out.2.2, ← hTM2.out]; exact hlk))
                clear hw hlk
                go_wp2_with fail
                go_ret
                exact HEND.out _ 141 HZ.out HIN.out
              case pos =>
                obtain ⟨i, hi, hw, hlk, hit⟩ := HH.out.ok.look_some hain.1 hain.2
                have hpa : pa = some ⟨g, i * 5, none⟩ := by
                  have h1 := HPA.out.1
                  unfold atPtr14 at h1
                  rw [hw] at h1
                  rw [← h1]
                  rfl
                subst hpa
                have hLA : Reg.look R (c.term - 1) = some R[i] := by rw [HN.out.2.2, ← hTM2.out]; exact hlk
                obtain ⟨hct, pre, hRp, hwh⟩ := Reg.next_at HH.out.ok hLA HLK.out
                have hin : i = n := by
                  rw [HN.out.2.2, ← hTM2.out, hw] at hwh
                  injection hwh with hwh
                  have := HRN.out
                  omega
                subst hin
                obtain ⟨a, ha⟩ : ∃ z, R[i] = z := ⟨_, rfl⟩
                rw [ha] at hLA hRp
                have hIz := HH.out.ext (HE3.out.trans HZ.out)
                obtain ⟨g2, cp2, L, o1, o2, o3, o4, ol, oat, oR, ocell⟩ := hIz.open
                rw [heap_ext HP0.out (HE3.out.trans HZ.out)] at o1
                injection o1 with o1
                injection o1 with o1 _ _
                simp only [Array.mk.injEq, List.cons.injEq, Value.slice.injEq, Option.some.injEq, Addr.mk.injEq] at o1
                obtain ⟨⟨⟨eg, _⟩, en, ec⟩, _⟩ := o1
                subst eg ec
                rw [HRN.out] at o2 o4 ol
                have hiL : i < L.length := by omega
                have hxa : L[i].x = a := by
                  rw [← ha]
                  subst oR
                  simp
                obtain ⟨k0, k1, k2, k3, k4⟩ := ocell i hiL
                obtain ⟨r1, r2, r3⟩ := oat _ (List.getElem_mem hiL)
                rw [hxa] at k0 k4 r1 r2 r3
                obtain ⟨s1, s2, s3, es⟩ := ownSlice r1
                obtain ⟨y1, y2, y3, ey⟩ := r2.slice
                rw [es] at k1 r1
                rw [ey] at k2 r2
                have HPZ := Lib.hid (heap_ext HP0.out (HE3.out.trans HZ.out))
                have HOL := Lib.hid (And.intro o4 (And.intro ol (And.intro oat (And.intro oR (And.intro hxa (And.intro es ey))))))
                have HK0 := Lib.hid (And.intro k0 (And.intro k1 (And.intro k2 k4)))
                have HRR := Lib.hid (And.intro hct (And.intro hRp (And.intro ha hi)))
                have hrt := HH.out.ok.right a (by rw [hRp]; simp)
                have hsb := HH.out.ok.start_bound i hi
                rw [ha] at hsb
                have hln := HH.out.ok.len
                have HRA := Lib.hid (And.intro hrt (And.intro r1 r2))
                have hBz : B ≤ w8.heap.size := Nat.le_trans hB (HE3.out.trans HZ.out).size
                have HOT := Lib.hid (fun (wy : World) (hy : Ext w8 wy) => ownTail14_any (.slice ta ch tc) l wy (HT.out.below ((HE3.out.trans HZ.out).trans hy)) hl (Reg.cut_small (by rw [HCH.out, HN.out.2.1])))
                have HBZ := Lib.hid (heap_ext HB6.out HZ6.out)
                have HLA0 := Lib.hid hLA
                clear hw hlk hit hwh hIz o2 o3 o4 ol oat oR ocell k0 k1 k2 k3 k4 r1 r2 r3 hct hRp hLA hrt en
                go_wp2_with fail
                refine wp_region_tail (by kernel_rfl) 5 Ext (fun iop v w => match iop with
                    | 0 => v = .pointer (some ⟨g, i * 5, none⟩)
                    | 1 => v = .slice ta ch tc
                    | 2 => ∃ a9 n9 c9, v = .slice a9 n9 c9 ∧ OwnT w B (.slice a9 n9 c9) l
                    | 3 => v = .pointer (some ⟨g, i * 5, none⟩)
                    | _ => v = .pointer (some ⟨g, i * 5 + 3, none⟩)
                    ) (by kernel_rfl) (by kernel_rfl) (by decide) (fun _ _ _ h k => Ext.trans h k) (fun a => Ext.refl a) (Ext.drew _) ?_ ?_ ?_
                · intro iop v wa wb hF hL
                  iterate 2 (rcases iop with _ | iop; exact hF)
                  rcases iop with _ | iop; (first | exact hF | (obtain ⟨a9, n9, c9, h1, h2⟩ := hF; exact ⟨a9, n9, c9, h1, h2.keeps (Keeps14.ext hL)⟩))
                  rcases iop with _ | iop; exact hF
                  exact hF
                · refine Obls.cons ?_ (Obls.cons ?_ (Obls.cons ?_ (Obls.cons ?_ (Obls.cons ?_ (Obls.nil)))))
                  · intro ev wy hp hl hk hd
                    have e7 : ev _ = .pointer (some ⟨qa, 0, none⟩) := hk 7 (by decide)
                    exact Yield.op (v := .pointer (some ⟨g, i * 5, none⟩)) (w' := wy) (by simp [execOp, go_sem, e7, cell_of_heap (heap_ext HQZ.out hl) 0]) ⟨Ext.refl _, rfl⟩
                  · intro ev wy hp hl hk hd
                    have e2 : ev _ = .slice ta ch tc := hk 2 (by decide)
                    exact Yield.mv rfl ⟨Ext.refl _, e2⟩
                  · intro ev wy hp hl hk hd
                    have e66 : ev _ = _ := hk 66 (by decide)
                    refine Yield.call rfl hp Try.func35 rfl (by kernel_rfl) ?_
                    simp only [List.map_toArray, List.map_cons, List.map_nil, e66]
                    exact (HOT.out wy hl).mono fun e w' ⟨u, he, ht, hE⟩ => by
                      obtain ⟨a9, n9, c9, rfl⟩ := ht.shape
                      exact ⟨_, he, hE, a9, n9, c9, rfl, ht.lower (Nat.le_trans hBz hl.size)⟩
                  · intro ev wy hp hl hk hd
                    have e65 : ev _ = _ := hk 65 (by decide)
                    exact Yield.oq (by simp [execOp, go_sem, e65])
                  · intro ev wy hp hl hk hd
                    have e68 : ev _ = _ := hk 68 (by decide)
                    exact Yield.oq (by simp [execOp, go_sem, e68])
                · intro vals wz hz hv
                  have g65 : vals 0 = _ := hv 0 (by decide)
                  have g66 : vals 1 = _ := hv 1 (by decide)
                  have g67 : (fun (v : Value) (w : World) => ∃ a9 n9 c9, v = .slice a9 n9 c9 ∧ OwnT w B (.slice a9 n9 c9) l) (vals 2) wz := hv 2 (by decide)
                  have g68 : vals 3 = _ := hv 3 (by decide)
                  have g69 : vals 4 = _ := hv 4 (by decide)
                  clear hv
                  simp only [List.take_succ_cons, List.take_zero, List.drop_succ_cons, List.drop_zero]
                  simp only [putAll, Act.put, List.setIfInBounds_toArray, List.set_cons_zero, List.set_cons_succ, g65, g66, g68, g69]
                  clear g65 g66 g68 g69
                  generalize vals 2 = v67 at *
                  obtain ⟨w9, hw9⟩ : ∃ z, z = wz := ⟨_, rfl⟩
                  subst hw9
                  obtain ⟨a9, n9, c9, rfl, ho9⟩ := g67
                  have HT9 := Lib.hid ho9
                  have hrow9 := rowExt HOL.out.1 hz
                  have hiL : i < L.length := by rw [HOL.out.2.1]; omega
                  have hfz := hrow9.frozenAt (i * 5 + 3)
                  have hcz : w9.cell? ⟨g, i * 5 + 3, none⟩ = some L[i].tl := by
                    rw [hrow9.cellAt (i * 5 + 3) (by omega), flat14_at L i 3 hiL (by omega)]
                    rfl
                  obtain ⟨otl, hotl⟩ : ∃ z, L[i].tl = z := ⟨_, rfl⟩
                  rw [hotl] at hcz
                  obtain ⟨oa, on, oc, rfl⟩ : ∃ a n c, otl = .slice a n c := by
                    rw [← hotl]
                    exact (HOL.out.2.2.1 _ (List.getElem_mem hiL)).tail.shape
                  have HZ9 := Lib.hid hz
                  have HR9 := Lib.hid hrow9
                  clear ho9 hrow9 hz hotl
                  go_upto_region 12 with fail
                  obtain ⟨w10, hw10⟩ : ∃ z, w9.setCell ⟨g, i * 5 + 3, none⟩ (.slice a9 n9 c9) = z := ⟨_, rfl⟩
                  rw [hw10]
                  have hBt : But g w9 w10 := by rw [← hw10]; exact butSet _ _ _ _
                  obtain ⟨gcur, hgcur⟩ := ownAt HR9.out (k := g) rfl
                  have hk10 : Keeps14 w9 w10 := Keeps14.but hBt hgcur (.inl rfl)
                  have hpg : p ≠ g := by
                    rintro rfl
                    have h1 := heap_ext HPZ.out HZ9.out
                    rw [hgcur] at h1
                    injection h1 with h1
                    injection h1 with _ h1 _
                    exact absurd h1 (by decide)
                  have hqg : q ≠ g := by
                    rintro rfl
                    have h1 := heap_ext HBZ.out HZ9.out
                    rw [hgcur] at h1
                    injection h1 with h1
                    injection h1 with _ h1 _
                    exact absurd h1 (by decide)
                  have hqag : qa ≠ g := by
                    rintro rfl
                    have h1 := heap_ext HQZ.out HZ9.out
                    rw [hgcur] at h1
                    injection h1 with h1
                    injection h1 with _ h1 _
                    exact absurd h1 (by decide)
                  have HP10 := Lib.hid ((hBt.block p (Array.getElem?_eq_some_iff.1 (heap_ext HPZ.out HZ9.out)).1 hpg).trans (heap_ext HPZ.out HZ9.out))
                  have HB10 := Lib.hid ((hBt.block q (Array.getElem?_eq_some_iff.1 (heap_ext HBZ.out HZ9.out)).1 hqg).trans (heap_ext HBZ.out HZ9.out))
                  have HQ10 := Lib.hid ((hBt.block qa (Array.getElem?_eq_some_iff.1 (heap_ext HQZ.out HZ9.out)).1 hqag).trans (heap_ext HQZ.out HZ9.out))
                  have hr10 : w10.ownsRow B 68 5 (.slice (some ⟨g, 0, none⟩) (i + 1) gc) (i + 1) (flat14 (L.set i ⟨L[i].s, L[i].d, .slice a9 n9 c9, ⟨L[i].x.c, l, L[i].x.start⟩⟩)) := by
                    rw [flat14_set L i _ l hiL, ← hw10]
                    exact (HR9.out.stored (i * 5 + 3) _).1
                  obtain ⟨L2, hL2⟩ : ∃ z, L.set i ⟨L[i].s, L[i].d, .slice a9 n9 c9, ⟨L[i].x.c, l, L[i].x.start⟩⟩ = z := ⟨_, rfl⟩
                  rw [hL2] at hr10
                  have hgB : B ≤ g := (HR9.out.lt g rfl).1
                  have hBW10 : Below B w w10 := by
                    have h1 : Below B w w9 := ((HE3.out.trans HZ.out).trans HZ9.out).mono hB
                    rw [← hw10]
                    exact h1.setCell hgB _
                  have HK10 := Lib.hid (And.intro ((Keeps14.ext ((HE3.out.trans HZ.out).trans HZ9.out)).trans hk10) hBW10)
                  have hiL2 : i < L2.length := by rw [← hL2, List.length_set]; exact hiL
                  have hi2 : L2[i] = ⟨L[i].s, L[i].d, .slice a9 n9 c9, ⟨L[i].x.c, l, L[i].x.start⟩⟩ := by
                    subst hL2
                    simp
                  have hat10 : ∀ r ∈ L2, Row14.At w10 B r := fun r hr => by
                    rw [← hL2] at hr
                    rcases List.mem_or_eq_of_mem_set hr with hr | rfl
                    · exact (HOL.out.2.2.1 r hr).keeps ((Keeps14.ext HZ9.out).trans hk10)
                    · have h1 := (HOL.out.2.2.1 _ (List.getElem_mem hiL)).keeps ((Keeps14.ext HZ9.out).trans hk10)
                      exact ⟨h1.seqs, h1.shards, HT9.out.keeps hk10⟩
                  have hcell10 : ∀ j, j < 5 → w10.cell? ⟨g, i * 5 + j, none⟩ = (L2[i].cells)[j]? := fun j hj => by
                    rw [hr10.cellAt (i * 5 + j) (by omega), flat14_at L2 i j hiL2 hj]
                  rw [hi2] at hcell10
                  have m0 := hcell10 0 (by omega)
                  have m1 := hcell10 1 (by omega)
                  have m2 := hcell10 2 (by omega)
                  have m3 := hcell10 3 (by omega)
                  have m4 := hcell10 4 (by omega)
                  simp only [Row14.cells, HOL.out.2.2.2.2.1, HOL.out.2.2.2.2.2.1, HOL.out.2.2.2.2.2.2, List.getElem?_cons_zero, List.getElem?_cons_succ, Nat.add_zero] at m0 m1 m2 m3 m4
                  have HM := Lib.hid (And.intro m0 (And.intro m1 (And.intro m2 (And.intro m3 m4))))
                  have hmap2 : L2.map (·.x) = pre ++ [⟨a.c, l, a.start⟩] := by
                    have hil : i = pre.length := by
                      have h1 := congrArg List.length HRR.out.2.1
                      simp only [List.length_append, List.length_cons, List.length_nil] at h1
                      have := HRN.out
                      omega
                    rw [← hL2, List.map_set, HOL.out.2.2.2.1, HRR.out.2.1]
                    simp only [HOL.out.2.2.2.2.1]
                    have key : ∀ (k : Nat) (v : Reg.Row), k = pre.length → (pre ++ [a]).set k v = pre ++ [v] := by
                      rintro k v rfl
                      simp
                    exact key i _ hil
                  have hlen2 : L2.length = i + 1 := by rw [← hL2, List.length_set]; exact HOL.out.2.1
                  have HR10 := Lib.hid (And.intro hr10 (And.intro hat10 (And.intro hmap2 hlen2)))
                  have hrow := hat10 _ (List.getElem_mem hiL2)
                  rw [hi2] at hrow
                  obtain ⟨q1, q2, q3⟩ := hrow
                  simp only [HOL.out.2.2.2.2.1, HOL.out.2.2.2.2.2.1, HOL.out.2.2.2.2.2.2] at q1 q2 q3
                  have hok := HH.out.ok
                  rw [HRR.out.2.1] at hok
                  have hm0 := Reg.many_bound a.c l HRA.out.1
                  have hls := Reg.lastOf_right a.c l HRA.out.1
                  have HREC := Lib.hid (fun (wy : World) (hy : Ext w10 wy) => records14_any (.slice s1 s2 s3) (.slice y1 y2 y3) (.slice a9 n9 c9) a.c l a.start wy ⟨_, _, _, rfl⟩ (q2.rows.below hy) (q3.ents.below hy) hls)
                  have hB10 : B ≤ w10.heap.size := Nat.le_trans hB HK10.out.1.size
                  have HOC := Lib.hid (fun (wy : World) (hy : Ext w10 wy) => ownConf14_any (.agg #[.int .i64 T, .slice sa sn sc, .slice da N dc]) c wy (HVK.out wy (HK10.out.2.trans (hy.mono hB10)) (HK10.out.1.trans (Keeps14.ext hy))) HR.out)
                  have HNX := Lib.hid (hok.next (by rw [← HRR.out.2.1]; exact HG.out) (by rw [← HRR.out.2.1]; exact HRR.out.1))
                  obtain ⟨TA, hTA⟩ : ∃ z, a.c.term = z := ⟨_, rfl⟩
                  obtain ⟨ST, hST⟩ : ∃ z, a.start = z := ⟨_, rfl⟩
                  obtain ⟨MY, hMY⟩ : ∃ z, Reg.many a.c l = z := ⟨_, rfl⟩
                  rw [hTA, hST] at HM
                  rw [hTA, hST, hMY] at HREC
                  rw [hST] at hsb
                  rw [hMY] at hm0
                  have HNAM := Lib.hid (And.intro hST hMY)
                  have HWS := Lib.hid (show IntKind.i64.wrap (ST + MY) = ST + MY from IntWalk.i64_in _ (by omega))
                  have HPG := Lib.hid hpg
                  have hlen64 : i + 1 ≤ 64 := by
                    have h1 := HRR.out.1
                    have h2 := (rightSmall HR.out).2.2.2.2
                    have h3 := HRN.out
                    have h4 : 1 ≤ Reg.first R := by
                      have h5 := HH.out.ok.term 0 HH.out.ok.ne
                      have h6 := (rightSmall (HH.out.ok.right _ (List.getElem_mem HH.out.ok.ne))).2.2.2.1
                      omega
                    omega
                  have HLEN := Lib.hid hlen64
                  clear hlen64 hmap2 hlen2 q1 q2 q3 hok hls hTA hST hMY m0 m1 m2 m3 m4 hr10 hat10 hL2 hiL2 hi2 hcell10 hpg hqg hqag hgcur hk10 hBt hBW10 hfz hcz hw10
                  refine wp_region_then_tail (by kernel_rfl) 18 [0] Ext Ext (fun iop v w => match iop with
                      | 0 => v = .pointer (some ⟨p, 0, none⟩)
                      | 1 => v = .pointer (some ⟨p, 0, none⟩)
                      | 2 => v = .pointer (some ⟨p, 0, none⟩)
                      | 3 => v = .pointer (some ⟨p, 0, none⟩)
                      | 4 => v = .slice (some ⟨g, 0, none⟩) (i + 1) gc
                      | 5 => v = .agg #[.int .i64 T, .slice sa sn sc, .slice da N dc]
                      | 6 => ∃ b1 b2 b3 d1 d2 d3, v = .agg #[.int .i64 T, .slice b1 b2 b3, .slice d1 d2 d3] ∧ OwnI w B (.slice b1 b2 b3) c.seqs ∧ OwnRR w B (.slice d1 d2 d3) c.shards
                      | 7 => v = .pointer (some ⟨g, i * 5, none⟩)
                      | 8 => v = .pointer (some ⟨g, i * 5, none⟩)
                      | 9 => v = .pointer (some ⟨g, i * 5 + 4, none⟩)
                      | 10 => v = .int .i64 ST
                      | 11 => v = .pointer (some ⟨g, i * 5, none⟩)
                      | 12 => v = .pointer (some ⟨g, i * 5, none⟩)
                      | 13 => v = .agg #[.int .i64 TA, .slice s1 s2 s3, .slice y1 y2 y3, .slice a9 n9 c9, .int .i64 ST]
                      | 14 => v = .int .i64 MY
                      | 15 => v = .int .i64 (ST + MY)
                      | 16 => ∃ b1 b2 b3 d1 d2 d3, v = .agg #[.int .i64 T, .slice b1 b2 b3, .slice d1 d2 d3, .slice none 0 0, .int .i64 (ST + MY)] ∧ OwnI w B (.slice b1 b2 b3) c.seqs ∧ OwnRR w B (.slice d1 d2 d3) c.shards
                      | _ => ∃ x b1 b2 b3 d1 d2 d3, v = .slice (some ⟨x, 0, none⟩) 1 1 ∧ SlN 5 w (.slice (some ⟨x, 0, none⟩) 1 1) 1 (flat14 [⟨.slice b1 b2 b3, .slice d1 d2 d3, .slice none 0 0, ⟨c, [], ST + MY⟩⟩]) ∧ OwnI w B (.slice b1 b2 b3) c.seqs ∧ OwnRR w B (.slice d1 d2 d3) c.shards
                      ) (fun iop v w => match iop with
                      | 0 => v = .pointer (some ⟨p, 0, none⟩)
                      | 1 => v = .pointer (some ⟨p, 0, none⟩)
                      | 2 => v = .pointer (some ⟨p, 0, none⟩)
                      | 3 => v = .pointer (some ⟨p, 0, none⟩)
                      | 4 => v = .slice (some ⟨g, 0, none⟩) (i + 1) gc
                      | 5 => v = .agg #[.int .i64 T, .slice sa sn sc, .slice da N dc]
                      | 6 => True
                      | 7 => v = .pointer (some ⟨g, i * 5, none⟩)
                      | 8 => v = .pointer (some ⟨g, i * 5, none⟩)
                      | 9 => v = .pointer (some ⟨g, i * 5 + 4, none⟩)
                      | 10 => v = .int .i64 ST
                      | 11 => v = .pointer (some ⟨g, i * 5, none⟩)
                      | 12 => v = .pointer (some ⟨g, i * 5, none⟩)
                      | 13 => v = .agg #[.int .i64 TA, .slice s1 s2 s3, .slice y1 y2 y3, .slice a9 n9 c9, .int .i64 ST]
                      | 14 => v = .int .i64 MY
                      | 15 => v = .int .i64 (ST + MY)
                      | 16 => True
                      | 17 => True
                      | _ => ∃ b1 b2 b3 d1 d2 d3, w.ownsRow B 68 5 v (i + 1 + 1) (flat14 (L2 ++ [⟨.slice b1 b2 b3, .slice d1 d2 d3, .slice none 0 0, ⟨c, [], ST + MY⟩⟩])) ∧ OwnI w B (.slice b1 b2 b3) c.seqs ∧ OwnRR w B (.slice d1 d2 d3) c.shards
                      ) [] (fun _ _ => True) (fun w => Keeps14 w10 w ∧ Below B w10 w ∧ w.heap[p]? = w10.heap[p]?) (by kernel_rfl) (by kernel_rfl) (by kernel_rfl) (by decide) (by decide) (fun _ _ _ h k => Ext.trans h k) (fun a => Ext.refl a) (fun _ _ h => h) (fun _ _ _ _ _ => trivial) (Ext.drew _) trivial ?_ ?_ ?_ ?_ ?_ ?_
                  · intro iop v wa wb hF hL
                    iterate 6 (rcases iop with _ | iop; exact hF)
                    rcases iop with _ | iop; (first | exact hF | (obtain ⟨x, b1, b2, b3, d1, d2, d3, h1, h2, h3, h4⟩ := hF; exact ⟨x, b1, b2, b3, d1, d2, d3, h1, h2.below hL, h3.ext hL, h4.ext hL⟩) | (obtain ⟨b1, b2, b3, d1, d2, d3, h1, h2, h3⟩ := hF; exact ⟨b1, b2, b3, d1, d2, d3, h1, h2.ext hL, h3.ext hL⟩))
                    iterate 9 (rcases iop with _ | iop; exact hF)
                    rcases iop with _ | iop; (first | exact hF | (obtain ⟨x, b1, b2, b3, d1, d2, d3, h1, h2, h3, h4⟩ := hF; exact ⟨x, b1, b2, b3, d1, d2, d3, h1, h2.below hL, h3.ext hL, h4.ext hL⟩) | (obtain ⟨b1, b2, b3, d1, d2, d3, h1, h2, h3⟩ := hF; exact ⟨b1, b2, b3, d1, d2, d3, h1, h2.ext hL, h3.ext hL⟩))
                    (first | exact hF | (obtain ⟨x, b1, b2, b3, d1, d2, d3, h1, h2, h3, h4⟩ := hF; exact ⟨x, b1, b2, b3, d1, d2, d3, h1, h2.below hL, h3.ext hL, h4.ext hL⟩) | (obtain ⟨b1, b2, b3, d1, d2, d3, h1, h2, h3⟩ := hF; exact ⟨b1, b2, b3, d1, d2, d3, h1, h2.ext hL, h3.ext hL⟩))
                  · refine Obls2.cons ?_ (Obls2.cons ?_ (Obls2.cons ?_ (Obls2.cons ?_ (Obls2.cons ?_ (Obls2.cons ?_ (Obls2.cons ?_ (Obls2.cons ?_ (Obls2.cons ?_ (Obls2.cons ?_ (Obls2.cons ?_ (Obls2.cons ?_ (Obls2.cons ?_ (Obls2.cons ?_ (Obls2.cons ?_ (Obls2.cons ?_ (Obls2.cons ?_ (Obls2.cons ?_ (Obls2.nil))))))))))))))))))
                    · intro ev wy ls hp hl hS hbh hk hd
                      rw [if_neg (by decide)]
                      clear hS hbh
                      have e0 : ev _ = .pointer (some ⟨p, 0, none⟩) := hk 0 (by decide)
                      exact Yield.mv rfl ⟨Ext.refl _, e0⟩
                    · intro ev wy ls hp hl hS hbh hk hd
                      rw [if_neg (by decide)]
                      clear hS hbh
                      have e0 : ev _ = .pointer (some ⟨p, 0, none⟩) := hk 0 (by decide)
                      exact Yield.mv rfl ⟨Ext.refl _, e0⟩
                    · intro ev wy ls hp hl hS hbh hk hd
                      rw [if_neg (by decide)]
                      clear hS hbh
                      have e71 : ev _ = _ := hk 71 (by decide)
                      exact Yield.op (v := .pointer (some ⟨p, 0, none⟩)) (w' := wy) (by simp [execOp, go_sem, e71]) ⟨Ext.refl _, rfl⟩
                    · intro ev wy ls hp hl hS hbh hk hd
                      rw [if_neg (by decide)]
                      clear hS hbh
                      have e72 : ev _ = _ := hk 72 (by decide)
                      exact Yield.op (v := .pointer (some ⟨p, 0, none⟩)) (w' := wy) (by simp [execOp, go_sem, e72]) ⟨Ext.refl _, rfl⟩
                    · intro ev wy ls hp hl hS hbh hk hd
                      rw [if_neg (by decide)]
                      clear hS hbh
                      have e73 : ev _ = _ := hk 73 (by decide)
                      exact Yield.op (v := .slice (some ⟨g, 0, none⟩) (i + 1) gc) (w' := wy) (by simp [execOp, go_sem, e73, cell_of_heap (heap_ext HP10.out hl) 0]) ⟨Ext.refl _, rfl⟩
                    · intro ev wy ls hp hl hS hbh hk hd
                      rw [if_neg (by decide)]
                      clear hS hbh
                      have e4 : ev _ = .pointer (some ⟨q, 0, none⟩) := hk 4 (by decide)
                      exact Yield.op (v := .agg #[.int .i64 T, .slice sa sn sc, .slice da N dc]) (w' := wy) (by simp [execOp, go_sem, e4, cell_of_heap (heap_ext HB10.out hl) 0, cell_of_heap (heap_ext HB10.out hl) 1, cell_of_heap (heap_ext HB10.out hl) 2]) ⟨Ext.refl _, rfl⟩
                    · intro ev wy ls hp hl hS hbh hk hd
                      rw [if_neg (by decide)]
                      clear hS hbh
                      have e75 : ev _ = _ := hk 75 (by decide)
                      refine Yield.call rfl hp Try.func23 rfl (by kernel_rfl) ?_
                      simp only [List.map_toArray, List.map_cons, List.map_nil, e75]
                      exact (HOC.out wy hl).mono fun e w' ⟨s, d, he, hs, hd, hE⟩ => by
                        obtain ⟨b1, b2, b3, rfl⟩ := ownSlice hs
                        obtain ⟨d1, d2, d3, rfl⟩ := hd.slice
                        have hle : B ≤ wy.heap.size := Nat.le_trans hB10 hl.size
                        exact ⟨_, he, hE, b1, b2, b3, d1, d2, d3, by unfold confV; rw [HN.out.2.2], hs.lower hle, hd.lower hle⟩
                    · intro ev wy ls hp hl hS hbh hk hd
                      rw [if_neg (by decide)]
                      clear hS hbh
                      have e7 : ev _ = .pointer (some ⟨qa, 0, none⟩) := hk 7 (by decide)
                      exact Yield.op (v := .pointer (some ⟨g, i * 5, none⟩)) (w' := wy) (by simp [execOp, go_sem, e7, cell_of_heap (heap_ext HQ10.out hl) 0]) ⟨Ext.refl _, rfl⟩
                    · intro ev wy ls hp hl hS hbh hk hd
                      rw [if_neg (by decide)]
                      clear hS hbh
                      have e77 : ev _ = _ := hk 77 (by decide)
                      exact Yield.op (v := .pointer (some ⟨g, i * 5, none⟩)) (w' := wy) (by simp [execOp, go_sem, e77]) ⟨Ext.refl _, rfl⟩
                    · intro ev wy ls hp hl hS hbh hk hd
                      rw [if_neg (by decide)]
                      clear hS hbh
                      have e78 : ev _ = _ := hk 78 (by decide)
                      exact Yield.op (v := .pointer (some ⟨g, i * 5 + 4, none⟩)) (w' := wy) (by simp [execOp, go_sem, e78]) ⟨Ext.refl _, rfl⟩
                    · intro ev wy ls hp hl hS hbh hk hd
                      rw [if_neg (by decide)]
                      clear hS hbh
                      have e79 : ev _ = _ := hk 79 (by decide)
                      exact Yield.op (v := .int .i64 ST) (w' := wy) (by simp [execOp, go_sem, e79, cellExt hl HM.out.2.2.2.2]) ⟨Ext.refl _, rfl⟩
                    · intro ev wy ls hp hl hS hbh hk hd
                      rw [if_neg (by decide)]
                      clear hS hbh
                      have e7 : ev _ = .pointer (some ⟨qa, 0, none⟩) := hk 7 (by decide)
                      exact Yield.op (v := .pointer (some ⟨g, i * 5, none⟩)) (w' := wy) (by simp [execOp, go_sem, e7, cell_of_heap (heap_ext HQ10.out hl) 0]) ⟨Ext.refl _, rfl⟩
                    · intro ev wy ls hp hl hS hbh hk hd
                      rw [if_neg (by decide)]
                      clear hS hbh
                      have e81 : ev _ = _ := hk 81 (by decide)
                      exact Yield.op (v := .pointer (some ⟨g, i * 5, none⟩)) (w' := wy) (by simp [execOp, go_sem, e81]) ⟨Ext.refl _, rfl⟩
                    · intro ev wy ls hp hl hS hbh hk hd
                      rw [if_neg (by decide)]
                      clear hS hbh
                      have e82 : ev _ = _ := hk 82 (by decide)
                      exact Yield.op (v := .agg #[.int .i64 TA, .slice s1 s2 s3, .slice y1 y2 y3, .slice a9 n9 c9, .int .i64 ST]) (w' := wy) (by simp [execOp, go_sem, e82, cellExt hl HM.out.1, cellExt hl HM.out.2.1, cellExt hl HM.out.2.2.1, cellExt hl HM.out.2.2.2.1, cellExt hl HM.out.2.2.2.2]) ⟨Ext.refl _, rfl⟩
                    · intro ev wy ls hp hl hS hbh hk hd
                      rw [if_neg (by decide)]
                      clear hS hbh
                      have e83 : ev _ = _ := hk 83 (by decide)
                      refine Yield.call rfl hp Try.func36 rfl (by kernel_rfl) ?_
                      simp only [List.map_toArray, List.map_cons, List.map_nil, e83]
                      exact (HREC.out wy hl).mono fun _ _ ⟨he, hb⟩ => ⟨_, he, hb, by first | rfl | simp⟩
                    · intro ev wy ls hp hl hS hbh hk hd
                      rw [if_neg (by decide)]
                      clear hS hbh
                      have e80 : ev _ = _ := hk 80 (by decide)
                      have e84 : ev _ = _ := hk 84 (by decide)
                      exact Yield.op (v := .int .i64 (ST + MY)) (w' := wy) (by simp [execOp, go_sem, e80, e84]; exact HWS.out) ⟨Ext.refl _, rfl⟩
                    · intro ev wy ls hp hl hS hbh hk hd
                      rw [if_neg (by decide)]
                      clear hS hbh
                      have f76 : (fun (v : Value) (w : World) => ∃ b1 b2 b3 d1 d2 d3, v = .agg #[.int .i64 T, .slice b1 b2 b3, .slice d1 d2 d3] ∧ OwnI w B (.slice b1 b2 b3) c.seqs ∧ OwnRR w B (.slice d1 d2 d3) c.shards) (ev (.tmp 76)) wy := hk 76 (by decide)
                      generalize hx76 : ev (.tmp 76) = x76 at *
                      have e85 : ev _ = _ := hk 85 (by decide)
                      obtain ⟨b1, b2, b3, d1, d2, d3, hv76, ho1, ho2⟩ := f76
                      exact Yield.op (v := .agg #[.int .i64 T, .slice b1 b2 b3, .slice d1 d2 d3, .slice none 0 0, .int .i64 (ST + MY)]) (w' := wy) (by simp only [execOp, List.map_toArray, List.map_cons, List.map_nil, hx76, hv76, e85, Sem.run_bind, build_rowS14]; rfl) ⟨Ext.refl _, b1, b2, b3, d1, d2, d3, rfl, ho1, ho2⟩
                    · intro ev wy ls hp hl hS hbh hk hd
                      rw [if_neg (by decide)]
                      clear hS hbh
                      have f86 : (fun (v : Value) (w : World) => ∃ b1 b2 b3 d1 d2 d3, v = .agg #[.int .i64 T, .slice b1 b2 b3, .slice d1 d2 d3, .slice none 0 0, .int .i64 (ST + MY)] ∧ OwnI w B (.slice b1 b2 b3) c.seqs ∧ OwnRR w B (.slice d1 d2 d3) c.shards) (ev (.tmp 86)) wy := hk 86 (by decide)
                      generalize hx86 : ev (.tmp 86) = x86 at *
                      obtain ⟨b1, b2, b3, d1, d2, d3, hv86, ho1, ho2⟩ := f86
                      have hsn := SlN.row14 wy 68 ⟨.slice b1 b2 b3, .slice d1 d2 d3, .slice none 0 0, ⟨c, [], ST + MY⟩⟩
                      unfold Row14.cells at hsn
                      simp only [HN.out.2.2] at hsn
                      exact Yield.op (v := .slice (some ⟨wy.heap.size, 0, none⟩) 1 1) (w' := wy.alloc (.cells #[.int .i64 T, .slice b1 b2 b3, .slice d1 d2 d3, .slice none 0 0, .int .i64 (ST + MY)] 68)) (by simp only [execOp, List.map_toArray, List.map_cons, List.map_nil, hx86, hv86, Sem.run_bind, build_rows14]; rfl) ⟨Ext.alloc _ _, _, b1, b2, b3, d1, d2, d3, rfl, hsn, ho1.ext (Ext.alloc _ _), ho2.ext (Ext.alloc _ _)⟩
                  · decide
                  · refine ⟨rfl, ?_⟩
                    intro ev vals wy hp hl hS hF hev hk
                    have ev74 : ev (.tmp 74) = vals 4 := hev 4 _ 74 rfl (by decide) (by decide) rfl
                    have fv74 : vals 4 = .slice (some ⟨g, 0, none⟩) (i + 1) gc := hF 4 (by decide) (by decide)
                    have ev87 : ev (.tmp 87) = vals 17 := hev 17 _ 87 rfl (by decide) (by decide) rfl
                    have fv87 : (fun (v : Value) (w : World) => ∃ x b1 b2 b3 d1 d2 d3, v = .slice (some ⟨x, 0, none⟩) 1 1 ∧ SlN 5 w (.slice (some ⟨x, 0, none⟩) 1 1) 1 (flat14 [⟨.slice b1 b2 b3, .slice d1 d2 d3, .slice none 0 0, ⟨c, [], ST + MY⟩⟩]) ∧ OwnI w B (.slice b1 b2 b3) c.seqs ∧ OwnRR w B (.slice d1 d2 d3) c.shards) (vals 17) wy := hF 17 (by decide) (by decide)
                    obtain ⟨x, b1, b2, b3, d1, d2, d3, fv87', hsn, ho1, ho2⟩ := fv87
                    have hro := rowExt HR10.out.1 hl
                    refine Yield.app14 (.tmp 74) (.tmp 87) tR14 rfl (by rw [ev74, fv74]) (by rw [ev87, fv87']) hro hsn (by omega) (by intro y hy; simp [flat14, Row14.cells] at hy; rcases hy with h | h | h | h | h <;> subst h <;> rfl) (by have h := HLEN.out; unfold maxLen; omega) (by have h := HLEN.out; omega) (Nat.le_trans hB10 hl.size) fun v' w' hw' hg' => ?_
                    have hkk : Keeps14 wy w' := Keeps14.grown hro hg'
                    have hgB : B ≤ g := (hro.lt g rfl).1
                    refine ⟨⟨b1, b2, b3, d1, d2, d3, by rw [flat14_append]; exact hw', Keeps14.ints ho1 hkk, Keeps14.rows ho2 hkk⟩, ⟨(Keeps14.ext hl).trans hkk, (hl.mono hB10).grown hg' (Nat.le_trans hB10 hl.size) (fun k hk => by have h1 : g = k := Option.some.inj hk; omega), ?_⟩, ?k3, ?k4⟩
                    · exact (hg'.block p (Nat.lt_of_lt_of_le (Array.getElem?_eq_some_iff.1 HP10.out).1 hl.size) (fun e => HPG.out (by injection e))).trans ((heap_ext HP10.out hl).trans HP10.out.symm)
                    case k3 =>
                      intro i hi hf
                      rcases i with _ | i; exact absurd (by decide) hf
                      rcases i with _ | i; exact hF 1 (by decide) (by decide)
                      rcases i with _ | i; exact hF 2 (by decide) (by decide)
                      rcases i with _ | i; exact hF 3 (by decide) (by decide)
                      rcases i with _ | i; exact hF 4 (by decide) (by decide)
                      rcases i with _ | i; exact hF 5 (by decide) (by decide)
                      rcases i with _ | i; (have hj := hF 6 (by decide) (by decide); trivial)
                      rcases i with _ | i; exact hF 7 (by decide) (by decide)
                      rcases i with _ | i; exact hF 8 (by decide) (by decide)
                      rcases i with _ | i; exact hF 9 (by decide) (by decide)
                      rcases i with _ | i; exact hF 10 (by decide) (by decide)
                      rcases i with _ | i; exact hF 11 (by decide) (by decide)
                      rcases i with _ | i; exact hF 12 (by decide) (by decide)
                      rcases i with _ | i; exact hF 13 (by decide) (by decide)
                      rcases i with _ | i; exact hF 14 (by decide) (by decide)
                      rcases i with _ | i; exact hF 15 (by decide) (by decide)
                      rcases i with _ | i; (have hj := hF 16 (by decide) (by decide); trivial)
                      rcases i with _ | i; (have hj := hF 17 (by decide) (by decide); trivial)
                      exact absurd hi (by omega)
                    case k4 =>
                      intro i hi u hu
                      simp only [List.mem_cons, List.not_mem_nil, or_false] at hi
                      subst hi; exact hu
                  · intro w1 hR
                    refine ⟨?_, trivial⟩
                    · intro ev wy hp hl hk hd
                      subst hl
                      have e0 : ev (.tmp 0) = .pointer (some ⟨p, 0, none⟩) := hk 0 (by decide)
                      exact Yield.mv rfl ⟨rfl, e0⟩
                  · intro vals wz hR hv
                    have g70 : vals 0 = _ := hv 0 (by decide)
                    have g71 : vals 1 = _ := hv 1 (by decide)
                    have g72 : vals 2 = _ := hv 2 (by decide)
                    have g73 : vals 3 = _ := hv 3 (by decide)
                    have g74 : vals 4 = _ := hv 4 (by decide)
                    have g75 : vals 5 = _ := hv 5 (by decide)
                    have g76 : (fun (v : Value) (w : World) => True) (vals 6) wz := hv 6 (by decide)
                    have g77 : vals 7 = _ := hv 7 (by decide)
                    have g78 : vals 8 = _ := hv 8 (by decide)
                    have g79 : vals 9 = _ := hv 9 (by decide)
                    have g80 : vals 10 = _ := hv 10 (by decide)
                    have g81 : vals 11 = _ := hv 11 (by decide)
                    have g82 : vals 12 = _ := hv 12 (by decide)
                    have g83 : vals 13 = _ := hv 13 (by decide)
                    have g84 : vals 14 = _ := hv 14 (by decide)
                    have g85 : vals 15 = _ := hv 15 (by decide)
                    have g86 : (fun (v : Value) (w : World) => True) (vals 16) wz := hv 16 (by decide)
                    have g87 : (fun (v : Value) (w : World) => True) (vals 17) wz := hv 17 (by decide)
                    have g88 : (fun (v : Value) (w : World) => ∃ b1 b2 b3 d1 d2 d3, w.ownsRow B 68 5 v (i + 1 + 1) (flat14 (L2 ++ [⟨.slice b1 b2 b3, .slice d1 d2 d3, .slice none 0 0, ⟨c, [], ST + MY⟩⟩])) ∧ OwnI w B (.slice b1 b2 b3) c.seqs ∧ OwnRR w B (.slice d1 d2 d3) c.shards) (vals 18) wz := hv 18 (by decide)
                    clear hv
                    simp only [List.take_succ_cons, List.take_zero, List.drop_succ_cons, List.drop_zero]
                    simp only [putAll, Act.put, List.setIfInBounds_toArray, List.set_cons_zero, List.set_cons_succ, g70, g71, g72, g73, g74, g75, g77, g78, g79, g80, g81, g82, g83, g84, g85]
                    clear g70 g71 g72 g73 g74 g75 g77 g78 g79 g80 g81 g82 g83 g84 g85
                    generalize vals 6 = v76 at *
                    generalize vals 16 = v86 at *
                    generalize vals 17 = v87 at *
                    generalize vals 18 = v88 at *
                    obtain ⟨b1, b2, b3, d1, d2, d3, hown, ho1, ho2⟩ := g88
                    obtain ⟨a8, n8, c8, rfl⟩ := ownSlice hown
                    have HRZ := Lib.hid hR
                    have HOZ := Lib.hid (And.intro hown (And.intro ho1 ho2))
                    have HPZ2 := Lib.hid (hR.2.2.trans HP10.out)
                    have hpz := cell_of_heap HPZ2.out 0
                    simp only [List.getElem?_toArray, List.getElem?_cons_zero] at hpz
                    have hfz := frozen_of_heap HPZ2.out 0
                    clear hR hown ho1 ho2 g86 g87 g76
                    go_wp2_with fail
                    go_ret
                    obtain ⟨we, hwe⟩ : ∃ z, wz.setCell ⟨p, 0, none⟩ (.slice a8 n8 c8) = z := ⟨_, rfl⟩
                    rw [hwe]
                    have hBp : But p wz we := by rw [← hwe]; exact butSet _ _ _ _
                    have hkz : Keeps14 wz we := Keeps14.but hBp HPZ2.out (.inr rfl)
                    have hke : Keeps14 w10 we := HRZ.out.1.trans hkz
                    have hpe : we.heap[p]? = some (.cells #[.slice a8 n8 c8] 71 (0, 0)) := by rw [← hwe]; exact heap_setCell HPZ2.out 0 _
                    have hbe : Below B w we := by rw [← hwe]; exact (HK10.out.2.trans HRZ.out.2.1).setCell HH.out.ge _
                    have hoe : we.ownsRow B 68 5 (.slice a8 n8 c8) (i + 1 + 1) (flat14 (L2 ++ [⟨.slice b1 b2 b3, .slice d1 d2 d3, .slice none 0 0, ⟨c, [], ST + MY⟩⟩])) := rowOwn HOZ.out.1 fun k hk => hBp.block k (HOZ.out.1.lt k hk).2 (fun e1 => by
                      obtain ⟨cur, hc⟩ := ownAt HOZ.out.1 hk
                      rw [e1, HPZ2.out] at hc
                      injection hc with hc
                      injection hc with _ e2 _
                      exact absurd e2 (by decide))
                    refine ⟨0, _, rfl, Reg.Inst.next HG.out HLK.out pre a HRR.out.2.1 HLA0.out, ⟨⟨_, L2 ++ [⟨.slice b1 b2 b3, .slice d1 d2 d3, .slice none 0 0, ⟨c, [], ST + MY⟩⟩], hpe, ?_, ?_, ?_⟩, HH.out.ge, HNX.out⟩, hbe, HK10.out.1.trans hke⟩
                    · rw [show (L2 ++ [(⟨.slice b1 b2 b3, .slice d1 d2 d3, .slice none 0 0, ⟨c, [], ST + MY⟩⟩ : Row14)]).length = i + 1 + 1 by rw [List.length_append, HR10.out.2.2.2]; rfl]
                      exact hoe
                    · intro r hr
                      rcases List.mem_append.1 hr with hr | hr
                      · exact (HR10.out.2.1 r hr).keeps hke
                      · rw [List.mem_singleton] at hr
                        subst hr
                        exact ⟨Keeps14.ints HOZ.out.2.1 hkz, Keeps14.rows HOZ.out.2.2 hkz, OwnT.nil _ _⟩
                    · rw [List.map_append, HR10.out.2.2.1, ← HNAM.out.1, ← HNAM.out.2, List.append_assoc]
                      rfl
          case pos =>
            obtain ⟨j, hj, hw, hlk, hjt⟩ := HH.out.ok.look_some hhin.1 hhin.2
            have hph : ph = some ⟨g, j * 5, none⟩ := by
              have h1 := HPA.out.2
              unfold atPtr14 at h1
              rw [hw] at h1
              rw [← h1]
              rfl
            subst hph
            have HLK := Lib.hid (show Reg.look R c.term = some R[j] by rw [HN.out.2.2]; exact hlk)
            by_cases hain : Reg.first R ≤ TM ∧ TM ≤ Reg.current R
            case neg =>
              obtain ⟨hw2, hlk2⟩ := Reg.look_none hain
              have hpa : pa = none := by
                have h1 := HPA.out.1
                unfold atPtr14 at h1
                rw [hw2] at h1
                rw [← h1]
                rfl
              subst hpa
              have HIN := Lib.hid (Reg.Inst.other (R := R) (c := c) (l := l) HG.out _ HLK.out (by rw [HN.out.2.2, ← hTM2.out, hlk2]; rintro ⟨a, h, _⟩; cases h))
              have HPQ := Lib.hid (show w6.cell? ⟨qa, 0, none⟩ = some (.pointer none) by rw [cell_of_heap HQ6.out 0]; rfl)
              clear hw hlk hw2 hlk2 hjt
              refine wp_region_facts (by kernel_rfl) Ext (fun iop v w => match iop with
                  | 0 => v = .pointer (some ⟨g, j * 5, none⟩)
                  | 1 => v = .bool true
                  | 2 => v = .bool true
                  | 3 => v = .pointer none
                  | 4 => v = .bool false
                  | 5 => v = .bool false
                  | 6 => v = .bool false
                  | 7 => v = undef
                  | 8 => v = undef
                  | 9 => v = undef
                  | 10 => v = undef
                  | 11 => v = undef
                  | 12 => v = undef
                  | 13 => v = .bool false
                  | 14 => v = .bool false
                  | 15 => v = undef
                  | 16 => v = undef
                  | 17 => v = undef
                  | 18 => v = undef
                  | 19 => v = undef
                  | 20 => v = undef
                  | 21 => v = .bool false
                  | _ => v = .bool false
                  ) (by kernel_rfl) (fun _ _ _ h k => Ext.trans h k) (fun a => Ext.refl a) (Ext.drew _) ?_ ?_ ?_
              · intro iop v wa wb hF hL
                iterate 22 (rcases iop with _ | iop; exact hF)
                exact hF
              · refine Obls.cons ?_ (Obls.cons ?_ (Obls.cons ?_ (Obls.cons ?_ (Obls.cons ?_ (Obls.cons ?_ (Obls.cons ?_ (Obls.cons ?_ (Obls.cons ?_ (Obls.cons ?_ (Obls.cons ?_ (Obls.cons ?_ (Obls.cons ?_ (Obls.cons ?_ (Obls.cons ?_ (Obls.cons ?_ (Obls.cons ?_ (Obls.cons ?_ (Obls.cons ?_ (Obls.cons ?_ (Obls.cons ?_ (Obls.cons ?_ (Obls.cons ?_ (Obls.nil)))))))))))))))))))))))
                · intro ev wy hp hl hk hd
                  have e8 : ev _ = .pointer (some ⟨g, j * 5, none⟩) := hk 8 (by decide)
                  exact Yield.mv rfl ⟨Ext.refl _, e8⟩
                · intro ev wy hp hl hk hd
                  have e37 : ev _ = _ := hk 37 (by decide)
                  exact Yield.op (v := .bool true) (w' := wy) (by simp [execOp, go_sem, e37, hp.const]) ⟨Ext.refl _, rfl⟩
                · intro ev wy hp hl hk hd
                  have e38 : ev _ = _ := hk 38 (by decide)
                  exact Yield.mv rfl ⟨Ext.refl _, e38⟩
                · intro ev wy hp hl hk hd
                  have e7 : ev _ = .pointer (some ⟨qa, 0, none⟩) := hk 7 (by decide)
                  refine ⟨fun _ _ _ => ?_, fun _ hx hne => absurd hx hne⟩
                  exact Yield.op (v := .pointer none) (w' := wy) (by simp [execOp, go_sem, e7, cellExt hl HPQ.out]) ⟨Ext.refl _, rfl⟩
                · intro ev wy hp hl hk hd
                  have e40 : ev _ = _ := hk 40 (by decide)
                  refine ⟨fun _ _ _ => ?_, fun _ hx hne => absurd hx hne⟩
                  exact Yield.op (v := .bool false) (w' := wy) (by simp [execOp, go_sem, e40, hp.const]) ⟨Ext.refl _, rfl⟩
                · intro ev wy hp hl hk hd
                  have e39 : ev _ = _ := hk 39 (by decide)
                  have e41 : ev _ = _ := hk 41 (by decide)
                  exact Yield.pick (t := true) rfl e39 ⟨Ext.refl _, e41⟩
                · intro ev wy hp hl hk hd
                  have e42 : ev _ = _ := hk 42 (by decide)
                  exact Yield.mv rfl ⟨Ext.refl _, e42⟩
                · intro ev wy hp hl hk hd
                  have e4 : ev _ = .pointer (some ⟨q, 0, none⟩) := hk 4 (by decide)
                  exact ⟨fun x hx he => (by rw [show x = .bool false from hx] at he; cases he), fun _ _ _ => rfl⟩
                · intro ev wy hp hl hk hd
                  have e8 : ev _ = .pointer (some ⟨g, j * 5, none⟩) := hk 8 (by decide)
                  exact ⟨fun x hx he => (by rw [show x = .bool false from hx] at he; cases he), fun _ _ _ => rfl⟩
                · intro ev wy hp hl hk hd
                  have e45 : ev _ = _ := hk 45 (by decide)
                  exact ⟨fun x hx he => (by rw [show x = .bool false from hx] at he; cases he), fun _ _ _ => rfl⟩
                · intro ev wy hp hl hk hd
                  have e46 : ev _ = _ := hk 46 (by decide)
                  exact ⟨fun x hx he => (by rw [show x = .bool false from hx] at he; cases he), fun _ _ _ => rfl⟩
                · intro ev wy hp hl hk hd
                  have e47 : ev _ = _ := hk 47 (by decide)
                  exact ⟨fun x hx he => (by rw [show x = .bool false from hx] at he; cases he), fun _ _ _ => rfl⟩
                · intro ev wy hp hl hk hd
                  have e44 : ev _ = _ := hk 44 (by decide)
                  have e48 : ev _ = _ := hk 48 (by decide)
                  exact ⟨fun x hx he => (by rw [show x = .bool false from hx] at he; cases he), fun _ _ _ => rfl⟩
                · intro ev wy hp hl hk hd
                  have e43 : ev _ = _ := hk 43 (by decide)
                  have e49 : ev _ = _ := hk 49 (by decide)
                  exact Yield.pick (t := false) rfl e43 ⟨Ext.refl _, hp.const _⟩
                · intro ev wy hp hl hk hd
                  have e50 : ev _ = _ := hk 50 (by decide)
                  exact Yield.mv rfl ⟨Ext.refl _, e50⟩
                · intro ev wy hp hl hk hd
                  have e2 : ev _ = .slice ta ch tc := hk 2 (by decide)
                  exact ⟨fun x hx he => (by rw [show x = .bool false from hx] at he; cases he), fun _ _ _ => rfl⟩
                · intro ev wy hp hl hk hd
                  have e7 : ev _ = .pointer (some ⟨qa, 0, none⟩) := hk 7 (by decide)
                  exact ⟨fun x hx he => (by rw [show x = .bool false from hx] at he; cases he), fun _ _ _ => rfl⟩
                · intro ev wy hp hl hk hd
                  have e53 : ev _ = _ := hk 53 (by decide)
                  exact ⟨fun x hx he => (by rw [show x = .bool false from hx] at he; cases he), fun _ _ _ => rfl⟩
                · intro ev wy hp hl hk hd
                  have e54 : ev _ = _ := hk 54 (by decide)
                  exact ⟨fun x hx he => (by rw [show x = .bool false from hx] at he; cases he), fun _ _ _ => rfl⟩
                · intro ev wy hp hl hk hd
                  have e55 : ev _ = _ := hk 55 (by decide)
                  exact ⟨fun x hx he => (by rw [show x = .bool false from hx] at he; cases he), fun _ _ _ => rfl⟩
                · intro ev wy hp hl hk hd
                  have e52 : ev _ = _ := hk 52 (by decide)
                  have e56 : ev _ = _ := hk 56 (by decide)
                  exact ⟨fun x hx he => (by rw [show x = .bool false from hx] at he; cases he), fun _ _ _ => rfl⟩
                · intro ev wy hp hl hk hd
                  have e51 : ev _ = _ := hk 51 (by decide)
                  have e57 : ev _ = _ := hk 57 (by decide)
                  exact Yield.pick (t := false) rfl e51 ⟨Ext.refl _, hp.const _⟩
                · intro ev wy hp hl hk hd
                  have e58 : ev _ = _ := hk 58 (by decide)
                  exact Yield.as rfl ⟨Ext.refl _, e58⟩
              · intro vals wz hz hv
                have g37 : vals 0 = _ := hv 0 (by decide)
                have g38 : vals 1 = _ := hv 1 (by decide)
                have g39 : vals 2 = _ := hv 2 (by decide)
                have g40 : vals 3 = _ := hv 3 (by decide)
                have g41 : vals 4 = _ := hv 4 (by decide)
                have g42 : vals 5 = _ := hv 5 (by decide)
                have g43 : vals 6 = _ := hv 6 (by decide)
                have g44 : vals 7 = _ := hv 7 (by decide)
                have g45 : vals 8 = _ := hv 8 (by decide)
                have g46 : vals 9 = _ := hv 9 (by decide)
                have g47 : vals 10 = _ := hv 10 (by decide)
                have g48 : vals 11 = _ := hv 11 (by decide)
                have g49 : vals 12 = _ := hv 12 (by decide)
                have g50 : vals 13 = _ := hv 13 (by decide)
                have g51 : vals 14 = _ := hv 14 (by decide)
                have g52 : vals 15 = _ := hv 15 (by decide)
                have g53 : vals 16 = _ := hv 16 (by decide)
                have g54 : vals 17 = _ := hv 17 (by decide)
                have g55 : vals 18 = _ := hv 18 (by decide)
                have g56 : vals 19 = _ := hv 19 (by decide)
                have g57 : vals 20 = _ := hv 20 (by decide)
                have g58 : vals 21 = _ := hv 21 (by decide)
                have g36 : vals 22 = _ := hv 22 (by decide)
                clear hv
                simp only [putAll, Act.put, List.setIfInBounds_toArray, List.set_cons_zero, List.set_cons_succ, g37, g38, g39, g40, g41, g42, g43, g44, g45, g46, g47, g48, g49, g50, g51, g52, g53, g54, g55, g56, g57, g58, g36]
                clear g37 g38 g39 g40 g41 g42 g43 g44 g45 g46 g47 g48 g49 g50 g51 g52 g53 g54 g55 g56 g57 g58 g36
                have HZ := Lib.hid (HE6.out.trans hz)
                clear hz
                go_wp2_with fail
                go_ret
                exact HEND.out _ 140 HZ.out HIN.out
            case pos =>
              obtain ⟨i, hi, hw2, hlk2, hit⟩ := HH.out.ok.look_some hain.1 hain.2
              have hpa : pa = some ⟨g, i * 5, none⟩ := by
                have h1 := HPA.out.1
                unfold atPtr14 at h1
                rw [hw2] at h1
                rw [← h1]
                rfl
              subst hpa
              have HLA := Lib.hid (show Reg.look R (c.term - 1) = some R[i] by rw [HN.out.2.2, ← hTM2.out]; exact hlk2)
              have HPQ := Lib.hid (show w6.cell? ⟨qa, 0, none⟩ = some (.pointer (some ⟨g, i * 5, none⟩)) by rw [cell_of_heap HQ6.out 0]; rfl)
              obtain ⟨h1, h2, h3, k1, k3, _, _, u0, u1, u2, _, _, u5, u6, _⟩ := HH.out.row14 HP0.out j hj
              obtain ⟨_, _, _, _, _, z1, z3, _, _, _, u3, _, _, _, u7⟩ := HH.out.row14 HP0.out i hi
              obtain ⟨XJ, hXJ⟩ : ∃ z, R[j] = z := ⟨_, rfl⟩
              obtain ⟨XI, hXI⟩ : ∃ z, R[i] = z := ⟨_, rfl⟩
              rw [hXJ] at u0 u2 u5 u6 HLK
              rw [hXI] at u3 u7 HLA
              obtain ⟨NH, hNH⟩ : ∃ z, XJ.c.shards.length = z := ⟨_, rfl⟩
              obtain ⟨TH, hTH⟩ : ∃ z, XJ.c.term = z := ⟨_, rfl⟩
              obtain ⟨NZ, hNZ⟩ : ∃ z, XI.tail.length = z := ⟨_, rfl⟩
              have HSAME := Lib.hid (fun (wy : World) (hy : Ext w6 wy) => same6_any (.agg #[.int .i64 T, .slice sa sn sc, .slice da N dc]) (confV XJ.c.term (.slice h1 h2 h3) (.slice k1 XJ.c.shards.length k3)) c XJ.c wy (HV.out.below (HE36.out.trans hy)) ⟨_, _, rfl, u5.below (HE36.out.trans hy), u6.below (HE36.out.trans hy)⟩)
              have HEQ0 := Lib.hid (fun (wy : World) (hy : Ext w6 wy) => equalE_any (.slice ta ch tc) (.slice z1 XI.tail.length z3) l XI.tail wy (HT.out.below (HE36.out.trans hy)) (u7.below (HE36.out.trans hy)))
              unfold confV at HSAME
              rw [hNH] at u2 HSAME
              rw [hTH] at u0 HSAME
              rw [hNZ] at u3 HEQ0
              have HJ := Lib.hid (And.intro (cellExt HE36.out u0) (And.intro (cellExt HE36.out u1) (cellExt HE36.out u2)))
              have HZC := Lib.hid (cellExt HE36.out u3)
              clear hw hlk hjt hw2 hlk2 hit u0 u1 u2 u3 u5 u6 u7 hXJ hXI hNH hTH hNZ
              obtain ⟨b1, hb1⟩ : ∃ z, Term.alike c XJ.c = z := ⟨_, rfl⟩
              rw [hb1] at HSAME
              have HB1' := Lib.hid hb1
              clear hb1
              cases b1 with
              | false =>
                have HIN := Lib.hid (Reg.Inst.other (R := R) (c := c) (l := l) HG.out _ HLK.out (by
                  rintro ⟨a, _, hx, _⟩
                  have := HB1'.out
                  rw [hx, Term.alike_self] at this
                  cases this))
                refine wp_region_facts (by kernel_rfl) Ext (fun iop v w => match iop with
                    | 0 => v = .pointer (some ⟨g, j * 5, none⟩)
                    | 1 => v = .bool true
                    | 2 => v = .bool true
                    | 3 => v = .pointer (some ⟨g, i * 5, none⟩)
                    | 4 => v = .bool true
                    | 5 => v = .bool true
                    | 6 => v = .bool true
                    | 7 => v = .agg #[.int .i64 T, .slice sa sn sc, .slice da N dc]
                    | 8 => v = .pointer (some ⟨g, j * 5, none⟩)
                    | 9 => v = .pointer (some ⟨g, j * 5, none⟩)
                    | 10 => v = .pointer (some ⟨g, j * 5, none⟩)
                    | 11 => v = .agg #[.int .i64 TH, .slice h1 h2 h3, .slice k1 NH k3]
                    | 12 => v = .bool false
                    | 13 => v = .bool false
                    | 14 => v = .bool false
                    | 15 => v = undef
                    | 16 => v = undef
                    | 17 => v = undef
                    | 18 => v = undef
                    | 19 => v = undef
                    | 20 => v = undef
                    | 21 => v = .bool false
                    | _ => v = .bool false
                    ) (by kernel_rfl) (fun _ _ _ h k => Ext.trans h k) (fun a => Ext.refl a) (Ext.drew _) ?_ ?_ ?_
                · intro iop v wa wb hF hL
                  iterate 22 (rcases iop with _ | iop; exact hF)
                  exact hF
                · refine Obls.cons ?_ (Obls.cons ?_ (Obls.cons ?_ (Obls.cons ?_ (Obls.cons ?_ (Obls.cons ?_ (Obls.cons ?_ (Obls.cons ?_ (Obls.cons ?_ (Obls.cons ?_ (Obls.cons ?_ (Obls.cons ?_ (Obls.cons ?_ (Obls.cons ?_ (Obls.cons ?_ (Obls.cons ?_ (Obls.cons ?_ (Obls.cons ?_ (Obls.cons ?_ (Obls.cons ?_ (Obls.cons ?_ (Obls.cons ?_ (Obls.cons ?_ (Obls.nil)))))))))))))))))))))))
                  · intro ev wy hp hl hk hd
                    have e8 : ev _ = .pointer (some ⟨g, j * 5, none⟩) := hk 8 (by decide)
                    exact Yield.mv rfl ⟨Ext.refl _, e8⟩
                  · intro ev wy hp hl hk hd
                    have e37 : ev _ = _ := hk 37 (by decide)
                    exact Yield.op (v := .bool true) (w' := wy) (by simp [execOp, go_sem, e37, hp.const]) ⟨Ext.refl _, rfl⟩
                  · intro ev wy hp hl hk hd
                    have e38 : ev _ = _ := hk 38 (by decide)
                    exact Yield.mv rfl ⟨Ext.refl _, e38⟩
                  · intro ev wy hp hl hk hd
                    have e7 : ev _ = .pointer (some ⟨qa, 0, none⟩) := hk 7 (by decide)
                    refine ⟨fun _ _ _ => ?_, fun _ hx hne => absurd hx hne⟩
                    exact Yield.op (v := .pointer (some ⟨g, i * 5, none⟩)) (w' := wy) (by simp [execOp, go_sem, e7, cellExt hl HPQ.out]) ⟨Ext.refl _, rfl⟩
                  · intro ev wy hp hl hk hd
                    have e40 : ev _ = _ := hk 40 (by decide)
                    refine ⟨fun _ _ _ => ?_, fun _ hx hne => absurd hx hne⟩
                    exact Yield.op (v := .bool true) (w' := wy) (by simp [execOp, go_sem, e40, hp.const]) ⟨Ext.refl _, rfl⟩
                  · intro ev wy hp hl hk hd
                    have e39 : ev _ = _ := hk 39 (by decide)
                    have e41 : ev _ = _ := hk 41 (by decide)
                    exact Yield.pick (t := true) rfl e39 ⟨Ext.refl _, e41⟩
                  · intro ev wy hp hl hk hd
                    have e42 : ev _ = _ := hk 42 (by decide)
                    exact Yield.mv rfl ⟨Ext.refl _, e42⟩
                  · intro ev wy hp hl hk hd
                    have e4 : ev _ = .pointer (some ⟨q, 0, none⟩) := hk 4 (by decide)
                    refine ⟨fun _ _ _ => ?_, fun _ hx hne => absurd hx hne⟩
                    exact Yield.op (v := .agg #[.int .i64 T, .slice sa sn sc, .slice da N dc]) (w' := wy) (by simp [execOp, go_sem, e4, cell_of_heap (heap_ext HB6.out hl) 0, cell_of_heap (heap_ext HB6.out hl) 1, cell_of_heap (heap_ext HB6.out hl) 2]) ⟨Ext.refl _, rfl⟩
                  · intro ev wy hp hl hk hd
                    have e8 : ev _ = .pointer (some ⟨g, j * 5, none⟩) := hk 8 (by decide)
                    refine ⟨fun _ _ _ => ?_, fun _ hx hne => absurd hx hne⟩
                    exact Yield.mv rfl ⟨Ext.refl _, e8⟩
                  · intro ev wy hp hl hk hd
                    have e45 : ev _ = _ := hk 45 (by decide)
                    refine ⟨fun _ _ _ => ?_, fun _ hx hne => absurd hx hne⟩
                    exact Yield.op (v := .pointer (some ⟨g, j * 5, none⟩)) (w' := wy) (by simp [execOp, go_sem, e45]) ⟨Ext.refl _, rfl⟩
                  · intro ev wy hp hl hk hd
                    have e46 : ev _ = _ := hk 46 (by decide)
                    refine ⟨fun _ _ _ => ?_, fun _ hx hne => absurd hx hne⟩
                    exact Yield.op (v := .pointer (some ⟨g, j * 5, none⟩)) (w' := wy) (by simp [execOp, go_sem, e46]) ⟨Ext.refl _, rfl⟩
                  · intro ev wy hp hl hk hd
                    have e47 : ev _ = _ := hk 47 (by decide)
                    refine ⟨fun _ _ _ => ?_, fun _ hx hne => absurd hx hne⟩
                    exact Yield.op (v := .agg #[.int .i64 TH, .slice h1 h2 h3, .slice k1 NH k3]) (w' := wy) (by simp [execOp, go_sem, e47, cellExt hl HJ.out.1, cellExt hl HJ.out.2.1, cellExt hl HJ.out.2.2]) ⟨Ext.refl _, rfl⟩
                  · intro ev wy hp hl hk hd
                    have e44 : ev _ = _ := hk 44 (by decide)
                    have e48 : ev _ = _ := hk 48 (by decide)
                    refine ⟨fun _ _ _ => ?_, fun _ hx hne => absurd hx hne⟩
                    refine Yield.call rfl hp Try.func19 rfl (by kernel_rfl) ?_
                    simp only [List.map_toArray, List.map_cons, List.map_nil, e44, e48]
                    exact (HSAME.out wy hl).mono fun _ _ ⟨he, hb⟩ => ⟨_, he, hb, by first | rfl | simp⟩
                  · intro ev wy hp hl hk hd
                    have e43 : ev _ = _ := hk 43 (by decide)
                    have e49 : ev _ = _ := hk 49 (by decide)
                    exact Yield.pick (t := true) rfl e43 ⟨Ext.refl _, e49⟩
                  · intro ev wy hp hl hk hd
                    have e50 : ev _ = _ := hk 50 (by decide)
                    exact Yield.mv rfl ⟨Ext.refl _, e50⟩
                  · intro ev wy hp hl hk hd
                    have e2 : ev _ = .slice ta ch tc := hk 2 (by decide)
                    exact ⟨fun x hx he => (by rw [show x = .bool false from hx] at he; cases he), fun _ _ _ => rfl⟩
                  · intro ev wy hp hl hk hd
                    have e7 : ev _ = .pointer (some ⟨qa, 0, none⟩) := hk 7 (by decide)
                    exact ⟨fun x hx he => (by rw [show x = .bool false from hx] at he; cases he), fun _ _ _ => rfl⟩
                  · intro ev wy hp hl hk hd
                    have e53 : ev _ = _ := hk 53 (by decide)
                    exact ⟨fun x hx he => (by rw [show x = .bool false from hx] at he; cases he), fun _ _ _ => rfl⟩
                  · intro ev wy hp hl hk hd
                    have e54 : ev _ = _ := hk 54 (by decide)
                    exact ⟨fun x hx he => (by rw [show x = .bool false from hx] at he; cases he), fun _ _ _ => rfl⟩
                  · intro ev wy hp hl hk hd
                    have e55 : ev _ = _ := hk 55 (by decide)
                    exact ⟨fun x hx he => (by rw [show x = .bool false from hx] at he; cases he), fun _ _ _ => rfl⟩
                  · intro ev wy hp hl hk hd
                    have e52 : ev _ = _ := hk 52 (by decide)
                    have e56 : ev _ = _ := hk 56 (by decide)
                    exact ⟨fun x hx he => (by rw [show x = .bool false from hx] at he; cases he), fun _ _ _ => rfl⟩
                  · intro ev wy hp hl hk hd
                    have e51 : ev _ = _ := hk 51 (by decide)
                    have e57 : ev _ = _ := hk 57 (by decide)
                    exact Yield.pick (t := false) rfl e51 ⟨Ext.refl _, hp.const _⟩
                  · intro ev wy hp hl hk hd
                    have e58 : ev _ = _ := hk 58 (by decide)
                    exact Yield.as rfl ⟨Ext.refl _, e58⟩
                · intro vals wz hz hv
                  have g37 : vals 0 = _ := hv 0 (by decide)
                  have g38 : vals 1 = _ := hv 1 (by decide)
                  have g39 : vals 2 = _ := hv 2 (by decide)
                  have g40 : vals 3 = _ := hv 3 (by decide)
                  have g41 : vals 4 = _ := hv 4 (by decide)
                  have g42 : vals 5 = _ := hv 5 (by decide)
                  have g43 : vals 6 = _ := hv 6 (by decide)
                  have g44 : vals 7 = _ := hv 7 (by decide)
                  have g45 : vals 8 = _ := hv 8 (by decide)
                  have g46 : vals 9 = _ := hv 9 (by decide)
                  have g47 : vals 10 = _ := hv 10 (by decide)
                  have g48 : vals 11 = _ := hv 11 (by decide)
                  have g49 : vals 12 = _ := hv 12 (by decide)
                  have g50 : vals 13 = _ := hv 13 (by decide)
                  have g51 : vals 14 = _ := hv 14 (by decide)
                  have g52 : vals 15 = _ := hv 15 (by decide)
                  have g53 : vals 16 = _ := hv 16 (by decide)
                  have g54 : vals 17 = _ := hv 17 (by decide)
                  have g55 : vals 18 = _ := hv 18 (by decide)
                  have g56 : vals 19 = _ := hv 19 (by decide)
                  have g57 : vals 20 = _ := hv 20 (by decide)
                  have g58 : vals 21 = _ := hv 21 (by decide)
                  have g36 : vals 22 = _ := hv 22 (by decide)
                  clear hv
                  simp only [putAll, Act.put, List.setIfInBounds_toArray, List.set_cons_zero, List.set_cons_succ, g37, g38, g39, g40, g41, g42, g43, g44, g45, g46, g47, g48, g49, g50, g51, g52, g53, g54, g55, g56, g57, g58, g36]
                  clear g37 g38 g39 g40 g41 g42 g43 g44 g45 g46 g47 g48 g49 g50 g51 g52 g53 g54 g55 g56 g57 g58 g36
                  have HZ := Lib.hid (HE6.out.trans hz)
                  clear hz
                  go_wp2_with fail
                  go_ret
                  exact HEND.out _ 140 HZ.out HIN.out
              | true =>
                have hcc := (Term.alike_iff _ _).1 HB1'.out
                have HCC := Lib.hid hcc
                clear hcc
                by_cases htl : l = XI.tail
                · have HIN := Lib.hid (Reg.Inst.same (R := R) (c := c) (l := l) HG.out _ _ HLK.out HLA.out HCC.out.symm htl.symm)
                  have HEQ := Lib.hid (fun (wy : World) (hy : Ext w6 wy) => (HEQ0.out wy hy).mono fun e w' ⟨b, h1, h2, h3⟩ => (show e = Ending.returned (.bool true) ∧ Ext wy w' from ⟨by rw [h1, h2.2 htl], h3⟩))
                  clear htl
                  refine wp_region_facts (by kernel_rfl) Ext (fun iop v w => match iop with
                      | 0 => v = .pointer (some ⟨g, j * 5, none⟩)
                      | 1 => v = .bool true
                      | 2 => v = .bool true
                      | 3 => v = .pointer (some ⟨g, i * 5, none⟩)
                      | 4 => v = .bool true
                      | 5 => v = .bool true
                      | 6 => v = .bool true
                      | 7 => v = .agg #[.int .i64 T, .slice sa sn sc, .slice da N dc]
                      | 8 => v = .pointer (some ⟨g, j * 5, none⟩)
                      | 9 => v = .pointer (some ⟨g, j * 5, none⟩)
                      | 10 => v = .pointer (some ⟨g, j * 5, none⟩)
                      | 11 => v = .agg #[.int .i64 TH, .slice h1 h2 h3, .slice k1 NH k3]
                      | 12 => v = .bool true
                      | 13 => v = .bool true
                      | 14 => v = .bool true
                      | 15 => v = .slice ta ch tc
                      | 16 => v = .pointer (some ⟨g, i * 5, none⟩)
                      | 17 => v = .pointer (some ⟨g, i * 5, none⟩)
                      | 18 => v = .pointer (some ⟨g, i * 5 + 3, none⟩)
                      | 19 => v = .slice z1 NZ z3
                      | 20 => v = .bool true
                      | 21 => v = .bool true
                      | _ => v = .bool true
                      ) (by kernel_rfl) (fun _ _ _ h k => Ext.trans h k) (fun a => Ext.refl a) (Ext.drew _) ?_ ?_ ?_
                  · intro iop v wa wb hF hL
                    iterate 22 (rcases iop with _ | iop; exact hF)
                    exact hF
                  · refine Obls.cons ?_ (Obls.cons ?_ (Obls.cons ?_ (Obls.cons ?_ (Obls.cons ?_ (Obls.cons ?_ (Obls.cons ?_ (Obls.cons ?_ (Obls.cons ?_ (Obls.cons ?_ (Obls.cons ?_ (Obls.cons ?_ (Obls.cons ?_ (Obls.cons ?_ (Obls.cons ?_ (Obls.cons ?_ (Obls.cons ?_ (Obls.cons ?_ (Obls.cons ?_ (Obls.cons ?_ (Obls.cons ?_ (Obls.cons ?_ (Obls.cons ?_ (Obls.nil)))))))))))))))))))))))
                    · intro ev wy hp hl hk hd
                      have e8 : ev _ = .pointer (some ⟨g, j * 5, none⟩) := hk 8 (by decide)
                      exact Yield.mv rfl ⟨Ext.refl _, e8⟩
                    · intro ev wy hp hl hk hd
                      have e37 : ev _ = _ := hk 37 (by decide)
                      exact Yield.op (v := .bool true) (w' := wy) (by simp [execOp, go_sem, e37, hp.const]) ⟨Ext.refl _, rfl⟩
                    · intro ev wy hp hl hk hd
                      have e38 : ev _ = _ := hk 38 (by decide)
                      exact Yield.mv rfl ⟨Ext.refl _, e38⟩
                    · intro ev wy hp hl hk hd
                      have e7 : ev _ = .pointer (some ⟨qa, 0, none⟩) := hk 7 (by decide)
                      refine ⟨fun _ _ _ => ?_, fun _ hx hne => absurd hx hne⟩
                      exact Yield.op (v := .pointer (some ⟨g, i * 5, none⟩)) (w' := wy) (by simp [execOp, go_sem, e7, cellExt hl HPQ.out]) ⟨Ext.refl _, rfl⟩
                    · intro ev wy hp hl hk hd
                      have e40 : ev _ = _ := hk 40 (by decide)
                      refine ⟨fun _ _ _ => ?_, fun _ hx hne => absurd hx hne⟩
                      exact Yield.op (v := .bool true) (w' := wy) (by simp [execOp, go_sem, e40, hp.const]) ⟨Ext.refl _, rfl⟩
                    · intro ev wy hp hl hk hd
                      have e39 : ev _ = _ := hk 39 (by decide)
                      have e41 : ev _ = _ := hk 41 (by decide)
                      exact Yield.pick (t := true) rfl e39 ⟨Ext.refl _, e41⟩
                    · intro ev wy hp hl hk hd
                      have e42 : ev _ = _ := hk 42 (by decide)
                      exact Yield.mv rfl ⟨Ext.refl _, e42⟩
                    · intro ev wy hp hl hk hd
                      have e4 : ev _ = .pointer (some ⟨q, 0, none⟩) := hk 4 (by decide)
                      refine ⟨fun _ _ _ => ?_, fun _ hx hne => absurd hx hne⟩
                      exact Yield.op (v := .agg #[.int .i64 T, .slice sa sn sc, .slice da N dc]) (w' := wy) (by simp [execOp, go_sem, e4, cell_of_heap (heap_ext HB6.out hl) 0, cell_of_heap (heap_ext HB6.out hl) 1, cell_of_heap (heap_ext HB6.out hl) 2]) ⟨Ext.refl _, rfl⟩
                    · intro ev wy hp hl hk hd
                      have e8 : ev _ = .pointer (some ⟨g, j * 5, none⟩) := hk 8 (by decide)
                      refine ⟨fun _ _ _ => ?_, fun _ hx hne => absurd hx hne⟩
                      exact Yield.mv rfl ⟨Ext.refl _, e8⟩
                    · intro ev wy hp hl hk hd
                      have e45 : ev _ = _ := hk 45 (by decide)
                      refine ⟨fun _ _ _ => ?_, fun _ hx hne => absurd hx hne⟩
                      exact Yield.op (v := .pointer (some ⟨g, j * 5, none⟩)) (w' := wy) (by simp [execOp, go_sem, e45]) ⟨Ext.refl _, rfl⟩
                    · intro ev wy hp hl hk hd
                      have e46 : ev _ = _ := hk 46 (by decide)
                      refine ⟨fun _ _ _ => ?_, fun _ hx hne => absurd hx hne⟩
                      exact Yield.op (v := .pointer (some ⟨g, j * 5, none⟩)) (w' := wy) (by simp [execOp, go_sem, e46]) ⟨Ext.refl _, rfl⟩
                    · intro ev wy hp hl hk hd
                      have e47 : ev _ = _ := hk 47 (by decide)
                      refine ⟨fun _ _ _ => ?_, fun _ hx hne => absurd hx hne⟩
                      exact Yield.op (v := .agg #[.int .i64 TH, .slice h1 h2 h3, .slice k1 NH k3]) (w' := wy) (by simp [execOp, go_sem, e47, cellExt hl HJ.out.1, cellExt hl HJ.out.2.1, cellExt hl HJ.out.2.2]) ⟨Ext.refl _, rfl⟩
                    · intro ev wy hp hl hk hd
                      have e44 : ev _ = _ := hk 44 (by decide)
                      have e48 : ev _ = _ := hk 48 (by decide)
                      refine ⟨fun _ _ _ => ?_, fun _ hx hne => absurd hx hne⟩
                      refine Yield.call rfl hp Try.func19 rfl (by kernel_rfl) ?_
                      simp only [List.map_toArray, List.map_cons, List.map_nil, e44, e48]
                      exact (HSAME.out wy hl).mono fun _ _ ⟨he, hb⟩ => ⟨_, he, hb, by first | rfl | simp⟩
                    · intro ev wy hp hl hk hd
                      have e43 : ev _ = _ := hk 43 (by decide)
                      have e49 : ev _ = _ := hk 49 (by decide)
                      exact Yield.pick (t := true) rfl e43 ⟨Ext.refl _, e49⟩
                    · intro ev wy hp hl hk hd
                      have e50 : ev _ = _ := hk 50 (by decide)
                      exact Yield.mv rfl ⟨Ext.refl _, e50⟩
                    · intro ev wy hp hl hk hd
                      have e2 : ev _ = .slice ta ch tc := hk 2 (by decide)
                      refine ⟨fun _ _ _ => ?_, fun _ hx hne => absurd hx hne⟩
                      exact Yield.mv rfl ⟨Ext.refl _, e2⟩
                    · intro ev wy hp hl hk hd
                      have e7 : ev _ = .pointer (some ⟨qa, 0, none⟩) := hk 7 (by decide)
                      refine ⟨fun _ _ _ => ?_, fun _ hx hne => absurd hx hne⟩
                      exact Yield.op (v := .pointer (some ⟨g, i * 5, none⟩)) (w' := wy) (by simp [execOp, go_sem, e7, cellExt hl HPQ.out]) ⟨Ext.refl _, rfl⟩
                    · intro ev wy hp hl hk hd
                      have e53 : ev _ = _ := hk 53 (by decide)
                      refine ⟨fun _ _ _ => ?_, fun _ hx hne => absurd hx hne⟩
                      exact Yield.op (v := .pointer (some ⟨g, i * 5, none⟩)) (w' := wy) (by simp [execOp, go_sem, e53]) ⟨Ext.refl _, rfl⟩
                    · intro ev wy hp hl hk hd
                      have e54 : ev _ = _ := hk 54 (by decide)
                      refine ⟨fun _ _ _ => ?_, fun _ hx hne => absurd hx hne⟩
                      exact Yield.op (v := .pointer (some ⟨g, i * 5 + 3, none⟩)) (w' := wy) (by simp [execOp, go_sem, e54]) ⟨Ext.refl _, rfl⟩
                    · intro ev wy hp hl hk hd
                      have e55 : ev _ = _ := hk 55 (by decide)
                      refine ⟨fun _ _ _ => ?_, fun _ hx hne => absurd hx hne⟩
                      exact Yield.op (v := .slice z1 NZ z3) (w' := wy) (by simp [execOp, go_sem, e55, cellExt hl HZC.out]) ⟨Ext.refl _, rfl⟩
                    · intro ev wy hp hl hk hd
                      have e52 : ev _ = _ := hk 52 (by decide)
                      have e56 : ev _ = _ := hk 56 (by decide)
                      refine ⟨fun _ _ _ => ?_, fun _ hx hne => absurd hx hne⟩
                      refine Yield.call rfl hp Try.func33 rfl (by kernel_rfl) ?_
                      simp only [List.map_toArray, List.map_cons, List.map_nil, hp.func, e52, e56]
                      exact (HEQ.out wy hl).mono fun _ _ ⟨he, hb⟩ => ⟨_, he, hb, rfl⟩
                    · intro ev wy hp hl hk hd
                      have e51 : ev _ = _ := hk 51 (by decide)
                      have e57 : ev _ = _ := hk 57 (by decide)
                      exact Yield.pick (t := true) rfl e51 ⟨Ext.refl _, e57⟩
                    · intro ev wy hp hl hk hd
                      have e58 : ev _ = _ := hk 58 (by decide)
                      exact Yield.as rfl ⟨Ext.refl _, e58⟩
                  · intro vals wz hz hv
                    have g37 : vals 0 = _ := hv 0 (by decide)
                    have g38 : vals 1 = _ := hv 1 (by decide)
                    have g39 : vals 2 = _ := hv 2 (by decide)
                    have g40 : vals 3 = _ := hv 3 (by decide)
                    have g41 : vals 4 = _ := hv 4 (by decide)
                    have g42 : vals 5 = _ := hv 5 (by decide)
                    have g43 : vals 6 = _ := hv 6 (by decide)
                    have g44 : vals 7 = _ := hv 7 (by decide)
                    have g45 : vals 8 = _ := hv 8 (by decide)
                    have g46 : vals 9 = _ := hv 9 (by decide)
                    have g47 : vals 10 = _ := hv 10 (by decide)
                    have g48 : vals 11 = _ := hv 11 (by decide)
                    have g49 : vals 12 = _ := hv 12 (by decide)
                    have g50 : vals 13 = _ := hv 13 (by decide)
                    have g51 : vals 14 = _ := hv 14 (by decide)
                    have g52 : vals 15 = _ := hv 15 (by decide)
                    have g53 : vals 16 = _ := hv 16 (by decide)
                    have g54 : vals 17 = _ := hv 17 (by decide)
                    have g55 : vals 18 = _ := hv 18 (by decide)
                    have g56 : vals 19 = _ := hv 19 (by decide)
                    have g57 : vals 20 = _ := hv 20 (by decide)
                    have g58 : vals 21 = _ := hv 21 (by decide)
                    have g36 : vals 22 = _ := hv 22 (by decide)
                    clear hv
                    simp only [putAll, Act.put, List.setIfInBounds_toArray, List.set_cons_zero, List.set_cons_succ, g37, g38, g39, g40, g41, g42, g43, g44, g45, g46, g47, g48, g49, g50, g51, g52, g53, g54, g55, g56, g57, g58, g36]
                    clear g37 g38 g39 g40 g41 g42 g43 g44 g45 g46 g47 g48 g49 g50 g51 g52 g53 g54 g55 g56 g57 g58 g36
                    have HZ := Lib.hid (HE6.out.trans hz)
                    clear hz
                    go_wp2_with fail
                    go_ret
                    exact HEND.out _ 0 HZ.out HIN.out
                · have HIN := Lib.hid (Reg.Inst.other (R := R) (c := c) (l := l) HG.out _ HLK.out (by
                    rintro ⟨a, ha, _, hx⟩
                    rw [HLA.out] at ha
                    injection ha with ha
                    subst ha
                    exact htl hx.symm))
                  have HEQ := Lib.hid (fun (wy : World) (hy : Ext w6 wy) => (HEQ0.out wy hy).mono fun e w' ⟨b, h1, h2, h3⟩ => (show e = Ending.returned (.bool false) ∧ Ext wy w' from ⟨by
                    rw [h1]
                    cases b with
                    | false => rfl
                    | true => exact absurd (h2.1 rfl) htl, h3⟩))
                  clear htl
                  refine wp_region_facts (by kernel_rfl) Ext (fun iop v w => match iop with
                      | 0 => v = .pointer (some ⟨g, j * 5, none⟩)
                      | 1 => v = .bool true
                      | 2 => v = .bool true
                      | 3 => v = .pointer (some ⟨g, i * 5, none⟩)
                      | 4 => v = .bool true
                      | 5 => v = .bool true
                      | 6 => v = .bool true
                      | 7 => v = .agg #[.int .i64 T, .slice sa sn sc, .slice da N dc]
                      | 8 => v = .pointer (some ⟨g, j * 5, none⟩)
                      | 9 => v = .pointer (some ⟨g, j * 5, none⟩)
                      | 10 => v = .pointer (some ⟨g, j * 5, none⟩)
                      | 11 => v = .agg #[.int .i64 TH, .slice h1 h2 h3, .slice k1 NH k3]
                      | 12 => v = .bool true
                      | 13 => v = .bool true
                      | 14 => v = .bool true
                      | 15 => v = .slice ta ch tc
                      | 16 => v = .pointer (some ⟨g, i * 5, none⟩)
                      | 17 => v = .pointer (some ⟨g, i * 5, none⟩)
                      | 18 => v = .pointer (some ⟨g, i * 5 + 3, none⟩)
                      | 19 => v = .slice z1 NZ z3
                      | 20 => v = .bool false
                      | 21 => v = .bool false
                      | _ => v = .bool false
                      ) (by kernel_rfl) (fun _ _ _ h k => Ext.trans h k) (fun a => Ext.refl a) (Ext.drew _) ?_ ?_ ?_
                  · intro iop v wa wb hF hL
                    iterate 22 (rcases iop with _ | iop; exact hF)
                    exact hF
                  · refine Obls.cons ?_ (Obls.cons ?_ (Obls.cons ?_ (Obls.cons ?_ (Obls.cons ?_ (Obls.cons ?_ (Obls.cons ?_ (Obls.cons ?_ (Obls.cons ?_ (Obls.cons ?_ (Obls.cons ?_ (Obls.cons ?_ (Obls.cons ?_ (Obls.cons ?_ (Obls.cons ?_ (Obls.cons ?_ (Obls.cons ?_ (Obls.cons ?_ (Obls.cons ?_ (Obls.cons ?_ (Obls.cons ?_ (Obls.cons ?_ (Obls.cons ?_ (Obls.nil)))))))))))))))))))))))
                    · intro ev wy hp hl hk hd
                      have e8 : ev _ = .pointer (some ⟨g, j * 5, none⟩) := hk 8 (by decide)
                      exact Yield.mv rfl ⟨Ext.refl _, e8⟩
                    · intro ev wy hp hl hk hd
                      have e37 : ev _ = _ := hk 37 (by decide)
                      exact Yield.op (v := .bool true) (w' := wy) (by simp [execOp, go_sem, e37, hp.const]) ⟨Ext.refl _, rfl⟩
                    · intro ev wy hp hl hk hd
                      have e38 : ev _ = _ := hk 38 (by decide)
                      exact Yield.mv rfl ⟨Ext.refl _, e38⟩
                    · intro ev wy hp hl hk hd
                      have e7 : ev _ = .pointer (some ⟨qa, 0, none⟩) := hk 7 (by decide)
                      refine ⟨fun _ _ _ => ?_, fun _ hx hne => absurd hx hne⟩
                      exact Yield.op (v := .pointer (some ⟨g, i * 5, none⟩)) (w' := wy) (by simp [execOp, go_sem, e7, cellExt hl HPQ.out]) ⟨Ext.refl _, rfl⟩
                    · intro ev wy hp hl hk hd
                      have e40 : ev _ = _ := hk 40 (by decide)
                      refine ⟨fun _ _ _ => ?_, fun _ hx hne => absurd hx hne⟩
                      exact Yield.op (v := .bool true) (w' := wy) (by simp [execOp, go_sem, e40, hp.const]) ⟨Ext.refl _, rfl⟩
                    · intro ev wy hp hl hk hd
                      have e39 : ev _ = _ := hk 39 (by decide)
                      have e41 : ev _ = _ := hk 41 (by decide)
                      exact Yield.pick (t := true) rfl e39 ⟨Ext.refl _, e41⟩
                    · intro ev wy hp hl hk hd
                      have e42 : ev _ = _ := hk 42 (by decide)
                      exact Yield.mv rfl ⟨Ext.refl _, e42⟩
                    · intro ev wy hp hl hk hd
                      have e4 : ev _ = .pointer (some ⟨q, 0, none⟩) := hk 4 (by decide)
                      refine ⟨fun _ _ _ => ?_, fun _ hx hne => absurd hx hne⟩
                      exact Yield.op (v := .agg #[.int .i64 T, .slice sa sn sc, .slice da N dc]) (w' := wy) (by simp [execOp, go_sem, e4, cell_of_heap (heap_ext HB6.out hl) 0, cell_of_heap (heap_ext HB6.out hl) 1, cell_of_heap (heap_ext HB6.out hl) 2]) ⟨Ext.refl _, rfl⟩
                    · intro ev wy hp hl hk hd
                      have e8 : ev _ = .pointer (some ⟨g, j * 5, none⟩) := hk 8 (by decide)
                      refine ⟨fun _ _ _ => ?_, fun _ hx hne => absurd hx hne⟩
                      exact Yield.mv rfl ⟨Ext.refl _, e8⟩
                    · intro ev wy hp hl hk hd
                      have e45 : ev _ = _ := hk 45 (by decide)
                      refine ⟨fun _ _ _ => ?_, fun _ hx hne => absurd hx hne⟩
                      exact Yield.op (v := .pointer (some ⟨g, j * 5, none⟩)) (w' := wy) (by simp [execOp, go_sem, e45]) ⟨Ext.refl _, rfl⟩
                    · intro ev wy hp hl hk hd
                      have e46 : ev _ = _ := hk 46 (by decide)
                      refine ⟨fun _ _ _ => ?_, fun _ hx hne => absurd hx hne⟩
                      exact Yield.op (v := .pointer (some ⟨g, j * 5, none⟩)) (w' := wy) (by simp [execOp, go_sem, e46]) ⟨Ext.refl _, rfl⟩
                    · intro ev wy hp hl hk hd
                      have e47 : ev _ = _ := hk 47 (by decide)
                      refine ⟨fun _ _ _ => ?_, fun _ hx hne => absurd hx hne⟩
                      exact Yield.op (v := .agg #[.int .i64 TH, .slice h1 h2 h3, .slice k1 NH k3]) (w' := wy) (by simp [execOp, go_sem, e47, cellExt hl HJ.out.1, cellExt hl HJ.out.2.1, cellExt hl HJ.out.2.2]) ⟨Ext.refl _, rfl⟩
                    · intro ev wy hp hl hk hd
                      have e44 : ev _ = _ := hk 44 (by decide)
                      have e48 : ev _ = _ := hk 48 (by decide)
                      refine ⟨fun _ _ _ => ?_, fun _ hx hne => absurd hx hne⟩
                      refine Yield.call rfl hp Try.func19 rfl (by kernel_rfl) ?_
                      simp only [List.map_toArray, List.map_cons, List.map_nil, e44, e48]
                      exact (HSAME.out wy hl).mono fun _ _ ⟨he, hb⟩ => ⟨_, he, hb, by first | rfl | simp⟩
                    · intro ev wy hp hl hk hd
                      have e43 : ev _ = _ := hk 43 (by decide)
                      have e49 : ev _ = _ := hk 49 (by decide)
                      exact Yield.pick (t := true) rfl e43 ⟨Ext.refl _, e49⟩
                    · intro ev wy hp hl hk hd
                      have e50 : ev _ = _ := hk 50 (by decide)
                      exact Yield.mv rfl ⟨Ext.refl _, e50⟩
                    · intro ev wy hp hl hk hd
                      have e2 : ev _ = .slice ta ch tc := hk 2 (by decide)
                      refine ⟨fun _ _ _ => ?_, fun _ hx hne => absurd hx hne⟩
                      exact Yield.mv rfl ⟨Ext.refl _, e2⟩
                    · intro ev wy hp hl hk hd
                      have e7 : ev _ = .pointer (some ⟨qa, 0, none⟩) := hk 7 (by decide)
                      refine ⟨fun _ _ _ => ?_, fun _ hx hne => absurd hx hne⟩
                      exact Yield.op (v := .pointer (some ⟨g, i * 5, none⟩)) (w' := wy) (by simp [execOp, go_sem, e7, cellExt hl HPQ.out]) ⟨Ext.refl _, rfl⟩
                    · intro ev wy hp hl hk hd
                      have e53 : ev _ = _ := hk 53 (by decide)
                      refine ⟨fun _ _ _ => ?_, fun _ hx hne => absurd hx hne⟩
                      exact Yield.op (v := .pointer (some ⟨g, i * 5, none⟩)) (w' := wy) (by simp [execOp, go_sem, e53]) ⟨Ext.refl _, rfl⟩
                    · intro ev wy hp hl hk hd
                      have e54 : ev _ = _ := hk 54 (by decide)
                      refine ⟨fun _ _ _ => ?_, fun _ hx hne => absurd hx hne⟩
                      exact Yield.op (v := .pointer (some ⟨g, i * 5 + 3, none⟩)) (w' := wy) (by simp [execOp, go_sem, e54]) ⟨Ext.refl _, rfl⟩
                    · intro ev wy hp hl hk hd
                      have e55 : ev _ = _ := hk 55 (by decide)
                      refine ⟨fun _ _ _ => ?_, fun _ hx hne => absurd hx hne⟩
                      exact Yield.op (v := .slice z1 NZ z3) (w' := wy) (by simp [execOp, go_sem, e55, cellExt hl HZC.out]) ⟨Ext.refl _, rfl⟩
                    · intro ev wy hp hl hk hd
                      have e52 : ev _ = _ := hk 52 (by decide)
                      have e56 : ev _ = _ := hk 56 (by decide)
                      refine ⟨fun _ _ _ => ?_, fun _ hx hne => absurd hx hne⟩
                      refine Yield.call rfl hp Try.func33 rfl (by kernel_rfl) ?_
                      simp only [List.map_toArray, List.map_cons, List.map_nil, hp.func, e52, e56]
                      exact (HEQ.out wy hl).mono fun _ _ ⟨he, hb⟩ => ⟨_, he, hb, rfl⟩
                    · intro ev wy hp hl hk hd
                      have e51 : ev _ = _ := hk 51 (by decide)
                      have e57 : ev _ = _ := hk 57 (by decide)
                      exact Yield.pick (t := true) rfl e51 ⟨Ext.refl _, e57⟩
                    · intro ev wy hp hl hk hd
                      have e58 : ev _ = _ := hk 58 (by decide)
                      exact Yield.as rfl ⟨Ext.refl _, e58⟩
                  · intro vals wz hz hv
                    have g37 : vals 0 = _ := hv 0 (by decide)
                    have g38 : vals 1 = _ := hv 1 (by decide)
                    have g39 : vals 2 = _ := hv 2 (by decide)
                    have g40 : vals 3 = _ := hv 3 (by decide)
                    have g41 : vals 4 = _ := hv 4 (by decide)
                    have g42 : vals 5 = _ := hv 5 (by decide)
                    have g43 : vals 6 = _ := hv 6 (by decide)
                    have g44 : vals 7 = _ := hv 7 (by decide)
                    have g45 : vals 8 = _ := hv 8 (by decide)
                    have g46 : vals 9 = _ := hv 9 (by decide)
                    have g47 : vals 10 = _ := hv 10 (by decide)
                    have g48 : vals 11 = _ := hv 11 (by decide)
                    have g49 : vals 12 = _ := hv 12 (by decide)
                    have g50 : vals 13 = _ := hv 13 (by decide)
                    have g51 : vals 14 = _ := hv 14 (by decide)
                    have g52 : vals 15 = _ := hv 15 (by decide)
                    have g53 : vals 16 = _ := hv 16 (by decide)
                    have g54 : vals 17 = _ := hv 17 (by decide)
                    have g55 : vals 18 = _ := hv 18 (by decide)
                    have g56 : vals 19 = _ := hv 19 (by decide)
                    have g57 : vals 20 = _ := hv 20 (by decide)
                    have g58 : vals 21 = _ := hv 21 (by decide)
                    have g36 : vals 22 = _ := hv 22 (by decide)
                    clear hv
                    simp only [putAll, Act.put, List.setIfInBounds_toArray, List.set_cons_zero, List.set_cons_succ, g37, g38, g39, g40, g41, g42, g43, g44, g45, g46, g47, g48, g49, g50, g51, g52, g53, g54, g55, g56, g57, g58, g36]
                    clear g37 g38 g39 g40 g41 g42 g43 g44 g45 g46 g47 g48 g49 g50 g51 g52 g53 g54 g55 g56 g57 g58 g36
                    have HZ := Lib.hid (HE6.out.trans hz)
                    clear hz
                    go_wp2_with fail
                    go_ret
                    exact HEND.out _ 140 HZ.out HIN.out
end Go.Proofs.Ytkpcmedmiiohnaa
