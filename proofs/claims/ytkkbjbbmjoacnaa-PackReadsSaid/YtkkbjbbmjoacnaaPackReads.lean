/-
  PackReads: any bytes are read, part by part, as the document says, up to the first error: for every input the statement's function returns true, and leaves what came in as it was.
-/
import Derived.Test.YtkkbjbbmjoacnaaPackRefOne
import Derived.Test.YtkkbjbbmjoacnaaPackRaw
import Derived.Test.YtkkbjbbmjoacnaaRegion2
namespace Go.Proofs.Ytkkbjbbmjoacnaa
open Go.ChangeShapes Go.WideShapes Go.ChangeAt Go.RowKit

theorem Yield.load {P : Program} {o : Oper} {ev : Operand → Value} {w : World} {R : Value → World → Prop} {t : TypeId} {x : Operand} {u v : Value} {w' : World} (ho : o.op = .load t x) (hx : ev x = u) (hr : (Instr.loadAt t u).run P w = .ok v w') (h : R v w') : Yield P o ev w R := by
  unfold Yield execOp
  simp only [ho, hx, Sem.run_bind, hr, Result.andThen_ok, Sem.run_pure]
  exact h
theorem load_ref (w : World) (q : Nat) (l : List UInt8) (e : Int) {fr : Nat × Nat} (g : w.heap[q]? = some (.cells #[.string ⟨l.toArray⟩, .int .i64 e] 52 fr)) :
    (Instr.loadAt 52 (.pointer (some ⟨q, 0, none⟩))).run Try.prog w = .ok (.agg #[.string ⟨l.toArray⟩, .int .i64 e]) w := by
  have z0 := cell_of_heap g 0
  have z1 := cell_of_heap g 1
  simp at z0 z1
  simp [go_sem, z0, z1]
theorem load_err (w : World) (q : Nat) (l : List UInt8) (e : Int) {fr : Nat × Nat} (g : w.heap[q]? = some (.cells #[.string ⟨l.toArray⟩, .int .i64 e] 52 fr)) :
    (Instr.loadAt 50 (.pointer (some ⟨q, 1, none⟩))).run Try.prog w = .ok (.int .i64 e) w := by
  have z1 := cell_of_heap g 1
  simp at z1
  simp [go_sem, z1]
theorem load_str (w : World) (q : Nat) (l : List UInt8) (e : Int) {fr : Nat × Nat} (g : w.heap[q]? = some (.cells #[.string ⟨l.toArray⟩, .int .i64 e] 52 fr)) :
    (Instr.loadAt 9 (.pointer (some ⟨q, 0, none⟩))).run Try.prog w = .ok (.string ⟨l.toArray⟩) w := by
  have z0 := cell_of_heap g 0
  simp at z0
  simp [go_sem, z0]
theorem errE (p : Nat) (s : Pack.St) (w : World) (h : RD w p s) : Calls Try.prog 35 #[.pointer (some ⟨p, 0, none⟩)] w fun e w' => e = .returned (.int .i64 s.err) ∧ Ext w w' :=
  (err_any p s w h).mono fun _ _ ⟨he, hw⟩ => by subst hw; exact ⟨he, Ext.refl _⟩
theorem endE (p : Nat) (s : Pack.St) (w : World) (h : RD w p s) : Calls Try.prog 36 #[.pointer (some ⟨p, 0, none⟩)] w fun e w' => e = .returned (.int .i64 s.done) ∧ Ext w w' :=
  (end_any p s w h).mono fun _ _ ⟨he, hw⟩ => by subst hw; exact ⟨he, Ext.refl _⟩
theorem leftE2 (p : Nat) (s : Pack.St) (w : World) (h : RD w p s) : Calls Try.prog 38 #[.pointer (some ⟨p, 0, none⟩)] w fun e w' => e = .returned (.int .i64 (s.left.length : Nat)) ∧ Ext w w' :=
  (left_any p s w h).mono fun _ _ ⟨he, hw⟩ => by subst hw; exact ⟨he, Ext.refl _⟩
theorem set_two {w : World} {q : Nat} {x0 x1 : Value} {T : TypeId} (h : w.heap[q]? = some (.cells #[x0, x1] T (0, 0))) (v0 v1 : Value) :
    ((w.setCell ⟨q, 0, none⟩ v0).setCell ⟨q, 1, none⟩ v1).heap[q]? = some (.cells #[v0, v1] T (0, 0)) ∧ But q w ((w.setCell ⟨q, 0, none⟩ v0).setCell ⟨q, 1, none⟩ v1) := by
  refine ⟨?_, ((But.refl _ _).setCell 0 none v0).setCell 1 none v1⟩
  have := heap_setCell (heap_setCell h 0 v0) 1 v1
  simpa using this
theorem later2_cell {w : World} {p : Nat} {cs : Array Value} {T : TypeId} {fr : Nat × Nat} (h : w.heap[p]? = some (.cells cs T fr)) (i : Nat) (o o2 : Obj) : ((w.alloc o).alloc o2).cell? ⟨p, i, none⟩ = cs[i]? :=
  cell_of_heap (w := (w.alloc o).alloc o2) (heap_ext h (ext_two w o o2)) i
theorem later2_frozen {w : World} {p : Nat} {cs : Array Value} {T : TypeId} (h : w.heap[p]? = some (.cells cs T (0, 0))) (i : Nat) (o o2 : Obj) : ((w.alloc o).alloc o2).frozen? ⟨p, i, none⟩ = false :=
  frozen_of_heap (w := (w.alloc o).alloc o2) (heap_ext h (ext_two w o o2)) i
set_option maxRecDepth 100000 in
set_option maxHeartbeats 8000000 in
theorem packReads_walk (a b : Option Addr) (n c m d : Nat) (l : List UInt8) (ps : List Pack.Part) (W : World) (h0 : Bytes W (.slice a n c) l) (h1 : Parts W (.slice b m d) ps) (hs0 : n * 1 ≤ 140737488351232) :
    Calls Try.prog 11 #[.slice a n c, .slice b m d] W fun e W' => e = .returned (.bool true) ∧ Below W.heap.size W W' := by
  have HP := Lib.hid h1
  have HL := Lib.hid h0
  obtain ⟨hnl, hnc, hc⟩ := h0.len
  obtain ⟨aa, cc, e', hpc, hcm, _, _⟩ := h1
  injection e' with e1 e2 e3
  subst e1 e2 e3 hnl
  unfold maxLen at hcm
  by_cases hbad : (20000 : Int) < (l.length : Int) ∨ (200 : Int) < (ps.length : Int)
  · have parts : (20000 : Int) < (l.length : Int) ∨ (¬ (20000 : Int) < (l.length : Int) ∧ (200 : Int) < (ps.length : Int)) := by omega
    clear hbad h0
    rcases parts with p1 | ⟨p1, p2⟩
    all_goals
      go_enter Try.func11, Try.ntmps11
      go_wp2_with fail
      refine (newReader_any _ _ _ HL.out (by omega)).mono ?_
      rintro e w1 ⟨p, rfl, hp, hr1, hb1⟩
      go_wp2_with fail
      refine (packAlive_any _).mono ?_
      rintro e w2 ⟨rfl, hb2⟩
      go_wp2_with fail
      go_ret
      exact ⟨rfl, hb1.trans hb2⟩
  · have p1 : ¬ (20000 : Int) < (l.length : Int) := by omega
    have p2 : ¬ (200 : Int) < (ps.length : Int) := by omega
    clear hbad h0
    go_enter Try.func11, Try.ntmps11
    go_wp2_with fail
    refine (newReader_any _ _ _ HL.out (by omega)).mono ?_
    rintro e w1 ⟨p, rfl, hp, hr1, hb1⟩
    have hst := run_str (P := Try.prog) 22 9 5 Try.underlying22 Try.underlying5 Try.underlying9 (HL.out.below hb1)
    go_wp2_with fail
    have hq6 := heap_alloc_new w1 (.cells #[.string ⟨l.toArray⟩, .int .i64 0] 52)
    have hr2 : RD (w1.alloc (.cells #[.string ⟨l.toArray⟩, .int .i64 0] 52)) p ⟨l, 0⟩ := hr1.ext (Ext.alloc _ _)
    have hE2 : Ext W (w1.alloc (.cells #[.string ⟨l.toArray⟩, .int .i64 0] 52)) := hb1.trans (Ext.alloc _ _)
    have hpW : W.heap.size ≤ p := hp
    have hp1 := hr1.lt
    have hq1 : W.heap.size ≤ w1.heap.size := hb1.size
    have hll : l.length ≤ 20000 := by omega
    generalize w1.heap.size = q6 at *
    clear hst
    go_loopw [8, 9, 10, 35] (fun _ _ _ i wr => ∃ (k : Nat) (l1 : List UInt8) (st : Pack.St), k ≤ ps.length ∧ i = .int .i64 k ∧ Hid (RD wr p st) ∧ Hid (wr.heap[q6]? = some (.cells #[.string ⟨l1.toArray⟩, .int .i64 st.err] 52 (0, 0))) ∧ Sim l1 st ∧ l1.length ≤ 20000 ∧ Ext W wr) (fun _ _ _ i _ => ps.length - (intOf i).toNat)
    case atStart => exact ⟨0, l, ⟨l, 0⟩, by omega, rfl, hr2, hq6, ⟨fun _ => rfl, fun h => absurd rfl h⟩, hll, hE2⟩
    case round =>
      obtain ⟨k, l1, st, hk, rfl, hrd, hq, hsim, hl1, hbr⟩ := hrel
      clear hr2 hE2 hq6
      by_cases hlt : k < ps.length
      · obtain ⟨a', cap', e', _, _, _, hc⟩ := (HP.out.below hbr)
        obtain ⟨b1, off, rfl, hcell⟩ := hc k hlt
        injection e' with e1 e2 e3
        subst e1
        obtain ⟨x0, x1, x2, x3, x4⟩ := hcell
        clear hc e2 e3
        generalize ps[k] = P at *
        have href := fun w' => readRef_any l1 st P w' hsim (by omega)
        have hread := fun w' h => read_any p st P w' h
        obtain ⟨t, Q, hTQ⟩ : ∃ t Q, st.part P = (t, Q) := ⟨_, _, rfl⟩
        rw [hTQ] at href hread
        simp only at href hread
        have g6 := hq.out
        have z60 := cell_of_heap g6 0
        have z61 := cell_of_heap g6 1
        have hq6lt : q6 < wr.heap.size := (Array.getElem?_eq_some_iff.1 g6).1
        simp at z60 z61
        have hplt := hrd.out.lt
        obtain ⟨K, N, M, S, I⟩ := P
        obtain ⟨QK, QN, QM, QS, QI⟩ := Q
        simp only [partVal, refVal] at href hread x0 x1 x2 x3 x4
        clear hTQ
        go_wp2_with fail
        refine (href _).mono ?_
        rintro e w5 ⟨l2, rfl, hs2, hl2, hb5⟩
        have hE5 := (Ext.alloc wr (.cells #[.int .i64 K, .int .i64 N, .int .i64 M, .string ⟨S.toArray⟩, .bool I] 46)).trans hb5
        have g65 := heap_ext g6 hE5
        have f6 := fun i o p => later2_frozen g65 i o p
        have z60' := fun o p => later2_cell g65 0 o p
        have z61' := fun o p => later2_cell g65 1 o p
        simp at z60' z61'
        clear href
        go_wp2_with fail
        have hn6 : q6 ≠ p := by
          rintro rfl
          obtain ⟨aa, nn, cc, hcc, _⟩ := hrd.out
          rw [g6] at hcc
          simp at hcc
        have hn8 : wr.heap.size ≠ p := by omega
        have hs5 := hE5.size
        have hn10 : w5.heap.size + 1 ≠ p := by omega
        have H8a := heap_ext (heap_alloc_new wr (.cells #[.int .i64 K, .int .i64 N, .int .i64 M, .string ⟨S.toArray⟩, .bool I] 46)) hb5
        have hlt8 : wr.heap.size < w5.heap.size := (Array.getElem?_eq_some_iff.1 H8a).1
        have hlt6 : q6 < w5.heap.size := (Array.getElem?_eq_some_iff.1 g65).1
        obtain ⟨H9b, H10b⟩ := heap_two w5 (.cells #[.string ⟨l2.toArray⟩, .int .i64 t.err] 52) (.cells #[.int .i64 QK, .int .i64 QN, .int .i64 QM, .string ⟨QS.toArray⟩, .bool QI] 46)
        have hE7 := ext_two w5 (.cells #[.string ⟨l2.toArray⟩, .int .i64 t.err] 52) (.cells #[.int .i64 QK, .int .i64 QN, .int .i64 QM, .string ⟨QS.toArray⟩, .bool QI] 46)
        have G6 := heap_ext g65 hE7
        have G8 := heap_ext H8a hE7
        have hr7 : RD ((w5.alloc (.cells #[.string ⟨l2.toArray⟩, .int .i64 t.err] 52)).alloc (.cells #[.int .i64 QK, .int .i64 QN, .int .i64 QM, .string ⟨QS.toArray⟩, .bool QI] 46)) p st := hrd.out.ext (hE5.trans hE7)
        have hE07 : Ext W ((w5.alloc (.cells #[.string ⟨l2.toArray⟩, .int .i64 t.err] 52)).alloc (.cells #[.int .i64 QK, .int .i64 QN, .int .i64 QM, .string ⟨QS.toArray⟩, .bool QI] 46)) := (hbr.trans hE5).trans hE7
        have hz9 : ∀ o p', ((w5.alloc o).alloc p').heap.size = w5.heap.size + 2 := fun o p' => by rw [World.size_alloc, World.size_alloc]
        have hset := set_two G6 (.string ⟨l2.toArray⟩) (.int .i64 t.err)
        have H6 := hset.1
        have H8 := (hset.2.block wr.heap.size (by rw [hz9]; omega) (by omega)).trans G8
        have H10 := (hset.2.block (w5.heap.size + 1) (by rw [hz9]; omega) (by omega)).trans H10b
        have hr6 := hr7.off G6 (by intro n hn; simp at hn) (Ne.symm hn6) hset.2
        have hE6 : Ext W _ := Below.trans (B := W.heap.size) hE07 (hset.2.below hq1 hE07.size)
        clear hset G6 G8 hr7 hE07 hz9 H8a H9b H10b hE7 g65 f6 z60' z61' z60 z61 g6 hb5 hE5 hbr x0 x1 x2 x3 x4
        generalize ((((w5.alloc (.cells #[.string ⟨l2.toArray⟩, .int .i64 t.err] 52)).alloc (.cells #[.int .i64 QK, .int .i64 QN, .int .i64 QM, .string ⟨QS.toArray⟩, .bool QI] 46)).setCell ⟨q6, 0, none⟩ (.string ⟨l2.toArray⟩)).setCell ⟨q6, 1, none⟩ (.int .i64 t.err)) = w6 at *
        obtain ⟨q8, hq8⟩ : ∃ q8, q8 = wr.heap.size := ⟨_, rfl⟩
        obtain ⟨q10, hq10⟩ : ∃ q10, q10 = w5.heap.size + 1 := ⟨_, rfl⟩
        rw [← hq8] at H8 hn8 ⊢
        rw [← hq10] at H10 hn10 ⊢
        by_cases hlen : t.left.length = l2.length
        · clear hq8 hq10 hlt8 hlt6 hs5 hq6lt
          refine wp_region_marked (by kernel_rfl) Ext (But p) (fun iop v w => match iop with
              | 0 => v = .pointer (some ⟨p, 0, none⟩)
              | 1 => v = .agg #[.int .i64 K, .int .i64 N, .int .i64 M, .string ⟨S.toArray⟩, .bool I]
              | 2 => v = .agg #[.int .i64 QK, .int .i64 QN, .int .i64 QM, .string ⟨QS.toArray⟩, .bool QI]
              | 3 => v = .agg #[.int .i64 QK, .int .i64 QN, .int .i64 QM, .string ⟨QS.toArray⟩, .bool QI]
              | 4 => v = .bool false
              | 5 => v = .bool false
              | 6 => v = .pointer (some ⟨p, 0, none⟩)
              | 7 => v = .int .i64 t.err
              | 8 => v = .pointer (some ⟨q6, 1, none⟩)
              | 9 => v = .int .i64 t.err
              | 10 => v = .bool false
              | 11 => v = .bool false
              | 12 => v = .bool false
              | 13 => v = .pointer (some ⟨p, 0, none⟩)
              | 14 => v = .int .i64 t.done
              | 15 => v = .agg #[.string ⟨l2.toArray⟩, .int .i64 t.err]
              | 16 => v = .int .i64 t.done
              | 17 => v = .bool false
              | 18 => v = .bool false
              | 19 => v = .bool false
              | 20 => v = .pointer (some ⟨p, 0, none⟩)
              | 21 => v = .int .i64 (t.left.length : Nat)
              | 22 => v = .pointer (some ⟨q6, 0, none⟩)
              | 23 => v = .string ⟨l2.toArray⟩
              | 24 => v = .int .i64 (l2.length : Nat)
              | 25 => v = .bool false
              | 26 => v = .bool false
              | 27 => v = undef
              | 28 => v = undef
              | 29 => v = undef
              | 30 => v = (Value.bool false)
              | _ => v = (Value.bool false)
              ) [2] (fun n w => RD w p (if n = 0 then st else t)) (by kernel_rfl) (fun _ _ _ h k => But.trans h k) (fun a => Ext.refl a) (fun _ _ h => h.but p) (fun _ _ _ h hs => RD.ext hs h) (Ext.drew _) hr6 ?_ ?_ ?_ ?_
          · intro iop v wa wb hF hL
            cases iop with
            | zero => exact hF
            | succ iop =>
              cases iop with
              | zero => exact hF
              | succ iop =>
                cases iop with
                | zero => exact hF
                | succ iop =>
                  cases iop with
                  | zero => exact hF
                  | succ iop =>
                    cases iop with
                    | zero => exact hF
                    | succ iop =>
                      cases iop with
                      | zero => exact hF
                      | succ iop =>
                        cases iop with
                        | zero => exact hF
                        | succ iop =>
                          cases iop with
                          | zero => exact hF
                          | succ iop =>
                            cases iop with
                            | zero => exact hF
                            | succ iop =>
                              cases iop with
                              | zero => exact hF
                              | succ iop =>
                                cases iop with
                                | zero => exact hF
                                | succ iop =>
                                  cases iop with
                                  | zero => exact hF
                                  | succ iop =>
                                    cases iop with
                                    | zero => exact hF
                                    | succ iop =>
                                      cases iop with
                                      | zero => exact hF
                                      | succ iop =>
                                        cases iop with
                                        | zero => exact hF
                                        | succ iop =>
                                          cases iop with
                                          | zero => exact hF
                                          | succ iop =>
                                            cases iop with
                                            | zero => exact hF
                                            | succ iop =>
                                              cases iop with
                                              | zero => exact hF
                                              | succ iop =>
                                                cases iop with
                                                | zero => exact hF
                                                | succ iop =>
                                                  cases iop with
                                                  | zero => exact hF
                                                  | succ iop =>
                                                    cases iop with
                                                    | zero => exact hF
                                                    | succ iop =>
                                                      cases iop with
                                                      | zero => exact hF
                                                      | succ iop =>
                                                        cases iop with
                                                        | zero => exact hF
                                                        | succ iop =>
                                                          cases iop with
                                                          | zero => exact hF
                                                          | succ iop =>
                                                            cases iop with
                                                            | zero => exact hF
                                                            | succ iop =>
                                                              cases iop with
                                                              | zero => exact hF
                                                              | succ iop =>
                                                                cases iop with
                                                                | zero => exact hF
                                                                | succ iop =>
                                                                  cases iop with
                                                                  | zero => exact hF
                                                                  | succ iop =>
                                                                    cases iop with
                                                                    | zero => exact hF
                                                                    | succ iop =>
                                                                      cases iop with
                                                                      | zero => exact hF
                                                                      | succ iop =>
                                                                        cases iop with
                                                                        | zero => exact hF
                                                                        | succ iop =>
                                                                          exact hF
          · refine Obls2.cons ?_ (Obls2.cons ?_ (Obls2.cons ?_ (Obls2.cons ?_ (Obls2.cons ?_ (Obls2.cons ?_ (Obls2.cons ?_ (Obls2.cons ?_ (Obls2.cons ?_ (Obls2.cons ?_ (Obls2.cons ?_ (Obls2.cons ?_ (Obls2.cons ?_ (Obls2.cons ?_ (Obls2.cons ?_ (Obls2.cons ?_ (Obls2.cons ?_ (Obls2.cons ?_ (Obls2.cons ?_ (Obls2.cons ?_ (Obls2.cons ?_ (Obls2.cons ?_ (Obls2.cons ?_ (Obls2.cons ?_ (Obls2.cons ?_ (Obls2.cons ?_ (Obls2.cons ?_ (Obls2.cons ?_ (Obls2.cons ?_ (Obls2.cons ?_ (Obls2.cons ?_ (Obls2.cons ?_ (Obls2.nil))))))))))))))))))))))))))))))))
            · intro ev wy ls hp hl hS hbh hk hd
              rw [if_neg (by decide)]
              have hc2 : ls 2 = false := by
                cases hq : ls 2 with
                | false => rfl
                | true => exact absurd (hbh.closed 2 _ rfl (hq) 0 (by decide)) (by rw [hbh.notyet]; decide)
              have hst := hS
              rw [show stage [2] ls = 0 from by simp [stage, List.filter, hc2]] at hst
              clear hc2 hS hbh
              have e5 : ev (.tmp 5) = .pointer (some ⟨p, 0, none⟩) := hk 5 (by decide)
              clear hk
              clear hd
              exact Yield.mv rfl ⟨Ext.refl _, e5⟩
            · intro ev wy ls hp hl hS hbh hk hd
              rw [if_neg (by decide)]
              have hc2 : ls 2 = false := by
                cases hq : ls 2 with
                | false => rfl
                | true => exact absurd (hbh.closed 2 _ rfl (hq) 1 (by decide)) (by rw [hbh.notyet]; decide)
              have hst := hS
              rw [show stage [2] ls = 0 from by simp [stage, List.filter, hc2]] at hst
              clear hc2 hS hbh
              have e8 : ev (.tmp 8) = .pointer (some ⟨q8, 0, none⟩) := hk 8 (by decide)
              clear hk
              clear hd
              exact Yield.load rfl e8 (load_part wy q8 ⟨K, N, M, S, I⟩ (heap_frozen H8 hl hn8)) ⟨Ext.refl _, rfl⟩
            · intro ev wy ls hp hl hS hbh hk hd
              rw [if_pos (by decide)]
              have hc2 : ls 2 = false := hbh.notyet
              have hst := hS
              rw [show stage [2] ls = 0 from by simp [stage, List.filter, hc2]] at hst
              have hup : stage [2] (upd ls 2) = 1 := by simp [stage, List.filter, upd, hc2]
              clear hc2 hS hbh
              have e46 : ev (.tmp 46) = .pointer (some ⟨p, 0, none⟩) := hk 46 (by decide)
              have e47 : ev (.tmp 47) = .agg #[.int .i64 K, .int .i64 N, .int .i64 M, .string ⟨S.toArray⟩, .bool I] := hk 47 (by decide)
              clear hk
              clear hd
              refine Yield.call rfl hp Try.func34 rfl (by kernel_rfl) ?_
              simp only [List.map_toArray, List.map_cons, List.map_nil, e46, e47]
              exact (hread wy (by simpa using hst)).mono fun e w' ⟨he, hB, hr⟩ => ⟨_, he, hB, rfl, by rw [hup]; simpa using hr⟩
            · intro ev wy ls hp hl hS hbh hk hd
              rw [if_neg (by decide)]
              clear hS hbh
              have e10 : ev (.tmp 10) = .pointer (some ⟨q10, 0, none⟩) := hk 10 (by decide)
              clear hk
              clear hd
              exact Yield.load rfl e10 (load_part wy q10 ⟨QK, QN, QM, QS, QI⟩ (heap_frozen H10 hl hn10)) ⟨Ext.refl _, rfl⟩
            · intro ev wy ls hp hl hS hbh hk hd
              rw [if_neg (by decide)]
              have hc2 : ls 2 = true := hbh.ready 2 (by decide)
              have hst := hS
              rw [show stage [2] ls = 1 from by simp [stage, List.filter, hc2]] at hst
              clear hc2 hS hbh
              have e48 : ev (.tmp 48) = .agg #[.int .i64 QK, .int .i64 QN, .int .i64 QM, .string ⟨QS.toArray⟩, .bool QI] := hk 48 (by decide)
              have e49 : ev (.tmp 49) = .agg #[.int .i64 QK, .int .i64 QN, .int .i64 QM, .string ⟨QS.toArray⟩, .bool QI] := hk 49 (by decide)
              clear hk
              clear hd
              exact Yield.op (v := .bool false) (w' := wy) (by simp [execOp, go_sem, e48, e49]) ⟨Ext.refl _, rfl⟩
            · intro ev wy ls hp hl hS hbh hk hd
              rw [if_neg (by decide)]
              have hc2 : ls 2 = true := hbh.ready 2 (by decide)
              have hst := hS
              rw [show stage [2] ls = 1 from by simp [stage, List.filter, hc2]] at hst
              clear hc2 hS hbh
              have e50 : ev (.tmp 50) = .bool false := hk 50 (by decide)
              clear hk
              clear hd
              exact Yield.mv rfl ⟨Ext.refl _, e50⟩
            · intro ev wy ls hp hl hS hbh hk hd
              rw [if_neg (by decide)]
              have hc2 : ls 2 = true := hbh.closed 5 _ rfl (hbh.ready 5 (by decide)) 2 (by decide)
              have hst := hS
              rw [show stage [2] ls = 1 from by simp [stage, List.filter, hc2]] at hst
              clear hc2 hS hbh
              have e5 : ev (.tmp 5) = .pointer (some ⟨p, 0, none⟩) := hk 5 (by decide)
              clear hk
              refine ⟨fun _ _ _ => ?_, fun _ hx hne => absurd hx hne⟩
              clear hd
              exact Yield.mv rfl ⟨Ext.refl _, e5⟩
            · intro ev wy ls hp hl hS hbh hk hd
              rw [if_neg (by decide)]
              have hc2 : ls 2 = true := hbh.closed 5 _ rfl (hbh.ready 5 (by decide)) 2 (by decide)
              have hst := hS
              rw [show stage [2] ls = 1 from by simp [stage, List.filter, hc2]] at hst
              clear hc2 hS hbh
              have e52 : ev (.tmp 52) = .pointer (some ⟨p, 0, none⟩) := hk 52 (by decide)
              clear hk
              refine ⟨fun _ _ _ => ?_, fun _ hx hne => absurd hx hne⟩
              clear hd
              refine Yield.call rfl hp Try.func35 rfl (by kernel_rfl) ?_
              simp only [List.map_toArray, List.map_cons, List.map_nil, e52]
              exact (errE p t _ (by simpa using hst)).mono fun _ _ ⟨he, hb⟩ => ⟨_, he, hb, by first | rfl | simp⟩
            · intro ev wy ls hp hl hS hbh hk hd
              rw [if_neg (by decide)]
              have hc2 : ls 2 = true := hbh.closed 5 _ rfl (hbh.ready 5 (by decide)) 2 (by decide)
              have hst := hS
              rw [show stage [2] ls = 1 from by simp [stage, List.filter, hc2]] at hst
              clear hc2 hS hbh
              have e6 : ev (.tmp 6) = .pointer (some ⟨q6, 0, none⟩) := hk 6 (by decide)
              clear hk
              refine ⟨fun _ _ _ => ?_, fun _ hx hne => absurd hx hne⟩
              clear hd
              exact Yield.op (v := .pointer (some ⟨q6, 1, none⟩)) (w' := wy) (by simp [execOp, go_sem, e6]) ⟨Ext.refl _, rfl⟩
            · intro ev wy ls hp hl hS hbh hk hd
              rw [if_neg (by decide)]
              have hc2 : ls 2 = true := hbh.closed 5 _ rfl (hbh.ready 5 (by decide)) 2 (by decide)
              have hst := hS
              rw [show stage [2] ls = 1 from by simp [stage, List.filter, hc2]] at hst
              clear hc2 hS hbh
              have e54 : ev (.tmp 54) = .pointer (some ⟨q6, 1, none⟩) := hk 54 (by decide)
              clear hk
              refine ⟨fun _ _ _ => ?_, fun _ hx hne => absurd hx hne⟩
              clear hd
              exact Yield.load rfl e54 (load_err wy q6 l2 t.err (heap_frozen H6 hl hn6)) ⟨Ext.refl _, rfl⟩
            · intro ev wy ls hp hl hS hbh hk hd
              rw [if_neg (by decide)]
              have hc2 : ls 2 = true := hbh.closed 5 _ rfl (hbh.ready 5 (by decide)) 2 (by decide)
              have hst := hS
              rw [show stage [2] ls = 1 from by simp [stage, List.filter, hc2]] at hst
              clear hc2 hS hbh
              have e53 : ev (.tmp 53) = .int .i64 t.err := hk 53 (by decide)
              have e55 : ev (.tmp 55) = .int .i64 t.err := hk 55 (by decide)
              clear hk
              refine ⟨fun _ _ _ => ?_, fun _ hx hne => absurd hx hne⟩
              clear hd
              exact Yield.op (v := .bool false) (w' := wy) (by simp [execOp, go_sem, e53, e55]) ⟨Ext.refl _, rfl⟩
            · intro ev wy ls hp hl hS hbh hk hd
              rw [if_neg (by decide)]
              have hc2 : ls 2 = true := hbh.closed 5 _ rfl (hbh.ready 5 (by decide)) 2 (by decide)
              have hst := hS
              rw [show stage [2] ls = 1 from by simp [stage, List.filter, hc2]] at hst
              clear hc2 hS hbh
              have e51 : ev (.tmp 51) = .bool false := hk 51 (by decide)
              have e56 : ev (.tmp 56) = .bool false := hk 56 (by decide)
              clear hk
              clear hd
              exact Yield.pick (t := false) rfl e51 ⟨Ext.refl _, e56⟩
            · intro ev wy ls hp hl hS hbh hk hd
              rw [if_neg (by decide)]
              have hc2 : ls 2 = true := hbh.closed 5 _ rfl (hbh.closed 11 _ rfl (hbh.ready 11 (by decide)) 5 (by decide)) 2 (by decide)
              have hst := hS
              rw [show stage [2] ls = 1 from by simp [stage, List.filter, hc2]] at hst
              clear hc2 hS hbh
              have e57 : ev (.tmp 57) = .bool false := hk 57 (by decide)
              clear hk
              clear hd
              exact Yield.mv rfl ⟨Ext.refl _, e57⟩
            · intro ev wy ls hp hl hS hbh hk hd
              rw [if_neg (by decide)]
              have hc2 : ls 2 = true := hbh.closed 5 _ rfl (hbh.closed 11 _ rfl (hbh.closed 12 _ rfl (hbh.ready 12 (by decide)) 11 (by decide)) 5 (by decide)) 2 (by decide)
              have hst := hS
              rw [show stage [2] ls = 1 from by simp [stage, List.filter, hc2]] at hst
              clear hc2 hS hbh
              have e5 : ev (.tmp 5) = .pointer (some ⟨p, 0, none⟩) := hk 5 (by decide)
              clear hk
              refine ⟨fun _ _ _ => ?_, fun _ hx hne => absurd hx hne⟩
              clear hd
              exact Yield.mv rfl ⟨Ext.refl _, e5⟩
            · intro ev wy ls hp hl hS hbh hk hd
              rw [if_neg (by decide)]
              have hc2 : ls 2 = true := hbh.closed 5 _ rfl (hbh.closed 11 _ rfl (hbh.closed 12 _ rfl (hbh.ready 12 (by decide)) 11 (by decide)) 5 (by decide)) 2 (by decide)
              have hst := hS
              rw [show stage [2] ls = 1 from by simp [stage, List.filter, hc2]] at hst
              clear hc2 hS hbh
              have e59 : ev (.tmp 59) = .pointer (some ⟨p, 0, none⟩) := hk 59 (by decide)
              clear hk
              refine ⟨fun _ _ _ => ?_, fun _ hx hne => absurd hx hne⟩
              clear hd
              refine Yield.call rfl hp Try.func36 rfl (by kernel_rfl) ?_
              simp only [List.map_toArray, List.map_cons, List.map_nil, e59]
              exact (endE p t _ (by simpa using hst)).mono fun _ _ ⟨he, hb⟩ => ⟨_, he, hb, by first | rfl | simp⟩
            · intro ev wy ls hp hl hS hbh hk hd
              rw [if_neg (by decide)]
              have hc2 : ls 2 = true := hbh.closed 5 _ rfl (hbh.closed 11 _ rfl (hbh.closed 12 _ rfl (hbh.ready 12 (by decide)) 11 (by decide)) 5 (by decide)) 2 (by decide)
              have hst := hS
              rw [show stage [2] ls = 1 from by simp [stage, List.filter, hc2]] at hst
              clear hc2 hS hbh
              have e6 : ev (.tmp 6) = .pointer (some ⟨q6, 0, none⟩) := hk 6 (by decide)
              clear hk
              refine ⟨fun _ _ _ => ?_, fun _ hx hne => absurd hx hne⟩
              clear hd
              exact Yield.load rfl e6 (load_ref wy q6 l2 t.err (heap_frozen H6 hl hn6)) ⟨Ext.refl _, rfl⟩
            · intro ev wy ls hp hl hS hbh hk hd
              rw [if_neg (by decide)]
              have hc2 : ls 2 = true := hbh.closed 5 _ rfl (hbh.closed 11 _ rfl (hbh.closed 12 _ rfl (hbh.ready 12 (by decide)) 11 (by decide)) 5 (by decide)) 2 (by decide)
              have hst := hS
              rw [show stage [2] ls = 1 from by simp [stage, List.filter, hc2]] at hst
              clear hc2 hS hbh
              have e61 : ev (.tmp 61) = .agg #[.string ⟨l2.toArray⟩, .int .i64 t.err] := hk 61 (by decide)
              clear hk
              refine ⟨fun _ _ _ => ?_, fun _ hx hne => absurd hx hne⟩
              clear hd
              refine Yield.call rfl hp Try.func37 rfl (by kernel_rfl) ?_
              simp only [List.map_toArray, List.map_cons, List.map_nil, e61]
              exact (endRef_any l2 t _ hs2 (by omega)).mono fun _ _ ⟨he, hb⟩ => ⟨_, he, hb, by first | rfl | simp⟩
            · intro ev wy ls hp hl hS hbh hk hd
              rw [if_neg (by decide)]
              have hc2 : ls 2 = true := hbh.closed 5 _ rfl (hbh.closed 11 _ rfl (hbh.closed 12 _ rfl (hbh.ready 12 (by decide)) 11 (by decide)) 5 (by decide)) 2 (by decide)
              have hst := hS
              rw [show stage [2] ls = 1 from by simp [stage, List.filter, hc2]] at hst
              clear hc2 hS hbh
              have e60 : ev (.tmp 60) = .int .i64 t.done := hk 60 (by decide)
              have e62 : ev (.tmp 62) = .int .i64 t.done := hk 62 (by decide)
              clear hk
              refine ⟨fun _ _ _ => ?_, fun _ hx hne => absurd hx hne⟩
              clear hd
              exact Yield.op (v := .bool false) (w' := wy) (by simp [execOp, go_sem, e60, e62]) ⟨Ext.refl _, rfl⟩
            · intro ev wy ls hp hl hS hbh hk hd
              rw [if_neg (by decide)]
              have hc2 : ls 2 = true := hbh.closed 5 _ rfl (hbh.closed 11 _ rfl (hbh.closed 12 _ rfl (hbh.ready 12 (by decide)) 11 (by decide)) 5 (by decide)) 2 (by decide)
              have hst := hS
              rw [show stage [2] ls = 1 from by simp [stage, List.filter, hc2]] at hst
              clear hc2 hS hbh
              have e58 : ev (.tmp 58) = .bool false := hk 58 (by decide)
              have e63 : ev (.tmp 63) = .bool false := hk 63 (by decide)
              clear hk
              clear hd
              exact Yield.pick (t := false) rfl e58 ⟨Ext.refl _, e63⟩
            · intro ev wy ls hp hl hS hbh hk hd
              rw [if_neg (by decide)]
              have hc2 : ls 2 = true := hbh.closed 5 _ rfl (hbh.closed 11 _ rfl (hbh.closed 12 _ rfl (hbh.closed 16 _ rfl (hbh.ready 16 (by decide)) 12 (by decide)) 11 (by decide)) 5 (by decide)) 2 (by decide)
              have hst := hS
              rw [show stage [2] ls = 1 from by simp [stage, List.filter, hc2]] at hst
              clear hc2 hS hbh
              have e64 : ev (.tmp 64) = .bool false := hk 64 (by decide)
              clear hk
              clear hd
              exact Yield.mv rfl ⟨Ext.refl _, e64⟩
            · intro ev wy ls hp hl hS hbh hk hd
              rw [if_neg (by decide)]
              have hc2 : ls 2 = true := hbh.closed 5 _ rfl (hbh.closed 11 _ rfl (hbh.closed 12 _ rfl (hbh.closed 16 _ rfl (hbh.closed 19 _ rfl (hbh.ready 19 (by decide)) 16 (by decide)) 12 (by decide)) 11 (by decide)) 5 (by decide)) 2 (by decide)
              have hst := hS
              rw [show stage [2] ls = 1 from by simp [stage, List.filter, hc2]] at hst
              clear hc2 hS hbh
              have e5 : ev (.tmp 5) = .pointer (some ⟨p, 0, none⟩) := hk 5 (by decide)
              clear hk
              refine ⟨fun _ _ _ => ?_, fun _ hx hne => absurd hx hne⟩
              clear hd
              exact Yield.mv rfl ⟨Ext.refl _, e5⟩
            · intro ev wy ls hp hl hS hbh hk hd
              rw [if_neg (by decide)]
              have hc2 : ls 2 = true := hbh.closed 5 _ rfl (hbh.closed 11 _ rfl (hbh.closed 12 _ rfl (hbh.closed 16 _ rfl (hbh.closed 19 _ rfl (hbh.ready 19 (by decide)) 16 (by decide)) 12 (by decide)) 11 (by decide)) 5 (by decide)) 2 (by decide)
              have hst := hS
              rw [show stage [2] ls = 1 from by simp [stage, List.filter, hc2]] at hst
              clear hc2 hS hbh
              have e66 : ev (.tmp 66) = .pointer (some ⟨p, 0, none⟩) := hk 66 (by decide)
              clear hk
              refine ⟨fun _ _ _ => ?_, fun _ hx hne => absurd hx hne⟩
              clear hd
              refine Yield.call rfl hp Try.func38 rfl (by kernel_rfl) ?_
              simp only [List.map_toArray, List.map_cons, List.map_nil, e66]
              exact (leftE2 p t _ (by simpa using hst)).mono fun _ _ ⟨he, hb⟩ => ⟨_, he, hb, by first | rfl | simp⟩
            · intro ev wy ls hp hl hS hbh hk hd
              rw [if_neg (by decide)]
              have hc2 : ls 2 = true := hbh.closed 5 _ rfl (hbh.closed 11 _ rfl (hbh.closed 12 _ rfl (hbh.closed 16 _ rfl (hbh.closed 19 _ rfl (hbh.ready 19 (by decide)) 16 (by decide)) 12 (by decide)) 11 (by decide)) 5 (by decide)) 2 (by decide)
              have hst := hS
              rw [show stage [2] ls = 1 from by simp [stage, List.filter, hc2]] at hst
              clear hc2 hS hbh
              have e6 : ev (.tmp 6) = .pointer (some ⟨q6, 0, none⟩) := hk 6 (by decide)
              clear hk
              refine ⟨fun _ _ _ => ?_, fun _ hx hne => absurd hx hne⟩
              clear hd
              exact Yield.op (v := .pointer (some ⟨q6, 0, none⟩)) (w' := wy) (by simp [execOp, go_sem, e6]) ⟨Ext.refl _, rfl⟩
            · intro ev wy ls hp hl hS hbh hk hd
              rw [if_neg (by decide)]
              have hc2 : ls 2 = true := hbh.closed 5 _ rfl (hbh.closed 11 _ rfl (hbh.closed 12 _ rfl (hbh.closed 16 _ rfl (hbh.closed 19 _ rfl (hbh.ready 19 (by decide)) 16 (by decide)) 12 (by decide)) 11 (by decide)) 5 (by decide)) 2 (by decide)
              have hst := hS
              rw [show stage [2] ls = 1 from by simp [stage, List.filter, hc2]] at hst
              clear hc2 hS hbh
              have e68 : ev (.tmp 68) = .pointer (some ⟨q6, 0, none⟩) := hk 68 (by decide)
              clear hk
              refine ⟨fun _ _ _ => ?_, fun _ hx hne => absurd hx hne⟩
              clear hd
              exact Yield.load rfl e68 (load_str wy q6 l2 t.err (heap_frozen H6 hl hn6)) ⟨Ext.refl _, rfl⟩
            · intro ev wy ls hp hl hS hbh hk hd
              rw [if_neg (by decide)]
              have hc2 : ls 2 = true := hbh.closed 5 _ rfl (hbh.closed 11 _ rfl (hbh.closed 12 _ rfl (hbh.closed 16 _ rfl (hbh.closed 19 _ rfl (hbh.ready 19 (by decide)) 16 (by decide)) 12 (by decide)) 11 (by decide)) 5 (by decide)) 2 (by decide)
              have hst := hS
              rw [show stage [2] ls = 1 from by simp [stage, List.filter, hc2]] at hst
              clear hc2 hS hbh
              have e69 : ev (.tmp 69) = .string ⟨l2.toArray⟩ := hk 69 (by decide)
              clear hk
              refine ⟨fun _ _ _ => ?_, fun _ hx hne => absurd hx hne⟩
              clear hd
              exact Yield.op (v := .int .i64 (l2.length : Nat)) (w' := wy) (by simp [execOp, go_sem, e69]) ⟨Ext.refl _, rfl⟩
            · intro ev wy ls hp hl hS hbh hk hd
              rw [if_neg (by decide)]
              have hc2 : ls 2 = true := hbh.closed 5 _ rfl (hbh.closed 11 _ rfl (hbh.closed 12 _ rfl (hbh.closed 16 _ rfl (hbh.closed 19 _ rfl (hbh.ready 19 (by decide)) 16 (by decide)) 12 (by decide)) 11 (by decide)) 5 (by decide)) 2 (by decide)
              have hst := hS
              rw [show stage [2] ls = 1 from by simp [stage, List.filter, hc2]] at hst
              clear hc2 hS hbh
              have e67 : ev (.tmp 67) = .int .i64 (t.left.length : Nat) := hk 67 (by decide)
              have e70 : ev (.tmp 70) = .int .i64 (l2.length : Nat) := hk 70 (by decide)
              clear hk
              refine ⟨fun _ _ _ => ?_, fun _ hx hne => absurd hx hne⟩
              clear hd
              exact Yield.op (w' := wy) (by simp [execOp, go_sem, e67, e70, hlen]) ⟨Ext.refl _, rfl⟩
            · intro ev wy ls hp hl hS hbh hk hd
              rw [if_neg (by decide)]
              have hc2 : ls 2 = true := hbh.closed 5 _ rfl (hbh.closed 11 _ rfl (hbh.closed 12 _ rfl (hbh.closed 16 _ rfl (hbh.closed 19 _ rfl (hbh.ready 19 (by decide)) 16 (by decide)) 12 (by decide)) 11 (by decide)) 5 (by decide)) 2 (by decide)
              have hst := hS
              rw [show stage [2] ls = 1 from by simp [stage, List.filter, hc2]] at hst
              clear hc2 hS hbh
              have e71 : ev (.tmp 71) = .bool false := hk 71 (by decide)
              clear hk
              refine ⟨fun _ _ _ => ?_, fun _ hx hne => absurd hx hne⟩
              clear hd
              exact Yield.mv rfl ⟨Ext.refl _, e71⟩
            · intro ev wy ls hp hl hS hbh hk hd
              rw [if_neg (by decide)]
              have hc2 : ls 2 = true := hbh.closed 5 _ rfl (hbh.closed 11 _ rfl (hbh.closed 12 _ rfl (hbh.closed 16 _ rfl (hbh.closed 19 _ rfl (hbh.closed 26 _ rfl (hbh.ready 26 (by decide)) 19 (by decide)) 16 (by decide)) 12 (by decide)) 11 (by decide)) 5 (by decide)) 2 (by decide)
              have hst := hS
              rw [show stage [2] ls = 1 from by simp [stage, List.filter, hc2]] at hst
              clear hc2 hS hbh
              have e6 : ev (.tmp 6) = .pointer (some ⟨q6, 0, none⟩) := hk 6 (by decide)
              clear hk
              exact ⟨fun x hx he => (by rw [show x = .bool false from hx] at he; cases he), fun _ _ _ => rfl⟩
            · intro ev wy ls hp hl hS hbh hk hd
              rw [if_neg (by decide)]
              have hc2 : ls 2 = true := hbh.closed 5 _ rfl (hbh.closed 11 _ rfl (hbh.closed 12 _ rfl (hbh.closed 16 _ rfl (hbh.closed 19 _ rfl (hbh.closed 26 _ rfl (hbh.ready 26 (by decide)) 19 (by decide)) 16 (by decide)) 12 (by decide)) 11 (by decide)) 5 (by decide)) 2 (by decide)
              have hst := hS
              rw [show stage [2] ls = 1 from by simp [stage, List.filter, hc2]] at hst
              clear hc2 hS hbh
              have e73 : ev (.tmp 73) = undef := hk 73 (by decide)
              clear hk
              exact ⟨fun x hx he => (by rw [show x = .bool false from hx] at he; cases he), fun _ _ _ => rfl⟩
            · intro ev wy ls hp hl hS hbh hk hd
              rw [if_neg (by decide)]
              have hc2 : ls 2 = true := hbh.closed 5 _ rfl (hbh.closed 11 _ rfl (hbh.closed 12 _ rfl (hbh.closed 16 _ rfl (hbh.closed 19 _ rfl (hbh.closed 26 _ rfl (hbh.ready 26 (by decide)) 19 (by decide)) 16 (by decide)) 12 (by decide)) 11 (by decide)) 5 (by decide)) 2 (by decide)
              have hst := hS
              rw [show stage [2] ls = 1 from by simp [stage, List.filter, hc2]] at hst
              clear hc2 hS hbh
              have e74 : ev (.tmp 74) = undef := hk 74 (by decide)
              clear hk
              exact ⟨fun x hx he => (by rw [show x = .bool false from hx] at he; cases he), fun _ _ _ => rfl⟩
            · intro ev wy ls hp hl hS hbh hk hd
              rw [if_neg (by decide)]
              have hc2 : ls 2 = true := hbh.closed 5 _ rfl (hbh.closed 11 _ rfl (hbh.closed 12 _ rfl (hbh.closed 16 _ rfl (hbh.closed 19 _ rfl (hbh.ready 19 (by decide)) 16 (by decide)) 12 (by decide)) 11 (by decide)) 5 (by decide)) 2 (by decide)
              have hst := hS
              rw [show stage [2] ls = 1 from by simp [stage, List.filter, hc2]] at hst
              clear hc2 hS hbh
              have e72 : ev (.tmp 72) = .bool false := hk 72 (by decide)
              have e75 : ev (.tmp 75) = undef := hk 75 (by decide)
              clear hk
              refine ⟨fun _ _ _ => ?_, fun _ hx hne => absurd hx hne⟩
              clear hd
              exact Yield.pick (t := false) rfl e72 ⟨Ext.refl _, hp.const _⟩
            · intro ev wy ls hp hl hS hbh hk hd
              rw [if_neg (by decide)]
              have hc2 : ls 2 = true := hbh.closed 5 _ rfl (hbh.closed 11 _ rfl (hbh.closed 12 _ rfl (hbh.closed 16 _ rfl (hbh.closed 19 _ rfl (hbh.ready 19 (by decide)) 16 (by decide)) 12 (by decide)) 11 (by decide)) 5 (by decide)) 2 (by decide)
              have hst := hS
              rw [show stage [2] ls = 1 from by simp [stage, List.filter, hc2]] at hst
              clear hc2 hS hbh
              have e65 : ev (.tmp 65) = .bool false := hk 65 (by decide)
              have e76 : ev (.tmp 76) = (Value.bool false) := hk 76 (by decide)
              clear hk
              clear hd
              exact Yield.pick (t := false) rfl e65 ⟨Ext.refl _, e76⟩
          · decide
          · intro vals wz hz hS hv
            have g46 : vals 0 = .pointer (some ⟨p, 0, none⟩) := hv 0 (by decide)
            have g47 : vals 1 = .agg #[.int .i64 K, .int .i64 N, .int .i64 M, .string ⟨S.toArray⟩, .bool I] := hv 1 (by decide)
            have g48 : vals 2 = .agg #[.int .i64 QK, .int .i64 QN, .int .i64 QM, .string ⟨QS.toArray⟩, .bool QI] := hv 2 (by decide)
            have g49 : vals 3 = .agg #[.int .i64 QK, .int .i64 QN, .int .i64 QM, .string ⟨QS.toArray⟩, .bool QI] := hv 3 (by decide)
            have g50 : vals 4 = .bool false := hv 4 (by decide)
            have g51 : vals 5 = .bool false := hv 5 (by decide)
            have g52 : vals 6 = .pointer (some ⟨p, 0, none⟩) := hv 6 (by decide)
            have g53 : vals 7 = .int .i64 t.err := hv 7 (by decide)
            have g54 : vals 8 = .pointer (some ⟨q6, 1, none⟩) := hv 8 (by decide)
            have g55 : vals 9 = .int .i64 t.err := hv 9 (by decide)
            have g56 : vals 10 = .bool false := hv 10 (by decide)
            have g57 : vals 11 = .bool false := hv 11 (by decide)
            have g58 : vals 12 = .bool false := hv 12 (by decide)
            have g59 : vals 13 = .pointer (some ⟨p, 0, none⟩) := hv 13 (by decide)
            have g60 : vals 14 = .int .i64 t.done := hv 14 (by decide)
            have g61 : vals 15 = .agg #[.string ⟨l2.toArray⟩, .int .i64 t.err] := hv 15 (by decide)
            have g62 : vals 16 = .int .i64 t.done := hv 16 (by decide)
            have g63 : vals 17 = .bool false := hv 17 (by decide)
            have g64 : vals 18 = .bool false := hv 18 (by decide)
            have g65 : vals 19 = .bool false := hv 19 (by decide)
            have g66 : vals 20 = .pointer (some ⟨p, 0, none⟩) := hv 20 (by decide)
            have g67 : vals 21 = .int .i64 (t.left.length : Nat) := hv 21 (by decide)
            have g68 : vals 22 = .pointer (some ⟨q6, 0, none⟩) := hv 22 (by decide)
            have g69 : vals 23 = .string ⟨l2.toArray⟩ := hv 23 (by decide)
            have g70 : vals 24 = .int .i64 (l2.length : Nat) := hv 24 (by decide)
            have g71 : vals 25 = .bool false := hv 25 (by decide)
            have g72 : vals 26 = .bool false := hv 26 (by decide)
            have g73 : vals 27 = undef := hv 27 (by decide)
            have g74 : vals 28 = undef := hv 28 (by decide)
            have g75 : vals 29 = undef := hv 29 (by decide)
            have g76 : vals 30 = (Value.bool false) := hv 30 (by decide)
            have g77 : vals 31 = (Value.bool false) := hv 31 (by decide)
            clear hv
            simp only [putAll, Act.put, List.setIfInBounds_toArray, List.set_cons_zero, List.set_cons_succ, g46, g47, g48, g49, g50, g51, g52, g53, g54, g55, g56, g57, g58, g59, g60, g61, g62, g63, g64, g65, g66, g67, g68, g69, g70, g71, g72, g73, g74, g75, g76, g77]
            clear g46
            clear g47
            clear g48
            clear g49
            clear g50
            clear g51
            clear g52
            clear g53
            clear g54
            clear g55
            clear g56
            clear g57
            clear g58
            clear g59
            clear g60
            clear g61
            clear g62
            clear g63
            clear g64
            clear g65
            clear g66
            clear g67
            clear g68
            clear g69
            clear g70
            clear g71
            clear g72
            clear g73
            clear g74
            clear g75
            clear g76
            clear g77
            go_wp2_with fail
            go_roundw
            case rel => exact ⟨k + 1, l2, t, by omega, by go_num, by simpa [Hid] using hS, heap_frozen H6 hz hn6, hs2, by omega, Below.trans (B := W.heap.size) hE6 (hz.below hpW hE6.size)⟩
            case measure => simp [intOf]; omega
        · have herr : t.err ≠ 0 := fun h => hlen (by rw [hs2.live h])
          clear hq8 hq10 hlt8 hlt6 hs5 hq6lt
          refine wp_region_marked (by kernel_rfl) Ext (But p) (fun iop v w => match iop with
              | 0 => v = .pointer (some ⟨p, 0, none⟩)
              | 1 => v = .agg #[.int .i64 K, .int .i64 N, .int .i64 M, .string ⟨S.toArray⟩, .bool I]
              | 2 => v = .agg #[.int .i64 QK, .int .i64 QN, .int .i64 QM, .string ⟨QS.toArray⟩, .bool QI]
              | 3 => v = .agg #[.int .i64 QK, .int .i64 QN, .int .i64 QM, .string ⟨QS.toArray⟩, .bool QI]
              | 4 => v = .bool false
              | 5 => v = .bool false
              | 6 => v = .pointer (some ⟨p, 0, none⟩)
              | 7 => v = .int .i64 t.err
              | 8 => v = .pointer (some ⟨q6, 1, none⟩)
              | 9 => v = .int .i64 t.err
              | 10 => v = .bool false
              | 11 => v = .bool false
              | 12 => v = .bool false
              | 13 => v = .pointer (some ⟨p, 0, none⟩)
              | 14 => v = .int .i64 t.done
              | 15 => v = .agg #[.string ⟨l2.toArray⟩, .int .i64 t.err]
              | 16 => v = .int .i64 t.done
              | 17 => v = .bool false
              | 18 => v = .bool false
              | 19 => v = .bool false
              | 20 => v = .pointer (some ⟨p, 0, none⟩)
              | 21 => v = .int .i64 (t.left.length : Nat)
              | 22 => v = .pointer (some ⟨q6, 0, none⟩)
              | 23 => v = .string ⟨l2.toArray⟩
              | 24 => v = .int .i64 (l2.length : Nat)
              | 25 => v = .bool true
              | 26 => v = .bool true
              | 27 => v = .pointer (some ⟨q6, 1, none⟩)
              | 28 => v = .int .i64 t.err
              | 29 => v = .bool false
              | 30 => v = .bool false
              | _ => v = .bool false
              ) [2] (fun n w => RD w p (if n = 0 then st else t)) (by kernel_rfl) (fun _ _ _ h k => But.trans h k) (fun a => Ext.refl a) (fun _ _ h => h.but p) (fun _ _ _ h hs => RD.ext hs h) (Ext.drew _) hr6 ?_ ?_ ?_ ?_
          · intro iop v wa wb hF hL
            cases iop with
            | zero => exact hF
            | succ iop =>
              cases iop with
              | zero => exact hF
              | succ iop =>
                cases iop with
                | zero => exact hF
                | succ iop =>
                  cases iop with
                  | zero => exact hF
                  | succ iop =>
                    cases iop with
                    | zero => exact hF
                    | succ iop =>
                      cases iop with
                      | zero => exact hF
                      | succ iop =>
                        cases iop with
                        | zero => exact hF
                        | succ iop =>
                          cases iop with
                          | zero => exact hF
                          | succ iop =>
                            cases iop with
                            | zero => exact hF
                            | succ iop =>
                              cases iop with
                              | zero => exact hF
                              | succ iop =>
                                cases iop with
                                | zero => exact hF
                                | succ iop =>
                                  cases iop with
                                  | zero => exact hF
                                  | succ iop =>
                                    cases iop with
                                    | zero => exact hF
                                    | succ iop =>
                                      cases iop with
                                      | zero => exact hF
                                      | succ iop =>
                                        cases iop with
                                        | zero => exact hF
                                        | succ iop =>
                                          cases iop with
                                          | zero => exact hF
                                          | succ iop =>
                                            cases iop with
                                            | zero => exact hF
                                            | succ iop =>
                                              cases iop with
                                              | zero => exact hF
                                              | succ iop =>
                                                cases iop with
                                                | zero => exact hF
                                                | succ iop =>
                                                  cases iop with
                                                  | zero => exact hF
                                                  | succ iop =>
                                                    cases iop with
                                                    | zero => exact hF
                                                    | succ iop =>
                                                      cases iop with
                                                      | zero => exact hF
                                                      | succ iop =>
                                                        cases iop with
                                                        | zero => exact hF
                                                        | succ iop =>
                                                          cases iop with
                                                          | zero => exact hF
                                                          | succ iop =>
                                                            cases iop with
                                                            | zero => exact hF
                                                            | succ iop =>
                                                              cases iop with
                                                              | zero => exact hF
                                                              | succ iop =>
                                                                cases iop with
                                                                | zero => exact hF
                                                                | succ iop =>
                                                                  cases iop with
                                                                  | zero => exact hF
                                                                  | succ iop =>
                                                                    cases iop with
                                                                    | zero => exact hF
                                                                    | succ iop =>
                                                                      cases iop with
                                                                      | zero => exact hF
                                                                      | succ iop =>
                                                                        cases iop with
                                                                        | zero => exact hF
                                                                        | succ iop =>
                                                                          exact hF
          · refine Obls2.cons ?_ (Obls2.cons ?_ (Obls2.cons ?_ (Obls2.cons ?_ (Obls2.cons ?_ (Obls2.cons ?_ (Obls2.cons ?_ (Obls2.cons ?_ (Obls2.cons ?_ (Obls2.cons ?_ (Obls2.cons ?_ (Obls2.cons ?_ (Obls2.cons ?_ (Obls2.cons ?_ (Obls2.cons ?_ (Obls2.cons ?_ (Obls2.cons ?_ (Obls2.cons ?_ (Obls2.cons ?_ (Obls2.cons ?_ (Obls2.cons ?_ (Obls2.cons ?_ (Obls2.cons ?_ (Obls2.cons ?_ (Obls2.cons ?_ (Obls2.cons ?_ (Obls2.cons ?_ (Obls2.cons ?_ (Obls2.cons ?_ (Obls2.cons ?_ (Obls2.cons ?_ (Obls2.cons ?_ (Obls2.nil))))))))))))))))))))))))))))))))
            · intro ev wy ls hp hl hS hbh hk hd
              rw [if_neg (by decide)]
              have hc2 : ls 2 = false := by
                cases hq : ls 2 with
                | false => rfl
                | true => exact absurd (hbh.closed 2 _ rfl (hq) 0 (by decide)) (by rw [hbh.notyet]; decide)
              have hst := hS
              rw [show stage [2] ls = 0 from by simp [stage, List.filter, hc2]] at hst
              clear hc2 hS hbh
              have e5 : ev (.tmp 5) = .pointer (some ⟨p, 0, none⟩) := hk 5 (by decide)
              clear hk
              clear hd
              exact Yield.mv rfl ⟨Ext.refl _, e5⟩
            · intro ev wy ls hp hl hS hbh hk hd
              rw [if_neg (by decide)]
              have hc2 : ls 2 = false := by
                cases hq : ls 2 with
                | false => rfl
                | true => exact absurd (hbh.closed 2 _ rfl (hq) 1 (by decide)) (by rw [hbh.notyet]; decide)
              have hst := hS
              rw [show stage [2] ls = 0 from by simp [stage, List.filter, hc2]] at hst
              clear hc2 hS hbh
              have e8 : ev (.tmp 8) = .pointer (some ⟨q8, 0, none⟩) := hk 8 (by decide)
              clear hk
              clear hd
              exact Yield.load rfl e8 (load_part wy q8 ⟨K, N, M, S, I⟩ (heap_frozen H8 hl hn8)) ⟨Ext.refl _, rfl⟩
            · intro ev wy ls hp hl hS hbh hk hd
              rw [if_pos (by decide)]
              have hc2 : ls 2 = false := hbh.notyet
              have hst := hS
              rw [show stage [2] ls = 0 from by simp [stage, List.filter, hc2]] at hst
              have hup : stage [2] (upd ls 2) = 1 := by simp [stage, List.filter, upd, hc2]
              clear hc2 hS hbh
              have e46 : ev (.tmp 46) = .pointer (some ⟨p, 0, none⟩) := hk 46 (by decide)
              have e47 : ev (.tmp 47) = .agg #[.int .i64 K, .int .i64 N, .int .i64 M, .string ⟨S.toArray⟩, .bool I] := hk 47 (by decide)
              clear hk
              clear hd
              refine Yield.call rfl hp Try.func34 rfl (by kernel_rfl) ?_
              simp only [List.map_toArray, List.map_cons, List.map_nil, e46, e47]
              exact (hread wy (by simpa using hst)).mono fun e w' ⟨he, hB, hr⟩ => ⟨_, he, hB, rfl, by rw [hup]; simpa using hr⟩
            · intro ev wy ls hp hl hS hbh hk hd
              rw [if_neg (by decide)]
              clear hS hbh
              have e10 : ev (.tmp 10) = .pointer (some ⟨q10, 0, none⟩) := hk 10 (by decide)
              clear hk
              clear hd
              exact Yield.load rfl e10 (load_part wy q10 ⟨QK, QN, QM, QS, QI⟩ (heap_frozen H10 hl hn10)) ⟨Ext.refl _, rfl⟩
            · intro ev wy ls hp hl hS hbh hk hd
              rw [if_neg (by decide)]
              have hc2 : ls 2 = true := hbh.ready 2 (by decide)
              have hst := hS
              rw [show stage [2] ls = 1 from by simp [stage, List.filter, hc2]] at hst
              clear hc2 hS hbh
              have e48 : ev (.tmp 48) = .agg #[.int .i64 QK, .int .i64 QN, .int .i64 QM, .string ⟨QS.toArray⟩, .bool QI] := hk 48 (by decide)
              have e49 : ev (.tmp 49) = .agg #[.int .i64 QK, .int .i64 QN, .int .i64 QM, .string ⟨QS.toArray⟩, .bool QI] := hk 49 (by decide)
              clear hk
              clear hd
              exact Yield.op (v := .bool false) (w' := wy) (by simp [execOp, go_sem, e48, e49]) ⟨Ext.refl _, rfl⟩
            · intro ev wy ls hp hl hS hbh hk hd
              rw [if_neg (by decide)]
              have hc2 : ls 2 = true := hbh.ready 2 (by decide)
              have hst := hS
              rw [show stage [2] ls = 1 from by simp [stage, List.filter, hc2]] at hst
              clear hc2 hS hbh
              have e50 : ev (.tmp 50) = .bool false := hk 50 (by decide)
              clear hk
              clear hd
              exact Yield.mv rfl ⟨Ext.refl _, e50⟩
            · intro ev wy ls hp hl hS hbh hk hd
              rw [if_neg (by decide)]
              have hc2 : ls 2 = true := hbh.closed 5 _ rfl (hbh.ready 5 (by decide)) 2 (by decide)
              have hst := hS
              rw [show stage [2] ls = 1 from by simp [stage, List.filter, hc2]] at hst
              clear hc2 hS hbh
              have e5 : ev (.tmp 5) = .pointer (some ⟨p, 0, none⟩) := hk 5 (by decide)
              clear hk
              refine ⟨fun _ _ _ => ?_, fun _ hx hne => absurd hx hne⟩
              clear hd
              exact Yield.mv rfl ⟨Ext.refl _, e5⟩
            · intro ev wy ls hp hl hS hbh hk hd
              rw [if_neg (by decide)]
              have hc2 : ls 2 = true := hbh.closed 5 _ rfl (hbh.ready 5 (by decide)) 2 (by decide)
              have hst := hS
              rw [show stage [2] ls = 1 from by simp [stage, List.filter, hc2]] at hst
              clear hc2 hS hbh
              have e52 : ev (.tmp 52) = .pointer (some ⟨p, 0, none⟩) := hk 52 (by decide)
              clear hk
              refine ⟨fun _ _ _ => ?_, fun _ hx hne => absurd hx hne⟩
              clear hd
              refine Yield.call rfl hp Try.func35 rfl (by kernel_rfl) ?_
              simp only [List.map_toArray, List.map_cons, List.map_nil, e52]
              exact (errE p t _ (by simpa using hst)).mono fun _ _ ⟨he, hb⟩ => ⟨_, he, hb, by first | rfl | simp⟩
            · intro ev wy ls hp hl hS hbh hk hd
              rw [if_neg (by decide)]
              have hc2 : ls 2 = true := hbh.closed 5 _ rfl (hbh.ready 5 (by decide)) 2 (by decide)
              have hst := hS
              rw [show stage [2] ls = 1 from by simp [stage, List.filter, hc2]] at hst
              clear hc2 hS hbh
              have e6 : ev (.tmp 6) = .pointer (some ⟨q6, 0, none⟩) := hk 6 (by decide)
              clear hk
              refine ⟨fun _ _ _ => ?_, fun _ hx hne => absurd hx hne⟩
              clear hd
              exact Yield.op (v := .pointer (some ⟨q6, 1, none⟩)) (w' := wy) (by simp [execOp, go_sem, e6]) ⟨Ext.refl _, rfl⟩
            · intro ev wy ls hp hl hS hbh hk hd
              rw [if_neg (by decide)]
              have hc2 : ls 2 = true := hbh.closed 5 _ rfl (hbh.ready 5 (by decide)) 2 (by decide)
              have hst := hS
              rw [show stage [2] ls = 1 from by simp [stage, List.filter, hc2]] at hst
              clear hc2 hS hbh
              have e54 : ev (.tmp 54) = .pointer (some ⟨q6, 1, none⟩) := hk 54 (by decide)
              clear hk
              refine ⟨fun _ _ _ => ?_, fun _ hx hne => absurd hx hne⟩
              clear hd
              exact Yield.load rfl e54 (load_err wy q6 l2 t.err (heap_frozen H6 hl hn6)) ⟨Ext.refl _, rfl⟩
            · intro ev wy ls hp hl hS hbh hk hd
              rw [if_neg (by decide)]
              have hc2 : ls 2 = true := hbh.closed 5 _ rfl (hbh.ready 5 (by decide)) 2 (by decide)
              have hst := hS
              rw [show stage [2] ls = 1 from by simp [stage, List.filter, hc2]] at hst
              clear hc2 hS hbh
              have e53 : ev (.tmp 53) = .int .i64 t.err := hk 53 (by decide)
              have e55 : ev (.tmp 55) = .int .i64 t.err := hk 55 (by decide)
              clear hk
              refine ⟨fun _ _ _ => ?_, fun _ hx hne => absurd hx hne⟩
              clear hd
              exact Yield.op (v := .bool false) (w' := wy) (by simp [execOp, go_sem, e53, e55]) ⟨Ext.refl _, rfl⟩
            · intro ev wy ls hp hl hS hbh hk hd
              rw [if_neg (by decide)]
              have hc2 : ls 2 = true := hbh.closed 5 _ rfl (hbh.ready 5 (by decide)) 2 (by decide)
              have hst := hS
              rw [show stage [2] ls = 1 from by simp [stage, List.filter, hc2]] at hst
              clear hc2 hS hbh
              have e51 : ev (.tmp 51) = .bool false := hk 51 (by decide)
              have e56 : ev (.tmp 56) = .bool false := hk 56 (by decide)
              clear hk
              clear hd
              exact Yield.pick (t := false) rfl e51 ⟨Ext.refl _, e56⟩
            · intro ev wy ls hp hl hS hbh hk hd
              rw [if_neg (by decide)]
              have hc2 : ls 2 = true := hbh.closed 5 _ rfl (hbh.closed 11 _ rfl (hbh.ready 11 (by decide)) 5 (by decide)) 2 (by decide)
              have hst := hS
              rw [show stage [2] ls = 1 from by simp [stage, List.filter, hc2]] at hst
              clear hc2 hS hbh
              have e57 : ev (.tmp 57) = .bool false := hk 57 (by decide)
              clear hk
              clear hd
              exact Yield.mv rfl ⟨Ext.refl _, e57⟩
            · intro ev wy ls hp hl hS hbh hk hd
              rw [if_neg (by decide)]
              have hc2 : ls 2 = true := hbh.closed 5 _ rfl (hbh.closed 11 _ rfl (hbh.closed 12 _ rfl (hbh.ready 12 (by decide)) 11 (by decide)) 5 (by decide)) 2 (by decide)
              have hst := hS
              rw [show stage [2] ls = 1 from by simp [stage, List.filter, hc2]] at hst
              clear hc2 hS hbh
              have e5 : ev (.tmp 5) = .pointer (some ⟨p, 0, none⟩) := hk 5 (by decide)
              clear hk
              refine ⟨fun _ _ _ => ?_, fun _ hx hne => absurd hx hne⟩
              clear hd
              exact Yield.mv rfl ⟨Ext.refl _, e5⟩
            · intro ev wy ls hp hl hS hbh hk hd
              rw [if_neg (by decide)]
              have hc2 : ls 2 = true := hbh.closed 5 _ rfl (hbh.closed 11 _ rfl (hbh.closed 12 _ rfl (hbh.ready 12 (by decide)) 11 (by decide)) 5 (by decide)) 2 (by decide)
              have hst := hS
              rw [show stage [2] ls = 1 from by simp [stage, List.filter, hc2]] at hst
              clear hc2 hS hbh
              have e59 : ev (.tmp 59) = .pointer (some ⟨p, 0, none⟩) := hk 59 (by decide)
              clear hk
              refine ⟨fun _ _ _ => ?_, fun _ hx hne => absurd hx hne⟩
              clear hd
              refine Yield.call rfl hp Try.func36 rfl (by kernel_rfl) ?_
              simp only [List.map_toArray, List.map_cons, List.map_nil, e59]
              exact (endE p t _ (by simpa using hst)).mono fun _ _ ⟨he, hb⟩ => ⟨_, he, hb, by first | rfl | simp⟩
            · intro ev wy ls hp hl hS hbh hk hd
              rw [if_neg (by decide)]
              have hc2 : ls 2 = true := hbh.closed 5 _ rfl (hbh.closed 11 _ rfl (hbh.closed 12 _ rfl (hbh.ready 12 (by decide)) 11 (by decide)) 5 (by decide)) 2 (by decide)
              have hst := hS
              rw [show stage [2] ls = 1 from by simp [stage, List.filter, hc2]] at hst
              clear hc2 hS hbh
              have e6 : ev (.tmp 6) = .pointer (some ⟨q6, 0, none⟩) := hk 6 (by decide)
              clear hk
              refine ⟨fun _ _ _ => ?_, fun _ hx hne => absurd hx hne⟩
              clear hd
              exact Yield.load rfl e6 (load_ref wy q6 l2 t.err (heap_frozen H6 hl hn6)) ⟨Ext.refl _, rfl⟩
            · intro ev wy ls hp hl hS hbh hk hd
              rw [if_neg (by decide)]
              have hc2 : ls 2 = true := hbh.closed 5 _ rfl (hbh.closed 11 _ rfl (hbh.closed 12 _ rfl (hbh.ready 12 (by decide)) 11 (by decide)) 5 (by decide)) 2 (by decide)
              have hst := hS
              rw [show stage [2] ls = 1 from by simp [stage, List.filter, hc2]] at hst
              clear hc2 hS hbh
              have e61 : ev (.tmp 61) = .agg #[.string ⟨l2.toArray⟩, .int .i64 t.err] := hk 61 (by decide)
              clear hk
              refine ⟨fun _ _ _ => ?_, fun _ hx hne => absurd hx hne⟩
              clear hd
              refine Yield.call rfl hp Try.func37 rfl (by kernel_rfl) ?_
              simp only [List.map_toArray, List.map_cons, List.map_nil, e61]
              exact (endRef_any l2 t _ hs2 (by omega)).mono fun _ _ ⟨he, hb⟩ => ⟨_, he, hb, by first | rfl | simp⟩
            · intro ev wy ls hp hl hS hbh hk hd
              rw [if_neg (by decide)]
              have hc2 : ls 2 = true := hbh.closed 5 _ rfl (hbh.closed 11 _ rfl (hbh.closed 12 _ rfl (hbh.ready 12 (by decide)) 11 (by decide)) 5 (by decide)) 2 (by decide)
              have hst := hS
              rw [show stage [2] ls = 1 from by simp [stage, List.filter, hc2]] at hst
              clear hc2 hS hbh
              have e60 : ev (.tmp 60) = .int .i64 t.done := hk 60 (by decide)
              have e62 : ev (.tmp 62) = .int .i64 t.done := hk 62 (by decide)
              clear hk
              refine ⟨fun _ _ _ => ?_, fun _ hx hne => absurd hx hne⟩
              clear hd
              exact Yield.op (v := .bool false) (w' := wy) (by simp [execOp, go_sem, e60, e62]) ⟨Ext.refl _, rfl⟩
            · intro ev wy ls hp hl hS hbh hk hd
              rw [if_neg (by decide)]
              have hc2 : ls 2 = true := hbh.closed 5 _ rfl (hbh.closed 11 _ rfl (hbh.closed 12 _ rfl (hbh.ready 12 (by decide)) 11 (by decide)) 5 (by decide)) 2 (by decide)
              have hst := hS
              rw [show stage [2] ls = 1 from by simp [stage, List.filter, hc2]] at hst
              clear hc2 hS hbh
              have e58 : ev (.tmp 58) = .bool false := hk 58 (by decide)
              have e63 : ev (.tmp 63) = .bool false := hk 63 (by decide)
              clear hk
              clear hd
              exact Yield.pick (t := false) rfl e58 ⟨Ext.refl _, e63⟩
            · intro ev wy ls hp hl hS hbh hk hd
              rw [if_neg (by decide)]
              have hc2 : ls 2 = true := hbh.closed 5 _ rfl (hbh.closed 11 _ rfl (hbh.closed 12 _ rfl (hbh.closed 16 _ rfl (hbh.ready 16 (by decide)) 12 (by decide)) 11 (by decide)) 5 (by decide)) 2 (by decide)
              have hst := hS
              rw [show stage [2] ls = 1 from by simp [stage, List.filter, hc2]] at hst
              clear hc2 hS hbh
              have e64 : ev (.tmp 64) = .bool false := hk 64 (by decide)
              clear hk
              clear hd
              exact Yield.mv rfl ⟨Ext.refl _, e64⟩
            · intro ev wy ls hp hl hS hbh hk hd
              rw [if_neg (by decide)]
              have hc2 : ls 2 = true := hbh.closed 5 _ rfl (hbh.closed 11 _ rfl (hbh.closed 12 _ rfl (hbh.closed 16 _ rfl (hbh.closed 19 _ rfl (hbh.ready 19 (by decide)) 16 (by decide)) 12 (by decide)) 11 (by decide)) 5 (by decide)) 2 (by decide)
              have hst := hS
              rw [show stage [2] ls = 1 from by simp [stage, List.filter, hc2]] at hst
              clear hc2 hS hbh
              have e5 : ev (.tmp 5) = .pointer (some ⟨p, 0, none⟩) := hk 5 (by decide)
              clear hk
              refine ⟨fun _ _ _ => ?_, fun _ hx hne => absurd hx hne⟩
              clear hd
              exact Yield.mv rfl ⟨Ext.refl _, e5⟩
            · intro ev wy ls hp hl hS hbh hk hd
              rw [if_neg (by decide)]
              have hc2 : ls 2 = true := hbh.closed 5 _ rfl (hbh.closed 11 _ rfl (hbh.closed 12 _ rfl (hbh.closed 16 _ rfl (hbh.closed 19 _ rfl (hbh.ready 19 (by decide)) 16 (by decide)) 12 (by decide)) 11 (by decide)) 5 (by decide)) 2 (by decide)
              have hst := hS
              rw [show stage [2] ls = 1 from by simp [stage, List.filter, hc2]] at hst
              clear hc2 hS hbh
              have e66 : ev (.tmp 66) = .pointer (some ⟨p, 0, none⟩) := hk 66 (by decide)
              clear hk
              refine ⟨fun _ _ _ => ?_, fun _ hx hne => absurd hx hne⟩
              clear hd
              refine Yield.call rfl hp Try.func38 rfl (by kernel_rfl) ?_
              simp only [List.map_toArray, List.map_cons, List.map_nil, e66]
              exact (leftE2 p t _ (by simpa using hst)).mono fun _ _ ⟨he, hb⟩ => ⟨_, he, hb, by first | rfl | simp⟩
            · intro ev wy ls hp hl hS hbh hk hd
              rw [if_neg (by decide)]
              have hc2 : ls 2 = true := hbh.closed 5 _ rfl (hbh.closed 11 _ rfl (hbh.closed 12 _ rfl (hbh.closed 16 _ rfl (hbh.closed 19 _ rfl (hbh.ready 19 (by decide)) 16 (by decide)) 12 (by decide)) 11 (by decide)) 5 (by decide)) 2 (by decide)
              have hst := hS
              rw [show stage [2] ls = 1 from by simp [stage, List.filter, hc2]] at hst
              clear hc2 hS hbh
              have e6 : ev (.tmp 6) = .pointer (some ⟨q6, 0, none⟩) := hk 6 (by decide)
              clear hk
              refine ⟨fun _ _ _ => ?_, fun _ hx hne => absurd hx hne⟩
              clear hd
              exact Yield.op (v := .pointer (some ⟨q6, 0, none⟩)) (w' := wy) (by simp [execOp, go_sem, e6]) ⟨Ext.refl _, rfl⟩
            · intro ev wy ls hp hl hS hbh hk hd
              rw [if_neg (by decide)]
              have hc2 : ls 2 = true := hbh.closed 5 _ rfl (hbh.closed 11 _ rfl (hbh.closed 12 _ rfl (hbh.closed 16 _ rfl (hbh.closed 19 _ rfl (hbh.ready 19 (by decide)) 16 (by decide)) 12 (by decide)) 11 (by decide)) 5 (by decide)) 2 (by decide)
              have hst := hS
              rw [show stage [2] ls = 1 from by simp [stage, List.filter, hc2]] at hst
              clear hc2 hS hbh
              have e68 : ev (.tmp 68) = .pointer (some ⟨q6, 0, none⟩) := hk 68 (by decide)
              clear hk
              refine ⟨fun _ _ _ => ?_, fun _ hx hne => absurd hx hne⟩
              clear hd
              exact Yield.load rfl e68 (load_str wy q6 l2 t.err (heap_frozen H6 hl hn6)) ⟨Ext.refl _, rfl⟩
            · intro ev wy ls hp hl hS hbh hk hd
              rw [if_neg (by decide)]
              have hc2 : ls 2 = true := hbh.closed 5 _ rfl (hbh.closed 11 _ rfl (hbh.closed 12 _ rfl (hbh.closed 16 _ rfl (hbh.closed 19 _ rfl (hbh.ready 19 (by decide)) 16 (by decide)) 12 (by decide)) 11 (by decide)) 5 (by decide)) 2 (by decide)
              have hst := hS
              rw [show stage [2] ls = 1 from by simp [stage, List.filter, hc2]] at hst
              clear hc2 hS hbh
              have e69 : ev (.tmp 69) = .string ⟨l2.toArray⟩ := hk 69 (by decide)
              clear hk
              refine ⟨fun _ _ _ => ?_, fun _ hx hne => absurd hx hne⟩
              clear hd
              exact Yield.op (v := .int .i64 (l2.length : Nat)) (w' := wy) (by simp [execOp, go_sem, e69]) ⟨Ext.refl _, rfl⟩
            · intro ev wy ls hp hl hS hbh hk hd
              rw [if_neg (by decide)]
              have hc2 : ls 2 = true := hbh.closed 5 _ rfl (hbh.closed 11 _ rfl (hbh.closed 12 _ rfl (hbh.closed 16 _ rfl (hbh.closed 19 _ rfl (hbh.ready 19 (by decide)) 16 (by decide)) 12 (by decide)) 11 (by decide)) 5 (by decide)) 2 (by decide)
              have hst := hS
              rw [show stage [2] ls = 1 from by simp [stage, List.filter, hc2]] at hst
              clear hc2 hS hbh
              have e67 : ev (.tmp 67) = .int .i64 (t.left.length : Nat) := hk 67 (by decide)
              have e70 : ev (.tmp 70) = .int .i64 (l2.length : Nat) := hk 70 (by decide)
              clear hk
              refine ⟨fun _ _ _ => ?_, fun _ hx hne => absurd hx hne⟩
              clear hd
              exact Yield.op (w' := wy) (by simp [execOp, go_sem, e67, e70]; omega) ⟨Ext.refl _, rfl⟩
            · intro ev wy ls hp hl hS hbh hk hd
              rw [if_neg (by decide)]
              have hc2 : ls 2 = true := hbh.closed 5 _ rfl (hbh.closed 11 _ rfl (hbh.closed 12 _ rfl (hbh.closed 16 _ rfl (hbh.closed 19 _ rfl (hbh.ready 19 (by decide)) 16 (by decide)) 12 (by decide)) 11 (by decide)) 5 (by decide)) 2 (by decide)
              have hst := hS
              rw [show stage [2] ls = 1 from by simp [stage, List.filter, hc2]] at hst
              clear hc2 hS hbh
              have e71 : ev (.tmp 71) = .bool true := hk 71 (by decide)
              clear hk
              refine ⟨fun _ _ _ => ?_, fun _ hx hne => absurd hx hne⟩
              clear hd
              exact Yield.mv rfl ⟨Ext.refl _, e71⟩
            · intro ev wy ls hp hl hS hbh hk hd
              rw [if_neg (by decide)]
              have hc2 : ls 2 = true := hbh.closed 5 _ rfl (hbh.closed 11 _ rfl (hbh.closed 12 _ rfl (hbh.closed 16 _ rfl (hbh.closed 19 _ rfl (hbh.closed 26 _ rfl (hbh.ready 26 (by decide)) 19 (by decide)) 16 (by decide)) 12 (by decide)) 11 (by decide)) 5 (by decide)) 2 (by decide)
              have hst := hS
              rw [show stage [2] ls = 1 from by simp [stage, List.filter, hc2]] at hst
              clear hc2 hS hbh
              have e6 : ev (.tmp 6) = .pointer (some ⟨q6, 0, none⟩) := hk 6 (by decide)
              clear hk
              refine ⟨fun _ _ _ => ?_, fun _ hx hne => absurd hx hne⟩
              clear hd
              exact Yield.op (v := .pointer (some ⟨q6, 1, none⟩)) (w' := wy) (by simp [execOp, go_sem, e6]) ⟨Ext.refl _, rfl⟩
            · intro ev wy ls hp hl hS hbh hk hd
              rw [if_neg (by decide)]
              have hc2 : ls 2 = true := hbh.closed 5 _ rfl (hbh.closed 11 _ rfl (hbh.closed 12 _ rfl (hbh.closed 16 _ rfl (hbh.closed 19 _ rfl (hbh.closed 26 _ rfl (hbh.ready 26 (by decide)) 19 (by decide)) 16 (by decide)) 12 (by decide)) 11 (by decide)) 5 (by decide)) 2 (by decide)
              have hst := hS
              rw [show stage [2] ls = 1 from by simp [stage, List.filter, hc2]] at hst
              clear hc2 hS hbh
              have e73 : ev (.tmp 73) = .pointer (some ⟨q6, 1, none⟩) := hk 73 (by decide)
              clear hk
              refine ⟨fun _ _ _ => ?_, fun _ hx hne => absurd hx hne⟩
              clear hd
              exact Yield.load rfl e73 (load_err wy q6 l2 t.err (heap_frozen H6 hl hn6)) ⟨Ext.refl _, rfl⟩
            · intro ev wy ls hp hl hS hbh hk hd
              rw [if_neg (by decide)]
              have hc2 : ls 2 = true := hbh.closed 5 _ rfl (hbh.closed 11 _ rfl (hbh.closed 12 _ rfl (hbh.closed 16 _ rfl (hbh.closed 19 _ rfl (hbh.closed 26 _ rfl (hbh.ready 26 (by decide)) 19 (by decide)) 16 (by decide)) 12 (by decide)) 11 (by decide)) 5 (by decide)) 2 (by decide)
              have hst := hS
              rw [show stage [2] ls = 1 from by simp [stage, List.filter, hc2]] at hst
              clear hc2 hS hbh
              have e74 : ev (.tmp 74) = .int .i64 t.err := hk 74 (by decide)
              clear hk
              refine ⟨fun _ _ _ => ?_, fun _ hx hne => absurd hx hne⟩
              clear hd
              exact Yield.op (w' := wy) (by simp [execOp, go_sem, hp.const, e74, herr]) ⟨Ext.refl _, rfl⟩
            · intro ev wy ls hp hl hS hbh hk hd
              rw [if_neg (by decide)]
              have hc2 : ls 2 = true := hbh.closed 5 _ rfl (hbh.closed 11 _ rfl (hbh.closed 12 _ rfl (hbh.closed 16 _ rfl (hbh.closed 19 _ rfl (hbh.ready 19 (by decide)) 16 (by decide)) 12 (by decide)) 11 (by decide)) 5 (by decide)) 2 (by decide)
              have hst := hS
              rw [show stage [2] ls = 1 from by simp [stage, List.filter, hc2]] at hst
              clear hc2 hS hbh
              have e72 : ev (.tmp 72) = .bool true := hk 72 (by decide)
              have e75 : ev (.tmp 75) = .bool false := hk 75 (by decide)
              clear hk
              refine ⟨fun _ _ _ => ?_, fun _ hx hne => absurd hx hne⟩
              clear hd
              exact Yield.pick (t := true) rfl e72 ⟨Ext.refl _, e75⟩
            · intro ev wy ls hp hl hS hbh hk hd
              rw [if_neg (by decide)]
              have hc2 : ls 2 = true := hbh.closed 5 _ rfl (hbh.closed 11 _ rfl (hbh.closed 12 _ rfl (hbh.closed 16 _ rfl (hbh.closed 19 _ rfl (hbh.ready 19 (by decide)) 16 (by decide)) 12 (by decide)) 11 (by decide)) 5 (by decide)) 2 (by decide)
              have hst := hS
              rw [show stage [2] ls = 1 from by simp [stage, List.filter, hc2]] at hst
              clear hc2 hS hbh
              have e65 : ev (.tmp 65) = .bool false := hk 65 (by decide)
              have e76 : ev (.tmp 76) = .bool false := hk 76 (by decide)
              clear hk
              clear hd
              exact Yield.pick (t := false) rfl e65 ⟨Ext.refl _, e76⟩
          · decide
          · intro vals wz hz hS hv
            have g46 : vals 0 = .pointer (some ⟨p, 0, none⟩) := hv 0 (by decide)
            have g47 : vals 1 = .agg #[.int .i64 K, .int .i64 N, .int .i64 M, .string ⟨S.toArray⟩, .bool I] := hv 1 (by decide)
            have g48 : vals 2 = .agg #[.int .i64 QK, .int .i64 QN, .int .i64 QM, .string ⟨QS.toArray⟩, .bool QI] := hv 2 (by decide)
            have g49 : vals 3 = .agg #[.int .i64 QK, .int .i64 QN, .int .i64 QM, .string ⟨QS.toArray⟩, .bool QI] := hv 3 (by decide)
            have g50 : vals 4 = .bool false := hv 4 (by decide)
            have g51 : vals 5 = .bool false := hv 5 (by decide)
            have g52 : vals 6 = .pointer (some ⟨p, 0, none⟩) := hv 6 (by decide)
            have g53 : vals 7 = .int .i64 t.err := hv 7 (by decide)
            have g54 : vals 8 = .pointer (some ⟨q6, 1, none⟩) := hv 8 (by decide)
            have g55 : vals 9 = .int .i64 t.err := hv 9 (by decide)
            have g56 : vals 10 = .bool false := hv 10 (by decide)
            have g57 : vals 11 = .bool false := hv 11 (by decide)
            have g58 : vals 12 = .bool false := hv 12 (by decide)
            have g59 : vals 13 = .pointer (some ⟨p, 0, none⟩) := hv 13 (by decide)
            have g60 : vals 14 = .int .i64 t.done := hv 14 (by decide)
            have g61 : vals 15 = .agg #[.string ⟨l2.toArray⟩, .int .i64 t.err] := hv 15 (by decide)
            have g62 : vals 16 = .int .i64 t.done := hv 16 (by decide)
            have g63 : vals 17 = .bool false := hv 17 (by decide)
            have g64 : vals 18 = .bool false := hv 18 (by decide)
            have g65 : vals 19 = .bool false := hv 19 (by decide)
            have g66 : vals 20 = .pointer (some ⟨p, 0, none⟩) := hv 20 (by decide)
            have g67 : vals 21 = .int .i64 (t.left.length : Nat) := hv 21 (by decide)
            have g68 : vals 22 = .pointer (some ⟨q6, 0, none⟩) := hv 22 (by decide)
            have g69 : vals 23 = .string ⟨l2.toArray⟩ := hv 23 (by decide)
            have g70 : vals 24 = .int .i64 (l2.length : Nat) := hv 24 (by decide)
            have g71 : vals 25 = .bool true := hv 25 (by decide)
            have g72 : vals 26 = .bool true := hv 26 (by decide)
            have g73 : vals 27 = .pointer (some ⟨q6, 1, none⟩) := hv 27 (by decide)
            have g74 : vals 28 = .int .i64 t.err := hv 28 (by decide)
            have g75 : vals 29 = .bool false := hv 29 (by decide)
            have g76 : vals 30 = .bool false := hv 30 (by decide)
            have g77 : vals 31 = .bool false := hv 31 (by decide)
            clear hv
            simp only [putAll, Act.put, List.setIfInBounds_toArray, List.set_cons_zero, List.set_cons_succ, g46, g47, g48, g49, g50, g51, g52, g53, g54, g55, g56, g57, g58, g59, g60, g61, g62, g63, g64, g65, g66, g67, g68, g69, g70, g71, g72, g73, g74, g75, g76, g77]
            clear g46
            clear g47
            clear g48
            clear g49
            clear g50
            clear g51
            clear g52
            clear g53
            clear g54
            clear g55
            clear g56
            clear g57
            clear g58
            clear g59
            clear g60
            clear g61
            clear g62
            clear g63
            clear g64
            clear g65
            clear g66
            clear g67
            clear g68
            clear g69
            clear g70
            clear g71
            clear g72
            clear g73
            clear g74
            clear g75
            clear g76
            clear g77
            go_wp2_with fail
            go_roundw
            case rel => exact ⟨k + 1, l2, t, by omega, by go_num, by simpa [Hid] using hS, heap_frozen H6 hz hn6, hs2, by omega, Below.trans (B := W.heap.size) hE6 (hz.below hpW hE6.size)⟩
            case measure => simp [intOf]; omega
      · go_wp2_with fail
        refine (packAlive_any _).mono ?_
        rintro e w7 ⟨rfl, hb7⟩
        go_wp2_with fail
        go_ret
        exact ⟨rfl, hbr.trans hb7⟩

namespace packReads
theorem own : ownKnob Try.prog.godebug = none := by kernel_rfl
theorem laidOut : laidOutB Try.prog = true := by kernel_rfl
set_option linter.unusedVariables false in
set_option maxRecDepth 100000 in
theorem lifted (os : Os) (started : os.Started) (H : Type) (enc : TypeId × Value → H) :
    ReturnsInHanded {} Try.checked os 11 .any (Rows.packReadsSpec.pre6 enc Try.prog Try.f11 Rows.packReadsRow.domain false) (Rows.packReadsSpec.post enc Try.prog Try.f11 false true false false) := by
  refine returnsInHanded_of_change_sized (C := Try.checked) own started (by kernel_rfl) Try.func11
    (ChangeSpec.witness6 (enc := enc) (C := Try.checked) false ⟨#[], #[.slice none 0 0, .slice none 0 0], []⟩ 8 (by kernel_rfl) (by kernel_rfl) (by kernel_rfl) (by kernel_rfl)) ?_
  intro W base args ds gs before hval0 hW hcnd hsz _
  have hval : ∀ (j : Nat) t v, Try.f11.params[j]? = some t → args[j]? = some v → Value.okWide Try.prog W .any base t v := hval0
  have hW' := hW
  obtain ⟨p, q, hA0, hV, rfl, hfz, hnd⟩ := hW'
  have hA : DataW.TrodAll enc Try.prog W 0 (fun _ => true) true Try.f11.params.toList args.toList ds p := hA0
  rw [Try.params11] at hA hval
  obtain ⟨v0, vs0, d0, ds0, p0, q0, hargs, rfl, rfl, h0, r0⟩ := trodAll_cons hA
  obtain ⟨v1, vs1, d1, ds1, p1, q1, rfl, rfl, rfl, h1, r1⟩ := trodAll_cons r0
  obtain ⟨rfl, rfl, rfl⟩ := trodAll_nil r1
  obtain rfl : args = #[v0, v1] := by cases args; simp_all
  obtain ⟨rfl, rfl⟩ := trodVars_none hV
  have k0 := h0
  have lt0 : ∀ x ∈ p0, x.block < W.heap.size := by obtain ⟨m, hm⟩ := k0; exact DataW.trod_lt m _ _ _ hm
  obtain ⟨a0, len0, cap0, rfl⟩ := okWide_slice Try.underlying22 (hval 0 22 v0 rfl rfl)
  obtain ⟨l0, w0⟩ : ∃ l, Bytes W (.slice a0 len0 cap0) l := by
    obtain ⟨fuel, hf⟩ := h0
    obtain ⟨v, l, hcs, hb⟩ := bytes_of_raw Try.underlying22 Try.underlying5 (by kernel_rfl) hf
    simp [Value.cells] at hcs
    subst hcs
    exact ⟨l, hb⟩
  have sz0 : len0 * 1 ≤ 140737488351232 := by obtain ⟨fuel, hf⟩ := h0; exact reach_of_raw (P := Try.prog) (x := (d0, p0)) (j := 0) hsz (by rw [Try.params11]; rfl) rfl Try.underlying22 (by kernel_rfl) hf
  have k1 := h1
  have lt1 : ∀ x ∈ p1, x.block < W.heap.size := by obtain ⟨m, hm⟩ := k1; exact DataW.trod_lt m _ _ _ hm
  obtain ⟨a1, len1, cap1, rfl⟩ := okWide_slice Try.underlying42 (hval 1 42 v1 rfl rfl)
  obtain ⟨l1, w1, sz1⟩ : ∃ l, Parts W (.slice a1 len1 cap1) l ∧ Pack.mass l ≤ Rows.uptoBulk d1 := by
    obtain ⟨fuel, hf⟩ := h1
    obtain ⟨v, l, hcs, hb, hm⟩ := parts_of_raw hf
    simp [Value.cells] at hcs
    subst hcs
    exact ⟨l, hb, hm⟩
  clear hA0 hval0
  refine (packReads_walk a0 a1 len0 cap0 len1 cap1 l0 l1 W w0 w1 sz0).mono fun e W' ⟨he, bel⟩ => ?_
  subst he
  exact ⟨_, rfl, _, _, _, [], _, [], hW, trodAll_mk1 (shut_bool Try.underlying4 _), (trodAll_cons_mk (Below.trod laidOut (by kernel_rfl) (of_decide_eq_true (by kernel_rfl)) k0 bel lt0) (trodAll_cons_mk (Below.trod laidOut (by kernel_rfl) (of_decide_eq_true (by kernel_rfl)) k1 bel lt1) trodAll_mk0)), rfl, bel.frame _, fun h => by cases h⟩
theorem over : Rows.packReadsRow.holds Try.pinned (OpenSpec.ofChange Rows.packReadsSpec) :=
  OpenClaim.holds_of_wide 11 Try.f11 rfl rfl rfl rfl rfl rfl rfl ⟨rfl, rfl, rfl, rfl, rfl⟩ rfl rfl rfl rfl rfl (by kernel_rfl) Try.func11 (by kernel_rfl)
    (of_decide_eq_true (by kernel_rfl)) (by unfold Func.isWrapper; first | (rw [if_pos (by decide +kernel)]; kernel_rfl) | (rw [if_neg (by decide +kernel)]; exact ⟨rfl, rfl⟩))
    (fun os started H enc _ => lifted os started H enc)
theorem proved : Rows.PackReadsSaid := over
end packReads
end Go.Proofs.Ytkkbjbbmjoacnaa
