/-
  Merged: Layer 12: the document's sealer: Done, Tail.
-/
import Derived.Test.YtnoeconcpgdjlaaBsQuJ
import Derived.Test.YtnoeconcpgdjlaaBsQuR

namespace Go.Proofs.Ytnoeconcpgdjlaa
set_option linter.unusedSimpArgs false
set_option linter.unusedVariables false
set_option maxRecDepth 100000
open Go.RowKit
/- Layer 12: the document's sealer: Done, Tail. -/
/-- The document's sealer, as a value. -/
def IsSeR12 (w : World) (v : Value) (c : Term.C) (ps : List Part12) : Prop := ∃ sv dv pv, v = .agg #[.int .i64 c.term, sv, dv, pv] ∧ Ints w sv c.seqs ∧ IRows w dv c.shards ∧ Pts12 w pv ps
theorem IsSeR12.below {w w' : World} {v : Value} {c : Term.C} {ps : List Part12} (h : IsSeR12 w v c ps) (hb : Below w.heap.size w w') : IsSeR12 w' v c ps := by
  obtain ⟨sv, dv, pv, e, h1, h2, h3⟩ := h
  exact ⟨sv, dv, pv, e, h1.below hb, h2.below hb, h3.below hb⟩
theorem IsSeR12.open {w : World} {v : Value} {c : Term.C} {ps : List Part12} (h : IsSeR12 w v c ps) : ∃ s1 s2 s3 d1 d2 d3 p1 p3, v = .agg #[.int .i64 c.term, .slice s1 s2 s3, .slice d1 d2 d3, .slice p1 ps.length p3] ∧ Ints w (.slice s1 s2 s3) c.seqs ∧ IRows w (.slice d1 d2 d3) c.shards ∧ Pts12 w (.slice p1 ps.length p3) ps := by
  obtain ⟨sv, dv, pv, rfl, h1, h2, h3⟩ := h
  obtain ⟨s1, s2, s3, rfl⟩ := intsSlice h1
  obtain ⟨d1, d2, d3, rfl⟩ := irowsSlice h2
  obtain ⟨p1, p3, rfl, _⟩ := h3.open
  exact ⟨_, _, _, _, _, _, _, _, rfl, h1, h2, h3⟩
/-- Its block. -/
def SeRAt12 (w : World) (q : Nat) (t : Int) (s d p : Value) : Prop := w.heap[q]? = some (.cells #[.int .i64 t, s, d, p] 39 (0, 0))
theorem SeRAt12.ext {w w' : World} {q : Nat} {t : Int} {s d p : Value} (h : SeRAt12 w q t s d p) (hE : Ext w w') : SeRAt12 w' q t s d p := heap_ext h hE
theorem box_seR12 (w : World) (t : Int) (s d p : Value) (hs : ∃ a n c, s = .slice a n c) (hd : ∃ a n c, d = .slice a n c) (hp : ∃ a n c, p = .slice a n c) : (Instr.box 39 (.agg #[.int .i64 t, s, d, p])).run Try.prog w = .ok (.pointer (some ⟨w.heap.size, 0, none⟩)) (w.alloc (.cells #[.int .i64 t, s, d, p] 39)) := by
  obtain ⟨_, _, _, rfl⟩ := hs
  obtain ⟨_, _, _, rfl⟩ := hd
  obtain ⟨_, _, _, rfl⟩ := hp
  kernel_rfl
theorem SeRAt12.ld {w : World} {q : Nat} {t : Int} {s d p : Value} (h : SeRAt12 w q t s d p) (hs : ∃ a n c, s = .slice a n c) (hd : ∃ a n c, d = .slice a n c) (hp : ∃ a n c, p = .slice a n c) : (Instr.loadAt 39 (.pointer (some ⟨q, 0, none⟩))).run Try.prog w = .ok (.agg #[.int .i64 t, s, d, p]) w := by
  obtain ⟨_, _, _, rfl⟩ := hs
  obtain ⟨_, _, _, rfl⟩ := hd
  obtain ⟨_, _, _, rfl⟩ := hp
  exact run_loadAt_mid w q 0 39 [.int .i64 t, .slice _ _ _, .slice _ _ _, .slice _ _ _] _ (fun j v hj => by rw [cell_of_heap h, ← Array.getElem?_toList]; simpa using hj) Try.underlying39 rfl (by kernel_rfl)
theorem SeRAt12.ldVar {w : World} {q : Nat} {t : Int} {s d p : Value} (h : SeRAt12 w q t s d p) (hs : ∃ a n c, s = .slice a n c) (hd : ∃ a n c, d = .slice a n c) (hp : ∃ a n c, p = .slice a n c) : (loadVar 39 ⟨q, 0, none⟩).run Try.prog w = .ok (.agg #[.int .i64 t, s, d, p]) w := by
  obtain ⟨_, _, _, rfl⟩ := hs
  obtain ⟨_, _, _, rfl⟩ := hd
  obtain ⟨_, _, _, rfl⟩ := hp
  exact run_loadVar_mid w q 0 39 [.int .i64 t, .slice _ _ _, .slice _ _ _, .slice _ _ _] _ (fun j v hj => by rw [cell_of_heap h, ← Array.getElem?_toList]; simpa using hj) Try.underlying39 rfl (by kernel_rfl)
section
variable {ops : Array Oper} {rest : List Oper} {op : Oper} {a : Act} {w : World} {Q : Exit → Act → World → Prop}
theorem allocSeR12 (hw : Region.wanted op (yielded ops a.tmps) = true) (ho : op.op = .alloc 39)
    (h : ∀ W b, Hid (SeRAt12 W b 0 (.slice none 0 0) (.slice none 0 0) (.slice none 0 0)) → Hid (Ext w W) → Hid (b = w.heap.size) → wpList Try.prog ops Q rest (a.put op.dst (.pointer (some ⟨b, 0, none⟩))) W) : wpList Try.prog ops Q (op :: rest) a w :=
  BigFrame.wpList_want hw fun K hK => by
    have hr : (execOp a.eval op).run Try.prog w = .ok (.value (.pointer (some ⟨w.heap.size, 0, none⟩))) (w.alloc (.cells #[.int .i64 0, .slice none 0 0, .slice none 0 0, .slice none 0 0] 39)) := by
      unfold execOp
      simp only [ho]
      kernel_rfl
    unfold Oper.wp
    rw [hr]
    exact hK _ _ (h _ _ (Lib.hid (heap_alloc_new w _)) (Lib.hid (Ext.alloc _ _)) (Lib.hid rfl))
theorem putSeR12 {q : Nat} {t t2 : Int} {s d p s2 d2 p2 : Value} (hw : Region.wanted op (yielded ops a.tmps) = true) (x y : Operand) (ho : op.op = .store 39 x y)
    (hx : a.eval x = .pointer (some ⟨q, 0, none⟩)) (hy : a.eval y = .agg #[.int .i64 t2, s2, d2, p2]) (hat : SeRAt12 w q t s d p) (h1 : ∃ a n c, s2 = .slice a n c) (h2 : ∃ a n c, d2 = .slice a n c) (h3 : ∃ a n c, p2 = .slice a n c)
    (h : ∀ W, Hid (SeRAt12 W q t2 s2 d2 p2) → Hid (But q w W) → wpList Try.prog ops Q rest (a.put op.dst undef) W) : wpList Try.prog ops Q (op :: rest) a w :=
  BigFrame.wpList_want hw fun K hK => by
    have hth : w.there q 0 4 := fun j hj => by
      refine ⟨?_, frozen_of_heap hat _⟩
      rw [cell_of_heap hat]
      have : 0 + j < (#[Value.int .i64 t, s, d, p] : Array Value).size := by show _ < 4; omega
      rw [Array.getElem?_eq_getElem this]
      rfl
    have hs : (Instr.storeAt 39 (.pointer (some ⟨q, 0, none⟩)) (.agg #[.int .i64 t2, s2, d2, p2])).run Try.prog w = .ok () (w.setCells q 0 [.int .i64 t2, s2, d2, p2]) := by
      obtain ⟨_, _, _, rfl⟩ := h1
      obtain ⟨_, _, _, rfl⟩ := h2
      obtain ⟨_, _, _, rfl⟩ := h3
      exact run_storeAt_mid w q 0 39 _ hth (by kernel_rfl) (by simp [Value.oneCell'])
    have k1 : SeRAt12 (w.setCells q 0 [.int .i64 t2, s2, d2, p2]) q t2 s2 d2 p2 := heap_setCells q _ (0, 0) [.int .i64 t2, s2, d2, p2] [] [.int .i64 t, s, d, p] 0 w hat rfl rfl
    have k2 : But q w (w.setCells q 0 [.int .i64 t2, s2, d2, p2]) := but_setCells q _ _ _
    unfold Oper.wp execOp
    simp only [ho, hx, hy]
    rw [Sem.run_bind, hs]
    exact hK _ _ (h _ (Lib.hid k1) (Lib.hid k2))
end
theorem pparts_len (ps : List Part12) : (pparts ps).length = ps.length := by simp [pparts]
set_option maxHeartbeats 8000000 in
theorem doneR12_any (v : Value) (c : Term.C) (ps : List Part12) (w : World) (hv : IsSeR12 w v c ps) (hr : Term.right c = true) :
    Calls Try.prog 16 #[v] w fun e w' => e = .returned (.bool (Quo.Se.done ⟨c, pparts ps⟩)) ∧ Ext w w' := by
  obtain ⟨s1, s2, s3, d1, d2, d3, p1, p3, rfl, hs, hd, hp⟩ := hv.open
  have hbx := fun w => box_seR12 w c.term (.slice s1 s2 s3) (.slice d1 d2 d3) (.slice p1 ps.length p3) ⟨_, _, _, rfl⟩ ⟨_, _, _, rfl⟩ ⟨_, _, _, rfl⟩
  obtain ⟨L, hL⟩ : ∃ z, ps.length = z := ⟨_, rfl⟩
  obtain ⟨M, hM⟩ : ∃ z, Term.majority c = z := ⟨_, rfl⟩
  obtain ⟨tc, htc⟩ : ∃ z, c.term = z := ⟨_, rfl⟩
  have HD := Lib.hid (show Quo.Se.done ⟨c, pparts ps⟩ = decide (M ≤ L) by unfold Quo.Se.done; rw [pparts_len, hL, hM])
  rw [hL, htc] at hbx
  rw [hL, htc]
  obtain ⟨W, hW⟩ : ∃ z, w.alloc (.cells #[.int .i64 tc, .slice s1 s2 s3, .slice d1 d2 d3, .slice p1 L p3] 39) = z := ⟨_, rfl⟩
  obtain ⟨q, hq⟩ : ∃ z, w.heap.size = z := ⟨_, rfl⟩
  have hE : Ext w W := by rw [← hW]; exact Ext.alloc _ _
  have hat : SeRAt12 W q tc (.slice s1 s2 s3) (.slice d1 d2 d3) (.slice p1 L p3) := by unfold SeRAt12; rw [← hW, ← hq]; exact heap_alloc_new _ _
  have HW := Lib.hid (And.intro hW (And.intro hq hE))
  have HAT := Lib.hid hat
  have h7 := (Term.right_ok hr).2.2.2.1
  have HMJ := Lib.hid (show ∀ w', Ext W w' → Calls Try.prog 40 #[.agg #[.int .i64 tc, .slice s1 s2 s3, .slice d1 d2 d3]] w' fun e w'' => e = .returned (.int .i64 (M : Nat)) ∧ Ext w' w'' from fun w' h => by
    have := refMajority6_any (.agg #[.int .i64 tc, .slice s1 s2 s3, .slice d1 d2 d3]) c w' ⟨_, _, by unfold confV; rw [htc], hs.below (hE.trans h), hd.below (hE.trans h)⟩ (by omega)
    rw [hM] at this
    exact this)
  clear hv hs hd hp hL hM htc hW hq hE hat h7
  go_enter Try.func16, Try.ntmps16
  go_upto_region 1 with fail
  rw [HW.out.1, HW.out.2.1]
  clear hbx
  refine wp_region_facts (by kernel_rfl) Ext (fun iop v w => match iop with
      | 0 => v = .pointer (some ⟨q, 3, none⟩)
      | 1 => v = .slice p1 L p3
      | 2 => v = .int .i64 (L : Nat)
      | 3 => v = .pointer (some ⟨q, 0, none⟩)
      | 4 => v = .agg #[.int .i64 tc, .slice s1 s2 s3, .slice d1 d2 d3]
      | 5 => v = .int .i64 (M : Nat)
      | 6 => v = .bool (decide (M ≤ L))
      | _ => v = .bool (decide (M ≤ L))
      ) (by kernel_rfl) (fun _ _ _ h k => Ext.trans h k) (fun a => Ext.refl a) (Ext.drew _) ?_ ?_ ?_
  · intro iop v wa wb hF hL
    iterate 7 (rcases iop with _ | iop; exact hF)
    exact hF
  · refine Obls.cons ?_ (Obls.cons ?_ (Obls.cons ?_ (Obls.cons ?_ (Obls.cons ?_ (Obls.cons ?_ (Obls.cons ?_ (Obls.cons ?_ (Obls.nil))))))))
    · intro ev wy hp hl hk hd
      have e1 : ev (.tmp 1) = .pointer (some ⟨q, 0, none⟩) := hk 1 (by decide)
      clear hk hd
      exact Yield.op (v := .pointer (some ⟨q, 3, none⟩)) (w' := wy) (by simp [execOp, go_sem, e1]) ⟨Ext.refl _, rfl⟩
    · intro ev wy hp hl hk hd
      have e3 : ev (.tmp 3) = .pointer (some ⟨q, 3, none⟩) := hk 3 (by decide)
      clear hk hd
      exact Yield.load rfl e3 (by simp [go_sem, cell_of_heap (heap_ext HAT.out hl) 3]) ⟨Ext.refl _, rfl⟩
    · intro ev wy hp hl hk hd
      have e4 : ev (.tmp 4) = .slice p1 L p3 := hk 4 (by decide)
      clear hk hd
      exact Yield.op (v := .int .i64 (L : Nat)) (w' := wy) (by simp [execOp, go_sem, e4]) ⟨Ext.refl _, rfl⟩
    · intro ev wy hp hl hk hd
      have e1 : ev (.tmp 1) = .pointer (some ⟨q, 0, none⟩) := hk 1 (by decide)
      clear hk hd
      exact Yield.op (v := .pointer (some ⟨q, 0, none⟩)) (w' := wy) (by simp [execOp, go_sem, e1]) ⟨Ext.refl _, rfl⟩
    · intro ev wy hp hl hk hd
      have e6 : ev (.tmp 6) = .pointer (some ⟨q, 0, none⟩) := hk 6 (by decide)
      clear hk hd
      exact Yield.load rfl e6 (ldConf7 25 (.inr rfl) ⟨_, _, _, rfl⟩ ⟨_, _, _, rfl⟩ (cell_of_heap (heap_ext HAT.out hl) 0) (cell_of_heap (heap_ext HAT.out hl) 1) (cell_of_heap (heap_ext HAT.out hl) 2)) ⟨Ext.refl _, rfl⟩
    · intro ev wy hp hl hk hd
      have e7 : ev (.tmp 7) = .agg #[.int .i64 tc, .slice s1 s2 s3, .slice d1 d2 d3] := hk 7 (by decide)
      clear hk hd
      refine Yield.call rfl hp Try.func40 rfl (by kernel_rfl) ?_
      simp only [List.map_toArray, List.map_cons, List.map_nil, e7]
      exact (HMJ.out wy hl).mono fun _ _ ⟨he, hb⟩ => ⟨_, he, hb, by first | rfl | simp⟩
    · intro ev wy hp hl hk hd
      have e5 : ev (.tmp 5) = .int .i64 (L : Nat) := hk 5 (by decide)
      have e8 : ev (.tmp 8) = .int .i64 (M : Nat) := hk 8 (by decide)
      clear hk hd
      exact Yield.op (v := .bool (decide (M ≤ L))) (w' := wy) (by simp [execOp, go_sem, e5, e8]) ⟨Ext.refl _, rfl⟩
    · intro ev wy hp hl hk hd
      have e9 : ev (.tmp 9) = .bool (decide (M ≤ L)) := hk 9 (by decide)
      clear hk hd
      exact Yield.as rfl ⟨Ext.refl _, e9⟩
  · intro vals wz hz hv
    have g3 : vals 0 = .pointer (some ⟨q, 3, none⟩) := hv 0 (by decide)
    have g4 : vals 1 = .slice p1 L p3 := hv 1 (by decide)
    have g5 : vals 2 = .int .i64 (L : Nat) := hv 2 (by decide)
    have g6 : vals 3 = .pointer (some ⟨q, 0, none⟩) := hv 3 (by decide)
    have g7 : vals 4 = .agg #[.int .i64 tc, .slice s1 s2 s3, .slice d1 d2 d3] := hv 4 (by decide)
    have g8 : vals 5 = .int .i64 (M : Nat) := hv 5 (by decide)
    have g9 : vals 6 = .bool (decide (M ≤ L)) := hv 6 (by decide)
    have g2 : vals 7 = .bool (decide (M ≤ L)) := hv 7 (by decide)
    clear hv
    simp only [putAll, Act.put, List.setIfInBounds_toArray, List.set_cons_zero, List.set_cons_succ, g3, g4, g5, g6, g7, g8, g9, g2]
    clear g3
    clear g4
    clear g5
    clear g6
    clear g7
    clear g8
    clear g9
    clear g2
    have HZ := Lib.hid hz
    clear hz
    go_wp2_with fail
    go_ret
    exact ⟨by rw [HD.out]; rfl, HW.out.2.2.trans HZ.out⟩
theorem longest_take12 (ps : List (Int × List Ent.E)) (k : Nat) (hk : k < ps.length) : Quo.longest (ps.take (k + 1)) = if (Quo.longest (ps.take k)).length < ps[k].2.length then ps[k].2 else Quo.longest (ps.take k) := by
  rw [List.take_succ_eq_append_getElem hk, Quo.longest_snoc]
def GivesTailR12 (w : World) (l : List Ent.E) (b : Bool) (e : Ending) (w' : World) : Prop := ∃ u, e = .returned (.tuple #[u, .bool b]) ∧ Ents w' u l ∧ Ext w w'
set_option maxHeartbeats 8000000 in
theorem tailR12_any (v : Value) (c : Term.C) (ps : List Part12) (w : World) (hv : IsSeR12 w v c ps) (hr : Term.right c = true) :
    Calls Try.prog 18 #[v] w (GivesTailR12 w (orNil12 (Quo.Se.done ⟨c, pparts ps⟩) (Quo.Se.long ⟨c, pparts ps⟩)) (Quo.Se.done ⟨c, pparts ps⟩)) := by
  have HR := Lib.hid hr
  have HV := Lib.hid hv
  obtain ⟨s1, s2, s3, d1, d2, d3, p1, p3, rfl, hs, hd, hp⟩ := hv.open
  have hbx := fun w => box_seR12 w c.term (.slice s1 s2 s3) (.slice d1 d2 d3) (.slice p1 ps.length p3) ⟨_, _, _, rfl⟩ ⟨_, _, _, rfl⟩ ⟨_, _, _, rfl⟩
  have hp9 : ps.length ≤ p3 ∧ p3 ≤ 9223372036854775807 := by
    obtain ⟨_, _, e, h1, h2⟩ := hp.open
    injection e with _ _ e
    omega
  obtain ⟨hp8, hp9⟩ := hp9
  obtain ⟨L, hL⟩ : ∃ z, ps.length = z := ⟨_, rfl⟩
  obtain ⟨tc, htc⟩ : ∃ z, c.term = z := ⟨_, rfl⟩
  obtain ⟨dn, hdn⟩ : ∃ z, Quo.Se.done ⟨c, pparts ps⟩ = z := ⟨_, rfl⟩
  rw [hL, htc] at hbx HV
  rw [hL] at hp8
  rw [hL, htc, hdn]
  obtain ⟨W, hW⟩ : ∃ z, w.alloc (.cells #[.int .i64 tc, .slice s1 s2 s3, .slice d1 d2 d3, .slice p1 L p3] 39) = z := ⟨_, rfl⟩
  obtain ⟨q, hq⟩ : ∃ z, w.heap.size = z := ⟨_, rfl⟩
  have hE : Ext w W := by rw [← hW]; exact Ext.alloc _ _
  have hat : SeRAt12 W q tc (.slice s1 s2 s3) (.slice d1 d2 d3) (.slice p1 L p3) := by unfold SeRAt12; rw [← hW, ← hq]; exact heap_alloc_new _ _
  have HW := Lib.hid (And.intro hW (And.intro hq hE))
  have HAT := Lib.hid hat
  have HP := Lib.hid (show ∀ w', Ext W w' → Pts12 w' (.slice p1 L p3) ps from fun w' h => by have := hp.below (hE.trans h); rw [hL] at this; exact this)
  have HDN := Lib.hid (show ∀ w', Ext W w' → Calls Try.prog 16 #[.agg #[.int .i64 tc, .slice s1 s2 s3, .slice d1 d2 d3, .slice p1 L p3]] w' fun e w'' => e = .returned (.bool dn) ∧ Ext w' w'' from fun w' h => by
    have := doneR12_any (.agg #[.int .i64 tc, .slice s1 s2 s3, .slice d1 d2 d3, .slice p1 L p3]) c ps w' (HV.out.below (hE.trans h)) HR.out
    rw [hdn] at this
    exact this)
  have HL := Lib.hid hL
  have y0 : W.cell? ⟨q, 0, none⟩ = some (.int .i64 tc) := cell_of_heap hat 0
  have y1 : W.cell? ⟨q, 1, none⟩ = some (.slice s1 s2 s3) := cell_of_heap hat 1
  have y2 : W.cell? ⟨q, 2, none⟩ = some (.slice d1 d2 d3) := cell_of_heap hat 2
  have y3 : W.cell? ⟨q, 3, none⟩ = some (.slice p1 L p3) := cell_of_heap hat 3
  clear hv hs hd hp hL htc hdn hW hq hE hat hr
  go_enter Try.func18, Try.ntmps18
  go_upto_region 1 with fail
  rw [HW.out.1, HW.out.2.1]
  clear hbx
  go_wp2_with fail
  refine (HDN.out W (Ext.refl W)).mono ?_
  rintro e w2 ⟨rfl, hE2⟩
  have HE2 := Lib.hid hE2
  have z3 : w2.cell? ⟨q, 3, none⟩ = some (.slice p1 L p3) := cell_of_heap (heap_ext HAT.out hE2) 3
  clear hE2 y0 y1 y2 y3
  cases dn with
  | false =>
    go_wp2_with fail
    go_ret2
    exact ⟨_, rfl, Ents.nil _, HW.out.2.2.trans HE2.out⟩
  | true =>
    go_wp2_with fail
    go_loopw [4, 5] (fun o i wr => ∃ (k N : Nat) (ao : Option Addr) (co : Nat), k ≤ L ∧ i = .int .i64 k ∧ o = .slice ao N co ∧ wr = w2 ∧ Hid (Ents w2 (.slice ao N co) (Quo.longest ((pparts ps).take k)) ∧ N = (Quo.longest ((pparts ps).take k)).length)) (fun _ i _ => L - (intOf i).toNat)
    case atStart => exact ⟨0, 0, none, 0, by omega, rfl, rfl, rfl, Lib.hid ⟨Ents.nil _, rfl⟩⟩
    case round =>
      obtain ⟨k, N, ao, co, hk, rfl, rfl, hw, hI⟩ := hrel
      have hw := hw.symm
      subst hw
      by_cases hlt : k < L
      · have hkl : k < ps.length := by rw [HL.out]; exact hlt
        have hkp : k < (pparts ps).length := by rw [pparts_len]; exact hkl
        obtain ⟨b, off, rfl, c0, c1⟩ := (HP.out w2 HE2.out).at k hkl
        have hen := (HP.out w2 HE2.out).2 ps[k] (List.getElem_mem hkl)
        obtain ⟨a5, c5, e5, _⟩ := hen.shape
        rw [e5] at c1 hen
        obtain ⟨N2, hN2⟩ : ∃ z, (ps[k]).2.2.length = z := ⟨_, rfl⟩
        rw [hN2] at c1 hen
        have hlg := longest_take12 (pparts ps) k hkp
        have hpk : (pparts ps)[k].2 = (ps[k]).2.2 := by simp [pparts]
        rw [hpk, hN2] at hlg
        have HX := Lib.hid (And.intro hen (And.intro hlg hN2))
        clear hen e5 hlg hpk hN2
        by_cases hlong : (N : Int) < (N2 : Int)
        · have HNX := Lib.hid (show Ents w2 (.slice a5 N2 c5) (Quo.longest ((pparts ps).take (k + 1))) ∧ N2 = (Quo.longest ((pparts ps).take (k + 1))).length from by
            have h1 := HX.out.2.1
            rw [if_pos (by have := hI.out.2; omega)] at h1
            rw [h1]
            exact ⟨HX.out.1, HX.out.2.2.symm⟩)
          go_wp2_with fail
          go_roundw
          case rel => exact ⟨k + 1, N2, _, _, by omega, by go_num, by first | trivial | rfl, by first | trivial | rfl, HNX⟩
          case measure => simp [intOf]; omega
        · have HNX := Lib.hid (show Ents w2 (.slice ao N co) (Quo.longest ((pparts ps).take (k + 1))) ∧ N = (Quo.longest ((pparts ps).take (k + 1))).length from by
            have h1 := HX.out.2.1
            rw [if_neg (by have := hI.out.2; omega)] at h1
            rw [h1]
            exact hI.out)
          go_wp2_with fail
          go_roundw
          case rel => exact ⟨k + 1, N, _, _, by omega, by go_num, by first | trivial | rfl, by first | trivial | rfl, HNX⟩
          case measure => simp [intOf]; omega
      · obtain rfl : k = L := by omega
        have HALL := Lib.hid (show (pparts ps).take k = pparts ps from List.take_of_length_le (by rw [pparts_len, HL.out]; exact Nat.le_refl _))
        go_wp2_with fail
        go_ret2
        refine ⟨_, rfl, ?_, HW.out.2.2.trans HE2.out⟩
        have h1 := hI.out.1
        rw [HALL.out] at h1
        exact h1
end Go.Proofs.Ytnoeconcpgdjlaa
