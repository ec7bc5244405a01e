/-
  Merged: Layer 12: a row of calls, out of raw input.
-/
import Derived.OpenShut
import Derived.Test.YtnoeconcpgdjlaaBsMsg
import Derived.Test.YtnoeconcpgdjlaaBsQuM

namespace Go.Proofs.Ytnoeconcpgdjlaa
set_option linter.unusedSimpArgs false
set_option linter.unusedVariables false
set_option maxRecDepth 100000
open Go.ChangeShapes Go.WideShapes Go.ChangeAt Go.RowKit
/- Layer 12: a row of calls, out of raw input; few. -/
/-- A call in the midst of a row. -/
def OpHere12 (w : World) (b off : Nat) (o : Quo.Op) : Prop := ∃ vv rt et sv dv, w.rangeAt b off (opCells12 o vv rt et sv dv).toList ∧ IsOp12 w o vv rt et sv dv
theorem OpHere12.below {w w' : World} {b off : Nat} {o : Quo.Op} (h : OpHere12 w b off o) (hb : Below w.heap.size w w') : OpHere12 w' b off o := by
  obtain ⟨vv, rt, et, sv, dv, h1, h2⟩ := h
  exact ⟨vv, rt, et, sv, dv, fun j v hj => (hb.cell (p := ⟨b, off + j, none⟩) (World.block_lt_of_cell? w _ (h1 j v hj))).trans (h1 j v hj), h2.below hb⟩
def Ops12 (w : World) (v : Value) (l : List Quo.Op) : Prop :=
  ∃ (a : Option Addr) (cap : Nat), v = .slice a l.length cap ∧ l.length ≤ cap ∧ cap ≤ maxLen ∧ (a = none → cap = 0) ∧ ∀ i (h : i < l.length), ∃ b off, a = some ⟨b, off, none⟩ ∧ OpHere12 w b (off + i * 27) l[i]
theorem Ops12.below {w w' : World} {v : Value} {l : List Quo.Op} (h : Ops12 w v l) (hb : Below w.heap.size w w') : Ops12 w' v l := by
  obtain ⟨a, cap, rfl, h1, h2, h4, h3⟩ := h
  refine ⟨a, cap, rfl, h1, h2, h4, fun i hi => ?_⟩
  obtain ⟨b, off, e, hc⟩ := h3 i hi
  exact ⟨b, off, e, hc.below hb⟩
theorem Ops12.len {w : World} {a : Option Addr} {n c : Nat} {l : List Quo.Op} (h : Ops12 w (.slice a n c) l) : n = l.length ∧ n ≤ c ∧ c ≤ 9223372036854775807 := by
  obtain ⟨_, _, e, h1, h2, _⟩ := h
  injection e with e1 e2 e3
  subst e3
  unfold maxLen at h2
  omega
theorem Ops12.nil (w : World) : Ops12 w (.slice none 0 0) [] := ⟨none, 0, rfl, Nat.le_refl _, by simp [maxLen], fun _ => rfl, fun i hi => absurd hi (by simp)⟩
theorem OpHere12.ld {w : World} {b off : Nat} {o : Quo.Op} {vv rt et sv dv : Value} (h : w.rangeAt b off (opCells12 o vv rt et sv dv).toList) : (Instr.loadAt 68 (.pointer (some ⟨b, off, none⟩))).run Try.prog w = .ok (.agg (opCells12 o vv rt et sv dv)) w :=
  run_loadAt_mid w b off 68 (opCells12 o vv rt et sv dv).toList _ h Try.underlying68 rfl (by kernel_rfl)
section
variable {H : Type} {enc : TypeId × Value → H} {w : World} {base : Nat} {spare : Nat → Bool} {held : Bool}
theorem take_of_27 {l : List Value} (h : l.length = 27) : ∃ c0 c1 c2 c3 c4 cm, cm.length = 22 ∧ l = c0 :: c1 :: c2 :: c3 :: c4 :: cm := by
  match l, h with
  | c0 :: c1 :: c2 :: c3 :: c4 :: r, h => exact ⟨c0, c1, c2, c3, c4, r, by simpa using h, rfl⟩
theorem msgSrc {fuel : Nat} {m : Msg.M} {rt et sv dv : Value} {x : DataW H × List MemPlace} (h : DataW.trod enc Try.prog w base spare held fuel 66 (msgCells m rt et sv dv).toList = some x) : Wf64 m.src := by
  obtain ⟨xs, n, _, rfl, hl, hlen, hf⟩ := DataW.trod_struct Try.underlying66 h
  have hi : Try.prog.cellsOf 3 = 1 := by kernel_rfl
  obtain ⟨y0, y1, y2, y3, y4, y5, y6, y7, y8, y9, y10, y11, rfl⟩ := of12 hlen
  have f1 : DataW.trod enc Try.prog w base spare held n 3 (List.take (Try.prog.cellsOf 3) (List.drop 1 (msgCells m rt et sv dv).toList)) = some y1 := hf 1 _ rfl
  rw [hi] at f1
  obtain ⟨n1, e1, _, hw⟩ := DataW.trod_int Try.underlying3 f1
  have e2 : [Value.int .i64 m.src] = [Value.int .i64 n1] := e1
  injection e2 with e2 _
  injection e2 with _ e2
  rw [e2]
  exact hw
theorem op12_of_raw {fuel : Nat} {cs : List Value} {x : DataW H × List MemPlace} (h : DataW.trod enc Try.prog w base spare held fuel 68 cs = some x) :
    ∃ (o : Quo.Op) (vv rt et sv dv : Value), cs = (opCells12 o vv rt et sv dv).toList ∧ IsOp12 w o vv rt et sv dv ∧ Wf64 o.m.src := by
  obtain ⟨xs, n, _, rfl, hl, hlen, hf⟩ := DataW.trod_struct Try.underlying68 h
  have hc : Try.prog.cellsOf 68 = 27 := by kernel_rfl
  have hi : Try.prog.cellsOf 3 = 1 := by kernel_rfl
  have hv : Try.prog.cellsOf 22 = 1 := by kernel_rfl
  have hq : Try.prog.cellsOf 58 = 2 := by kernel_rfl
  have hm : Try.prog.cellsOf 66 = 22 := by kernel_rfl
  rw [hc] at hl
  obtain ⟨c0, c1, c2, c3, c4, cm, h22, rfl⟩ := take_of_27 hl
  obtain ⟨y0, y1, y2, y3, y4, rfl⟩ : ∃ a b c d e, xs = [a, b, c, d, e] := by
    match xs, hlen with
    | [a, b, c, d, e], _ => exact ⟨a, b, c, d, e, rfl⟩
  have f0 : DataW.trod enc Try.prog w base spare held n 3 (List.take (Try.prog.cellsOf 3) (List.drop 0 (c0 :: c1 :: c2 :: c3 :: c4 :: cm))) = some y0 := hf 0 _ rfl
  have f1 : DataW.trod enc Try.prog w base spare held n 3 (List.take (Try.prog.cellsOf 3) (List.drop 1 (c0 :: c1 :: c2 :: c3 :: c4 :: cm))) = some y1 := hf 1 _ rfl
  have f2 : DataW.trod enc Try.prog w base spare held n 22 (List.take (Try.prog.cellsOf 22) (List.drop 2 (c0 :: c1 :: c2 :: c3 :: c4 :: cm))) = some y2 := hf 2 _ rfl
  have f3 : DataW.trod enc Try.prog w base spare held n 58 (List.take (Try.prog.cellsOf 58) (List.drop 3 (c0 :: c1 :: c2 :: c3 :: c4 :: cm))) = some y3 := hf 3 _ rfl
  have f4 : DataW.trod enc Try.prog w base spare held n 66 (List.take (Try.prog.cellsOf 66) (List.drop 5 (c0 :: c1 :: c2 :: c3 :: c4 :: cm))) = some y4 := hf 4 _ rfl
  rw [hi] at f0 f1
  rw [hv] at f2
  rw [hq] at f3
  rw [hm] at f4
  simp only [List.drop_zero, List.drop_succ_cons, List.take_succ_cons, List.take_zero] at f0 f1 f2 f3
  have q4 : ((c0 :: c1 :: c2 :: c3 :: c4 :: cm).drop 5).take 22 = cm := by
    show cm.take 22 = cm
    rw [← h22]; exact List.take_length
  rw [q4] at f4
  obtain ⟨n0, e0, _, _⟩ := DataW.trod_int Try.underlying3 f0
  obtain ⟨n1, e1, _, _⟩ := DataW.trod_int Try.underlying3 f1
  obtain ⟨v2, l2, e2, i2, _⟩ := intsFull f2
  obtain ⟨zs, n3, _, _, hl3, hlen3, hf3⟩ := DataW.trod_struct Try.underlying58 f3
  obtain ⟨z0, z1, rfl⟩ : ∃ a b, zs = [a, b] := by
    match zs, hlen3 with
    | [a, b], _ => exact ⟨a, b, rfl⟩
  have g0 : DataW.trod enc Try.prog w base spare held n3 3 (List.take (Try.prog.cellsOf 3) (List.drop 0 [c3, c4])) = some z0 := hf3 0 _ rfl
  have g1 : DataW.trod enc Try.prog w base spare held n3 3 (List.take (Try.prog.cellsOf 3) (List.drop 1 [c3, c4])) = some z1 := hf3 1 _ rfl
  rw [hi] at g0 g1
  simp only [List.drop_zero, List.drop_succ_cons, List.take_succ_cons, List.take_zero] at g0 g1
  obtain ⟨n3', e3, _, _⟩ := DataW.trod_int Try.underlying3 g0
  obtain ⟨n4', e4, _, _⟩ := DataW.trod_int Try.underlying3 g1
  obtain ⟨rt, et, sv, dv, m, em, j1, j2, j3, j4⟩ := msgFull f4
  have hs := msgSrc (em ▸ f4)
  injection e0 with e0 _
  injection e1 with e1 _
  injection e2 with e2 _
  injection e3 with e3 _
  injection e4 with e4 _
  subst e0 e1 e2 e3 e4 em
  exact ⟨⟨n0, n1, l2, n3', n4', m⟩, _, _, _, _, _, rfl, ⟨i2, j1, j2, j3, j4⟩, hs⟩
theorem ops12_of_raw {fuel : Nat} {cs : List Value} {x : DataW H × List MemPlace} (h : DataW.trod enc Try.prog w base spare held fuel 53 cs = some x) :
    ∃ v l, cs = [v] ∧ Ops12 w v l ∧ ∀ o ∈ l, Wf64 o.m.src := by
  have hc : Try.prog.cellsOf 68 = 27 := by kernel_rfl
  rcases DataW.trod_slice Try.underlying53 h with ⟨rfl, _⟩ | ⟨a, len, cap, elems, rest, n, _, rfl, rfl, _, hl, hm, hlen, hel, _, _⟩
  · exact ⟨_, [], rfl, Ops12.nil w, fun o ho => absurd ho (by simp)⟩
  · rw [hc] at hel
    have each : ∀ i (hi : i < elems.length), ∃ o : Quo.Op, Wf64 o.m.src ∧ ∃ vv rt et sv dv : Value, IsOp12 w o vv rt et sv dv ∧ ∀ j, j < 27 → w.cell? ((a.add (i * 27)).add j) = (opCells12 o vv rt et sv dv).toList[j]? := by
      intro i hi
      have h1 := hel i (by omega)
      rw [List.getElem?_eq_getElem hi, Option.bind_eq_some_iff] at h1
      obtain ⟨ds, hds, hy⟩ := h1
      obtain ⟨o, vv, rt, et, sv, dv, rfl, ht, hf⟩ := op12_of_raw hy
      exact ⟨o, hf, vv, rt, et, sv, dv, ht, (World.cells?_some hds).2.2⟩
    obtain ⟨f, hf⟩ : ∃ f : Nat → Quo.Op, ∀ i (hi : i < elems.length), Wf64 (f i).m.src ∧ ∃ vv rt et sv dv : Value, IsOp12 w (f i) vv rt et sv dv ∧ ∀ j, j < 27 → w.cell? ((a.add (i * 27)).add j) = (opCells12 (f i) vv rt et sv dv).toList[j]? := by
      have : ∀ i, ∃ o : Quo.Op, ∀ (hi : i < elems.length), Wf64 o.m.src ∧ ∃ vv rt et sv dv : Value, IsOp12 w o vv rt et sv dv ∧ ∀ j, j < 27 → w.cell? ((a.add (i * 27)).add j) = (opCells12 o vv rt et sv dv).toList[j]? := by
        intro i
        by_cases hi : i < elems.length
        · obtain ⟨o, h1⟩ := each i hi
          exact ⟨o, fun _ => h1⟩
        · exact ⟨⟨0, 0, [], 0, 0, Msg.none0⟩, fun h => absurd h hi⟩
      exact ⟨fun i => (this i).choose, fun i => (this i).choose_spec⟩
    refine ⟨_, (List.range elems.length).map f, rfl, ⟨some a, cap, by simp [hlen], by simp; omega, hm, fun e => by simp at e, fun i hi => ?_⟩, fun o ho => ?_⟩
    · have hi' : i < elems.length := by simpa using hi
      obtain ⟨_, vv, rt, et, sv, dv, ht, hk⟩ := hf i hi'
      have hs : a.spot = none := by
        obtain ⟨_, vv, rt, et, sv, dv, _, hk0⟩ := hf 0 (by omega)
        have h0 := hk0 0 (by omega)
        have e0 : (a.add (0 * 27)).add 0 = a := by simp [Addr.add]
        rw [e0] at h0
        unfold World.cell? at h0
        cases hsp : a.spot with
        | none => rfl
        | some s =>
          exfalso
          rw [hsp] at h0
          simp only [opCells12, List.getElem?_cons_zero] at h0
          split at h0 <;> simp at h0
      obtain ⟨b, off, spot⟩ := a
      simp only at hs
      subst hs
      simp only [List.getElem_map, List.getElem_range]
      refine ⟨b, off, rfl, vv, rt, et, sv, dv, fun j v hj => ?_, ht⟩
      have hj27 : j < 27 := (List.getElem?_eq_some_iff.1 hj).1
      have := hk j hj27
      rw [hj] at this
      simpa only [Addr.add_lit] using this
    · obtain ⟨i, hi, rfl⟩ := List.mem_map.1 ho
      exact (hf i (List.mem_range.1 hi)).1
end

def op012 : Quo.Op := ⟨0, 0, [], 0, 0, Msg.none0⟩
theorem opThere12 {w : World} {b : Nat} {o : Quo.Op} {vv rt et sv dv : Value} (h : OpAt12 w b o vv rt et sv dv) (k n : Nat) (hn : k + n ≤ 27) : w.there b k n := fun j hj => by
  refine ⟨?_, frozen_of_heap h _⟩
  rw [cell_of_heap h]
  have : k + j < (opCells12 o vv rt et sv dv).size := by show _ < 27; omega
  rw [Array.getElem?_eq_getElem this]
  rfl
section
variable {ops : Array Oper} {rest : List Oper} {op : Oper} {a : Act} {w : World} {Q : Exit → Act → World → Prop}
/-- A call's block, new. -/
theorem allocO12 (hw : Region.wanted op (yielded ops a.tmps) = true) (ho : op.op = .alloc 68)
    (h : ∀ W b, Hid (OpAt12 W b op012 (.slice none 0 0) (.slice none 0 0) (.slice none 0 0) (.slice none 0 0) (.slice none 0 0)) → Hid (Ext w W) → Hid (b = w.heap.size) → wpList Try.prog ops Q rest (a.put op.dst (.pointer (some ⟨b, 0, none⟩))) W) : wpList Try.prog ops Q (op :: rest) a w :=
  BigFrame.wpList_want hw fun K hK => by
    have hr : (execOp a.eval op).run Try.prog w = .ok (.value (.pointer (some ⟨w.heap.size, 0, none⟩))) (w.alloc (.cells (opCells12 op012 (.slice none 0 0) (.slice none 0 0) (.slice none 0 0) (.slice none 0 0) (.slice none 0 0)) 68)) := by
      unfold execOp
      simp only [ho]
      kernel_rfl
    unfold Oper.wp
    rw [hr]
    exact hK _ _ (h _ _ (Lib.hid (heap_alloc_new w _)) (Lib.hid (Ext.alloc _ _)) (Lib.hid rfl))
/-- A call stored whole. -/
theorem putO12 {q : Nat} {o o2 : Quo.Op} {vv rt et sv dv v0 r2 e2 s2 v2 : Value} (hw : Region.wanted op (yielded ops a.tmps) = true) (x y : Operand) (ho : op.op = .store 68 x y)
    (hx : a.eval x = .pointer (some ⟨q, 0, none⟩)) (hy : a.eval y = .agg (opCells12 o2 v0 r2 e2 s2 v2)) (hat : OpAt12 w q o vv rt et sv dv) (h0 : ∃ a n c, v0 = .slice a n c) (h1 : ∃ a n c, r2 = .slice a n c) (h2 : ∃ a n c, e2 = .slice a n c) (h3 : ∃ a n c, s2 = .slice a n c) (h4 : ∃ a n c, v2 = .slice a n c)
    (h : ∀ W, Hid (OpAt12 W q o2 v0 r2 e2 s2 v2) → Hid (But q w W) → wpList Try.prog ops Q rest (a.put op.dst undef) W) : wpList Try.prog ops Q (op :: rest) a w :=
  BigFrame.wpList_want hw fun K hK => by
    have hs : (Instr.storeAt 68 (.pointer (some ⟨q, 0, none⟩)) (.agg (opCells12 o2 v0 r2 e2 s2 v2))).run Try.prog w = .ok () (w.setCells q 0 (opCells12 o2 v0 r2 e2 s2 v2).toList) := by
      obtain ⟨_, _, _, rfl⟩ := h0
      obtain ⟨_, _, _, rfl⟩ := h1
      obtain ⟨_, _, _, rfl⟩ := h2
      obtain ⟨_, _, _, rfl⟩ := h3
      obtain ⟨_, _, _, rfl⟩ := h4
      exact run_storeAt_mid w q 0 68 _ (opThere12 hat 0 27 (by omega)) (by kernel_rfl) (by simp [opCells12, Value.oneCell'])
    have k1 : OpAt12 (w.setCells q 0 (opCells12 o2 v0 r2 e2 s2 v2).toList) q o2 v0 r2 e2 s2 v2 := heap_setCells q _ (0, 0) (opCells12 o2 v0 r2 e2 s2 v2).toList [] (opCells12 o vv rt et sv dv).toList 0 w hat rfl rfl
    have k2 : But q w (w.setCells q 0 (opCells12 o2 v0 r2 e2 s2 v2).toList) := but_setCells q _ _ _
    unfold Oper.wp execOp
    simp only [ho, hx, hy]
    rw [Sem.run_bind, hs]
    exact hK _ _ (h _ (Lib.hid k1) (Lib.hid k2))
end
theorem OpAt12.ld {w : World} {b : Nat} {o : Quo.Op} {vv rt et sv dv : Value} (h : OpAt12 w b o vv rt et sv dv) : (Instr.loadAt 68 (.pointer (some ⟨b, 0, none⟩))).run Try.prog w = .ok (.agg (opCells12 o vv rt et sv dv)) w :=
  OpHere12.ld (fun j v hj => by rw [cell_of_heap h, ← Array.getElem?_toList]; simpa using hj)
theorem Ops12.at {W : World} {a : Option Addr} {n c : Nat} {l : List Quo.Op} (h : Ops12 W (.slice a n c) l) (k : Nat) (hk : k < l.length) : ∃ b off a2 n2 c2 a3 n3 c3 a4 n4 c4 a5 n5 c5 a6 n6 c6, a = some ⟨b, off, none⟩ ∧
    (∀ w', Below W.heap.size W w' → IsOp12 w' l[k] (.slice a2 n2 c2) (.slice a3 n3 c3) (.slice a4 n4 c4) (.slice a5 n5 c5) (.slice a6 n6 c6)) ∧
    ∀ w', Below W.heap.size W w' → (Instr.loadAt 68 (.pointer (some ⟨b, off + k * 27, none⟩))).run Try.prog w' = .ok (.agg (opCells12 l[k] (.slice a2 n2 c2) (.slice a3 n3 c3) (.slice a4 n4 c4) (.slice a5 n5 c5) (.slice a6 n6 c6))) w' := by
  obtain ⟨_, _, e', _, _, _, hc⟩ := h
  obtain ⟨b, off, rfl, vv, rt, et, sv, dv, hr, ho⟩ := hc k hk
  injection e' with e1 e2 e3
  subst e1
  obtain ⟨⟨a2, n2, c2, rfl⟩, ⟨a3, n3, c3, rfl⟩, ⟨a4, n4, c4, rfl⟩, ⟨a5, n5, c5, rfl⟩, ⟨a6, n6, c6, rfl⟩⟩ := ho.slices
  exact ⟨b, off, a2, n2, c2, a3, n3, c3, a4, n4, c4, a5, n5, c5, a6, n6, c6, rfl, fun w' hb => ho.below hb, fun w' hb => OpHere12.ld fun j v hj => (hb.cell (p := ⟨b, off + k * 27 + j, none⟩) (World.block_lt_of_cell? W _ (hr j v hj))).trans (hr j v hj)⟩
def TellsBool12 (e : Ending) : Prop := ∃ b, e = .returned (.bool b)
theorem IRows.rowAt12 {w : World} {a : Option Addr} {n c : Nat} {ls : List (List Int)} (h : IRows w (.slice a n c) ls) : n ≤ c ∧ c ≤ 9223372036854775807 ∧ ∀ j, j < n → ∃ b off a' n' c', a = some ⟨b, off, none⟩ ∧ w.cell? ⟨b, off + j, none⟩ = some (.slice a' n' c') := by
  obtain ⟨a', cap, e, h1, h2, h3⟩ := h.open
  injection e with e1 e2 e3
  subst e1 e2 e3
  unfold maxLen at h2
  refine ⟨h1, h2, fun j hj => ?_⟩
  obtain ⟨b, off, x, e, hc, hi⟩ := h3 j hj
  obtain ⟨a2, n2, c2, rfl⟩ := intsSlice hi
  exact ⟨b, off, a2, n2, c2, e, hc⟩
set_option maxHeartbeats 16000000 in
theorem few12_any (cv : Value) (c : Term.C) (v : Value) (l : List Quo.Op) (w : World) (hcv : IsConf w cv c) (hv : Ops12 w v l) :
    Calls Try.prog 8 #[cv, v] w fun e w' => TellsBool12 e ∧ Ext w w' := by
  have hbx := box_confR
  have HV := Lib.hid hv
  obtain ⟨a, cap, rfl, hcap, hmax, _, _⟩ := hv
  unfold maxLen at hmax
  obtain ⟨n, hn⟩ : ∃ n, l.length = n := ⟨_, rfl⟩
  have HN := Lib.hid hn
  rw [hn] at HV hcap ⊢
  obtain ⟨s, d, rfl, hs, hd⟩ := hcv
  obtain ⟨a0, n0, k0, rfl⟩ := intsSlice hs
  obtain ⟨a1, n1, k1, rfl⟩ := irowsSlice hd
  obtain ⟨tc, htc⟩ : ∃ z, c.term = z := ⟨_, rfl⟩
  unfold confV
  rw [htc]
  have hE1 : Ext w (w.alloc (.cells #[.int .i64 tc, .slice a0 n0 k0, .slice a1 n1 k1] 25)) := Ext.alloc _ _
  obtain ⟨w1, hw1⟩ : ∃ z, w.alloc (.cells #[.int .i64 tc, .slice a0 n0 k0, .slice a1 n1 k1] 25) = z := ⟨_, rfl⟩
  obtain ⟨q, hq⟩ : ∃ z, w.heap.size = z := ⟨_, rfl⟩
  have hc1 : w1.heap[q]? = some (.cells #[.int .i64 tc, .slice a0 n0 k0, .slice a1 n1 k1] 25 (0, 0)) := by rw [← hw1, ← hq]; exact heap_alloc_new _ _
  rw [hw1] at hE1
  have HW1 := Lib.hid (And.intro hw1 hq)
  have HE1 := Lib.hid hE1
  obtain ⟨hk1, hk9, hrows⟩ := (hd.below hE1).rowAt12
  have HROWS := Lib.hid hrows
  have y1 : w1.cell? ⟨q, 1, none⟩ = some (.slice a0 n0 k0) := cell_of_heap hc1 1
  have y2 : w1.cell? ⟨q, 2, none⟩ = some (.slice a1 n1 k1) := cell_of_heap hc1 2
  clear hn hs hd hE1 hw1 hq hc1 hrows htc
  go_enter Try.func8, Try.ntmps8
  go_upto_region 1 with fail
  rw [HW1.out.1, HW1.out.2]
  go_wp2_with fail
  go_loopw [5, 7, 16] (fun s _ i wi => ∃ (j : Nat) (M : Int), j ≤ n1 ∧ s = .int .i64 M ∧ i = .int .i64 j ∧ wi = w1) (fun _ _ i _ => n1 - (intOf i).toNat)
  case atStart => exact ⟨0, _, by omega, rfl, rfl, rfl⟩
  case round =>
    obtain ⟨j, M3, hj, rfl, rfl, hw⟩ := hrel
    have hw := hw.symm
    subst hw
    by_cases hlj : j < n1
    · obtain ⟨bj, oj, aj, nj, cj, rfl, hcj⟩ := HROWS.out j hlj
      go_wp2_with fail
      exact ⟨⟨j + 1, _, by omega, rfl, by simp, by first | trivial | rfl⟩, by simp [intOf]; omega⟩
    · obtain rfl : j = n1 := by omega
      go_wp2_with fail
      go_loopw [5, 9, 28] (fun s _ i wr => ∃ (k : Nat) (M : Int), k ≤ n ∧ s = .int .i64 M ∧ i = .int .i64 k ∧ Ext w wr) (fun _ _ i _ => n - (intOf i).toNat)
      case atStart => exact ⟨0, M3, by omega, rfl, rfl, HE1.out⟩
      case round =>
        obtain ⟨k, M, hk, rfl, rfl, hE⟩ := hrel
        by_cases hlt : k < n
        · have hkl : k < l.length := by rw [HN.out]; exact hlt
          obtain ⟨b, off, a2, n2, c2, a3, n3, c3, a4, n4, c4, a5, n5, c5, a6, n6, c6, rfl, hop, hldw⟩ := HV.out.at k hkl
          have hld := hldw wr hE
          obtain ⟨o, hO⟩ : ∃ o, l[k] = o := ⟨_, rfl⟩
          rw [hO] at hld
          have HE := Lib.hid hE
          clear hldw hO hE hop
          go_upto_region 10 with (first
            | (refine ldAny (by rfl) _ rfl rfl hld ?_)
            | (refine allocO12 (by rfl) rfl ?_; intro W1 q1 hat1 hE1 hq1)
            | (refine putO12 (by rfl) _ _ rfl rfl rfl hat1.out ⟨_, _, _, rfl⟩ ⟨_, _, _, rfl⟩ ⟨_, _, _, rfl⟩ ⟨_, _, _, rfl⟩ ⟨_, _, _, rfl⟩ ?_; intro W2 hat2 hB2))
          have hE2 : Ext wr W2 := Below.trans (B := wr.heap.size) hE1.out (hB2.out.below (Nat.le_of_eq hq1.out.symm) hE1.out.size)
          have HE2 := Lib.hid (HE.out.trans hE2)
          have hcf : ∀ i x, (opCells12 o (.slice a2 n2 c2) (.slice a3 n3 c3) (.slice a4 n4 c4) (.slice a5 n5 c5) (.slice a6 n6 c6))[i]? = some x → W2.cell? ⟨q1, i, none⟩ = some x := fun i x h => (cell_of_heap hat2.out i).trans h
          have p2 : W2.cell? ⟨q1, 2, none⟩ = some (.slice a2 n2 c2) := hcf 2 _ rfl
          have p14 : W2.cell? ⟨q1, 14, none⟩ = some (.slice a3 n3 c3) := hcf 14 _ rfl
          have p15 : W2.cell? ⟨q1, 15, none⟩ = some (.string ⟨o.m.reco.data.toArray⟩) := hcf 15 _ rfl
          have p18 : W2.cell? ⟨q1, 18, none⟩ = some (.slice a4 n4 c4) := hcf 18 _ rfl
          have p25 : W2.cell? ⟨q1, 25, none⟩ = some (.slice a5 n5 c5) := hcf 25 _ rfl
          have p26 : W2.cell? ⟨q1, 26, none⟩ = some (.slice a6 n6 c6) := hcf 26 _ rfl
          obtain ⟨dd, hd⟩ : ∃ d : ByteArray, (⟨o.m.reco.data.toArray⟩ : ByteArray) = d := ⟨_, rfl⟩
          rw [hd] at p15
          clear hcf hd hE1 hq1 hat1 hat2 hB2 hld hE2
          go_wp2_with fail
          go_roundw
          case rel => exact ⟨k + 1, _, by omega, rfl, by go_num, HE2.out⟩
          case measure => simp [intOf]; omega
        · obtain rfl : k = n := by omega
          by_cases h60 : k ≤ 60
          · go_wp2_with fail
            go_ret
            exact And.intro ⟨_, rfl⟩ hE
          · go_wp2_with fail
            go_ret
            exact And.intro ⟨_, rfl⟩ hE
end Go.Proofs.Ytnoeconcpgdjlaa
