/-
  Merged: Layer 11: a row of calls, out of raw input.
-/
import Derived.Test.YtckdofhcifdpmaaGreatBsMsg
import Derived.Test.YtckdofhcifdpmaaGreatBsRpM
import Derived.Test.YtckdofhcifdpmaaGreatBsSg

namespace Go.Proofs.YtckdofhcifdpmaaGreat
set_option linter.unusedSimpArgs false
set_option linter.unusedVariables false
set_option maxRecDepth 100000
open Go.ChangeShapes Go.WideShapes Go.ChangeAt Go.RowKit
/- Layer 11: a row of calls, out of raw input; few. -/
/-- A call in the midst of a row. -/
def OpHere11 (w : World) (b off : Nat) (o : Rep.Op) : Prop := ∃ rt et sv dv, w.rangeAt b off (opCells11 o rt et sv dv).toList ∧ IsOp11 w o rt et sv dv
theorem OpHere11.below {w w' : World} {b off : Nat} {o : Rep.Op} (h : OpHere11 w b off o) (hb : Below w.heap.size w w') : OpHere11 w' b off o := by
  obtain ⟨rt, et, sv, dv, h1, h2⟩ := h
  exact ⟨rt, et, sv, dv, fun j v hj => (hb.cell (p := ⟨b, off + j, none⟩) (World.block_lt_of_cell? w _ (h1 j v hj))).trans (h1 j v hj), h2.below hb⟩
def Ops11 (w : World) (v : Value) (l : List Rep.Op) : Prop :=
  ∃ (a : Option Addr) (cap : Nat), v = .slice a l.length cap ∧ l.length ≤ cap ∧ cap ≤ maxLen ∧ (a = none → cap = 0) ∧ ∀ i (h : i < l.length), ∃ b off, a = some ⟨b, off, none⟩ ∧ OpHere11 w b (off + i * 25) l[i]
theorem Ops11.below {w w' : World} {v : Value} {l : List Rep.Op} (h : Ops11 w v l) (hb : Below w.heap.size w w') : Ops11 w' v l := by
  obtain ⟨a, cap, rfl, h1, h2, h4, h3⟩ := h
  refine ⟨a, cap, rfl, h1, h2, h4, fun i hi => ?_⟩
  obtain ⟨b, off, e, hc⟩ := h3 i hi
  exact ⟨b, off, e, hc.below hb⟩
theorem Ops11.len {w : World} {a : Option Addr} {n c : Nat} {l : List Rep.Op} (h : Ops11 w (.slice a n c) l) : n = l.length ∧ n ≤ c ∧ c ≤ 9223372036854775807 := by
  obtain ⟨_, _, e, h1, h2, _⟩ := h
  injection e with e1 e2 e3
  subst e3
  unfold maxLen at h2
  omega
theorem OpHere11.ld {w : World} {b off : Nat} {o : Rep.Op} {rt et sv dv : Value} (h : w.rangeAt b off (opCells11 o rt et sv dv).toList) : (Instr.loadAt 58 (.pointer (some ⟨b, off, none⟩))).run Tryz.prog w = .ok (.agg (opCells11 o rt et sv dv)) w :=
  run_loadAt_mid w b off 58 (opCells11 o rt et sv dv).toList _ h Tryz.underlying58 rfl (by kernel_rfl)
section
variable {H : Type} {enc : TypeId × Value → H} {w : World} {base : Nat} {spare : Nat → Bool} {held : Bool}
theorem take_of_25 {l : List Value} (h : l.length = 25) : ∃ c0 c1 cm cu, cm.length = 22 ∧ l = c0 :: c1 :: (cm ++ [cu]) := by
  match l, h with
  | c0 :: c1 :: r, h =>
    have hr : r.length = 23 := by simpa using h
    have h2 : (r.take 22).length = 22 := by rw [List.length_take]; omega
    have h3 : (r.drop 22).length = 1 := by rw [List.length_drop]; omega
    obtain ⟨cu, hcu⟩ := List.length_eq_one_iff.1 h3
    refine ⟨c0, c1, r.take 22, cu, h2, ?_⟩
    rw [← hcu, List.take_append_drop]
theorem op11_of_raw {fuel : Nat} {cs : List Value} {x : DataW H × List MemPlace} (h : DataW.trod enc Tryz.prog w base spare held fuel 58 cs = some x) :
    ∃ (o : Rep.Op) (rt et sv dv : Value), cs = (opCells11 o rt et sv dv).toList ∧ IsOp11 w o rt et sv dv ∧ Wf64 o.n := by
  obtain ⟨xs, n, _, rfl, hl, hlen, hf⟩ := DataW.trod_struct Tryz.underlying58 h
  have hc : Tryz.prog.cellsOf 58 = 25 := by kernel_rfl
  have hi : Tryz.prog.cellsOf 3 = 1 := by kernel_rfl
  have hm : Tryz.prog.cellsOf 56 = 22 := by kernel_rfl
  have hu : Tryz.prog.cellsOf 4 = 1 := by kernel_rfl
  rw [hc] at hl
  obtain ⟨c0, c1, cm, cu, h22, rfl⟩ := take_of_25 hl
  obtain ⟨y0, y1, y3, y4, rfl⟩ : ∃ a b c d, xs = [a, b, c, d] := by
    match xs, hlen with
    | [a, b, c, d], _ => exact ⟨a, b, c, d, rfl⟩
  have f0 : DataW.trod enc Tryz.prog w base spare held n 3 (List.take (Tryz.prog.cellsOf 3) (List.drop 0 (c0 :: c1 :: (cm ++ [cu])))) = some y0 := hf 0 _ rfl
  have f1 : DataW.trod enc Tryz.prog w base spare held n 3 (List.take (Tryz.prog.cellsOf 3) (List.drop 1 (c0 :: c1 :: (cm ++ [cu])))) = some y1 := hf 1 _ rfl
  have f3 : DataW.trod enc Tryz.prog w base spare held n 56 (List.take (Tryz.prog.cellsOf 56) (List.drop 2 (c0 :: c1 :: (cm ++ [cu])))) = some y3 := hf 2 _ rfl
  have f4 : DataW.trod enc Tryz.prog w base spare held n 4 (List.take (Tryz.prog.cellsOf 4) (List.drop 24 (c0 :: c1 :: (cm ++ [cu])))) = some y4 := hf 3 _ rfl
  have q3 : ((c0 :: c1 :: (cm ++ [cu])).drop 2).take 22 = cm := List.take_left' h22
  have q4 : ((c0 :: c1 :: (cm ++ [cu])).drop 24).take 1 = [cu] := by
    show ((cm ++ [cu]).drop 22).take 1 = [cu]
    rw [List.drop_left' h22]
    rfl
  rw [hi] at f0 f1
  rw [hm, q3] at f3
  rw [hu, q4] at f4
  simp only [List.drop_zero, List.drop_succ_cons, List.take_succ_cons, List.take_zero] at f0 f1
  obtain ⟨n0, e0, _, _⟩ := DataW.trod_int Tryz.underlying3 f0
  obtain ⟨n1, e1, _, hw1⟩ := DataW.trod_int Tryz.underlying3 f1
  obtain ⟨rt, et, sv, dv, m, e3, j1, j2, j3, j4⟩ := msgFull f3
  obtain ⟨b4, e4, _⟩ := DataW.trod_bool Tryz.underlying4 f4
  injection e0 with e0 _
  injection e1 with e1 _
  injection e4 with e4 _
  subst e0 e1 e3 e4
  exact ⟨⟨n0, n1, m, b4⟩, _, _, _, _, rfl, ⟨j1, j2, j3, j4⟩, hw1⟩
theorem ops11_of_raw {fuel : Nat} {cs : List Value} {x : DataW H × List MemPlace} (h : DataW.trod enc Tryz.prog w base spare held fuel 29 cs = some x) :
    ∃ v l, cs = [v] ∧ Ops11 w v l ∧ ∀ o ∈ l, Wf64 o.n := by
  have hc : Tryz.prog.cellsOf 58 = 25 := by kernel_rfl
  rcases DataW.trod_slice Tryz.underlying29 h with ⟨rfl, _⟩ | ⟨a, len, cap, elems, rest, n, _, rfl, rfl, _, hl, hm, hlen, hel, _, _⟩
  · exact ⟨_, [], rfl, ⟨none, 0, rfl, Nat.le_refl _, by simp [maxLen], fun _ => rfl, fun i hi => absurd hi (by simp)⟩, fun o ho => absurd ho (by simp)⟩
  · rw [hc] at hel
    have each : ∀ i (hi : i < elems.length), ∃ o : Rep.Op, Wf64 o.n ∧ ∃ rt et sv dv : Value, IsOp11 w o rt et sv dv ∧ ∀ j, j < 25 → w.cell? ((a.add (i * 25)).add j) = (opCells11 o rt et sv dv).toList[j]? := by
      intro i hi
      have h1 := hel i (by omega)
      rw [List.getElem?_eq_getElem hi, Option.bind_eq_some_iff] at h1
      obtain ⟨ds, hds, hy⟩ := h1
      obtain ⟨o, rt, et, sv, dv, rfl, ht, hf⟩ := op11_of_raw hy
      exact ⟨o, hf, rt, et, sv, dv, ht, (World.cells?_some hds).2.2⟩
    obtain ⟨f, hf⟩ : ∃ f : Nat → Rep.Op, ∀ i (hi : i < elems.length), Wf64 (f i).n ∧ ∃ rt et sv dv : Value, IsOp11 w (f i) rt et sv dv ∧ ∀ j, j < 25 → w.cell? ((a.add (i * 25)).add j) = (opCells11 (f i) rt et sv dv).toList[j]? := by
      have : ∀ i, ∃ o : Rep.Op, ∀ (hi : i < elems.length), Wf64 o.n ∧ ∃ rt et sv dv : Value, IsOp11 w o rt et sv dv ∧ ∀ j, j < 25 → w.cell? ((a.add (i * 25)).add j) = (opCells11 o rt et sv dv).toList[j]? := by
        intro i
        by_cases hi : i < elems.length
        · obtain ⟨o, h1⟩ := each i hi
          exact ⟨o, fun _ => h1⟩
        · exact ⟨⟨0, 0, Msg.none0, false⟩, fun h => absurd h hi⟩
      exact ⟨fun i => (this i).choose, fun i => (this i).choose_spec⟩
    refine ⟨_, (List.range elems.length).map f, rfl, ⟨some a, cap, by simp [hlen], by simp; omega, hm, fun e => by simp at e, fun i hi => ?_⟩, fun o ho => ?_⟩
    · have hi' : i < elems.length := by simpa using hi
      obtain ⟨_, rt, et, sv, dv, ht, hk⟩ := hf i hi'
      have hs : a.spot = none := by
        obtain ⟨_, rt, et, sv, dv, _, hk0⟩ := hf 0 (by omega)
        have h0 := hk0 0 (by omega)
        have e0 : (a.add (0 * 25)).add 0 = a := by simp [Addr.add]
        rw [e0] at h0
        unfold World.cell? at h0
        cases hsp : a.spot with
        | none => rfl
        | some s =>
          exfalso
          rw [hsp] at h0
          simp only [opCells11, List.getElem?_cons_zero] at h0
          split at h0 <;> simp at h0
      obtain ⟨b, off, spot⟩ := a
      simp only at hs
      subst hs
      simp only [List.getElem_map, List.getElem_range]
      refine ⟨b, off, rfl, rt, et, sv, dv, fun j v hj => ?_, ht⟩
      have hj25 : j < 25 := (List.getElem?_eq_some_iff.1 hj).1
      have := hk j hj25
      rw [hj] at this
      simpa only [Addr.add_lit] using this
    · obtain ⟨i, hi, rfl⟩ := List.mem_map.1 ho
      exact (hf i (List.mem_range.1 hi)).1
end

def op011 : Rep.Op := ⟨0, 0, Msg.none0, false⟩
theorem opThere11 {w : World} {b : Nat} {o : Rep.Op} {rt et sv dv : Value} (h : OpAt11 w b o rt et sv dv) (k n : Nat) (hn : k + n ≤ 25) : w.there b k n := fun j hj => by
  refine ⟨?_, frozen_of_heap h _⟩
  rw [cell_of_heap h]
  have : k + j < (opCells11 o rt et sv dv).size := by show _ < 25; omega
  rw [Array.getElem?_eq_getElem this]
  rfl
section
variable {ops : Array Oper} {rest : List Oper} {op : Oper} {a : Act} {w : World} {Q : Exit → Act → World → Prop}
/-- A call's block, new. -/
theorem allocO11 (hw : Region.wanted op (yielded ops a.tmps) = true) (ho : op.op = .alloc 58)
    (h : ∀ W b, Hid (OpAt11 W b op011 (.slice none 0 0) (.slice none 0 0) (.slice none 0 0) (.slice none 0 0)) → Hid (Ext w W) → Hid (b = w.heap.size) → wpList Tryz.prog ops Q rest (a.put op.dst (.pointer (some ⟨b, 0, none⟩))) W) : wpList Tryz.prog ops Q (op :: rest) a w :=
  BigFrame.wpList_want hw fun K hK => by
    have hr : (execOp a.eval op).run Tryz.prog w = .ok (.value (.pointer (some ⟨w.heap.size, 0, none⟩))) (w.alloc (.cells (opCells11 op011 (.slice none 0 0) (.slice none 0 0) (.slice none 0 0) (.slice none 0 0)) 58)) := by
      unfold execOp
      simp only [ho]
      kernel_rfl
    unfold Oper.wp
    rw [hr]
    exact hK _ _ (h _ _ (Lib.hid (heap_alloc_new w _)) (Lib.hid (Ext.alloc _ _)) (Lib.hid rfl))
/-- A call stored whole. -/
theorem putO11 {q : Nat} {o o2 : Rep.Op} {rt et sv dv r2 e2 s2 v2 : Value} (hw : Region.wanted op (yielded ops a.tmps) = true) (x y : Operand) (ho : op.op = .store 58 x y)
    (hx : a.eval x = .pointer (some ⟨q, 0, none⟩)) (hy : a.eval y = .agg (opCells11 o2 r2 e2 s2 v2)) (hat : OpAt11 w q o rt et sv dv) (h1 : ∃ a n c, r2 = .slice a n c) (h2 : ∃ a n c, e2 = .slice a n c) (h3 : ∃ a n c, s2 = .slice a n c) (h4 : ∃ a n c, v2 = .slice a n c)
    (h : ∀ W, Hid (OpAt11 W q o2 r2 e2 s2 v2) → Hid (But q w W) → wpList Tryz.prog ops Q rest (a.put op.dst undef) W) : wpList Tryz.prog ops Q (op :: rest) a w :=
  BigFrame.wpList_want hw fun K hK => by
    have hs : (Instr.storeAt 58 (.pointer (some ⟨q, 0, none⟩)) (.agg (opCells11 o2 r2 e2 s2 v2))).run Tryz.prog w = .ok () (w.setCells q 0 (opCells11 o2 r2 e2 s2 v2).toList) := by
      obtain ⟨_, _, _, rfl⟩ := h1
      obtain ⟨_, _, _, rfl⟩ := h2
      obtain ⟨_, _, _, rfl⟩ := h3
      obtain ⟨_, _, _, rfl⟩ := h4
      exact run_storeAt_mid w q 0 58 _ (opThere11 hat 0 25 (by omega)) (by kernel_rfl) (by simp [opCells11, Value.oneCell'])
    have k1 : OpAt11 (w.setCells q 0 (opCells11 o2 r2 e2 s2 v2).toList) q o2 r2 e2 s2 v2 := heap_setCells q _ (0, 0) (opCells11 o2 r2 e2 s2 v2).toList [] (opCells11 o rt et sv dv).toList 0 w hat rfl rfl
    have k2 : But q w (w.setCells q 0 (opCells11 o2 r2 e2 s2 v2).toList) := but_setCells q _ _ _
    unfold Oper.wp execOp
    simp only [ho, hx, hy]
    rw [Sem.run_bind, hs]
    exact hK _ _ (h _ (Lib.hid k1) (Lib.hid k2))
end
theorem OpAt11.ld {w : World} {b : Nat} {o : Rep.Op} {rt et sv dv : Value} (h : OpAt11 w b o rt et sv dv) : (Instr.loadAt 58 (.pointer (some ⟨b, 0, none⟩))).run Tryz.prog w = .ok (.agg (opCells11 o rt et sv dv)) w :=
  OpHere11.ld (fun j v hj => by rw [cell_of_heap h, ← Array.getElem?_toList]; simpa using hj)
def TellsBool11 (e : Ending) : Prop := ∃ b, e = .returned (.bool b)
theorem IRows.rowAt11 {w : World} {a : Option Addr} {n c : Nat} {ls : List (List Int)} (h : IRows w (.slice a n c) ls) : n ≤ c ∧ c ≤ 9223372036854775807 ∧ ∀ j, j < n → ∃ b off a' n' c', a = some ⟨b, off, none⟩ ∧ w.cell? ⟨b, off + j, none⟩ = some (.slice a' n' c') := by
  obtain ⟨a', cap, e, h1, h2, h3⟩ := h.open
  injection e with e1 e2 e3
  subst e1 e2 e3
  unfold maxLen at h2
  refine ⟨h1, h2, fun j hj => ?_⟩
  obtain ⟨b, off, x, e, hc, hi⟩ := h3 j hj
  obtain ⟨a2, n2, c2, rfl⟩ := intsSlice hi
  exact ⟨b, off, a2, n2, c2, e, hc⟩
set_option maxHeartbeats 16000000 in
theorem few11_any (v : Value) (l : List Rep.Op) (w : World) (hv : Ops11 w v l) :
    Calls Tryz.prog 11 #[v] w fun e w' => TellsBool11 e ∧ Ext w w' := by
  have HV := Lib.hid hv
  obtain ⟨a, cap, rfl, hcap, hmax, _, _⟩ := hv
  unfold maxLen at hmax
  obtain ⟨n, hn⟩ : ∃ n, l.length = n := ⟨_, rfl⟩
  have HN := Lib.hid hn
  rw [hn] at HV hcap ⊢
  clear hn
  go_enter Tryz.func11, Tryz.ntmps11
  go_wp2_with fail
  go_loopw [3, 10] (fun s i wr => ∃ (k : Nat) (M : Int), k ≤ n ∧ s = .int .i64 M ∧ i = .int .i64 k ∧ Ext w wr) (fun _ i _ => n - (intOf i).toNat)
  case atStart => exact ⟨0, 0, by omega, rfl, rfl, Ext.refl _⟩
  case round =>
    obtain ⟨k, M, hk, rfl, rfl, hE⟩ := hrel
    by_cases hlt : k < n
    · have hkl : k < l.length := by rw [HN.out]; exact hlt
      obtain ⟨_, _, e', _, _, _, hc⟩ := HV.out.below hE
      obtain ⟨b, off, rfl, rt, et, sv, dv, hr, ho⟩ := hc k hkl
      injection e' with e1 e2 e3
      subst e1
      have hld := OpHere11.ld hr
      obtain ⟨⟨a3, n3, c3, rfl⟩, ⟨a4, n4, c4, rfl⟩, ⟨a5, n5, c5, rfl⟩, ⟨a6, n6, c6, rfl⟩⟩ := ho.slices
      obtain ⟨o, hO⟩ : ∃ o, l[k] = o := ⟨_, rfl⟩
      rw [hO] at ho hld
      have HO := Lib.hid ho
      have HE := Lib.hid hE
      clear hc hr ho hO e2 e3 hE
      go_upto_region 5 with (first
        | (refine ldAny (by rfl) _ rfl rfl hld ?_)
        | (refine allocO11 (by rfl) rfl ?_; intro W1 q hat1 hE1 hq1)
        | (refine putO11 (by rfl) _ _ rfl rfl rfl hat1.out ⟨_, _, _, rfl⟩ ⟨_, _, _, rfl⟩ ⟨_, _, _, rfl⟩ ⟨_, _, _, rfl⟩ ?_; intro W2 hat2 hB2))
      have hE2 : Ext wr W2 := Below.trans (B := wr.heap.size) hE1.out (hB2.out.below (Nat.le_of_eq hq1.out.symm) hE1.out.size)
      have HE2 := Lib.hid (HE.out.trans hE2)
      have hcf : ∀ i x, (opCells11 o (.slice a3 n3 c3) (.slice a4 n4 c4) (.slice a5 n5 c5) (.slice a6 n6 c6))[i]? = some x → W2.cell? ⟨q, i, none⟩ = some x := fun i x h => (cell_of_heap hat2.out i).trans h
      have p11 : W2.cell? ⟨q, 11, none⟩ = some (.slice a3 n3 c3) := hcf 11 _ rfl
      have p12 : W2.cell? ⟨q, 12, none⟩ = some (.string ⟨o.m.reco.data.toArray⟩) := hcf 12 _ rfl
      have p15 : W2.cell? ⟨q, 15, none⟩ = some (.slice a4 n4 c4) := hcf 15 _ rfl
      have p22 : W2.cell? ⟨q, 22, none⟩ = some (.slice a5 n5 c5) := hcf 22 _ rfl
      have p23 : W2.cell? ⟨q, 23, none⟩ = some (.slice a6 n6 c6) := hcf 23 _ rfl
      obtain ⟨d, hd⟩ : ∃ d : ByteArray, (⟨o.m.reco.data.toArray⟩ : ByteArray) = d := ⟨_, rfl⟩
      rw [hd] at p12
      have HR6 := Lib.hid (HO.out.hdv.below hE2)
      clear hcf hd hE1 hq1 hat1 hat2 hB2 hld hE2
      obtain ⟨q3, q4, hrow6⟩ := HR6.out.rowAt11
      have HROW6 := Lib.hid hrow6
      clear hrow6
      go_wp2_with fail
      go_loopw [3, 44] (fun s i wi => ∃ (j : Nat) (M : Int), j ≤ n6 ∧ s = .int .i64 M ∧ i = .int .i64 j ∧ wi = W2) (fun _ i _ => n6 - (intOf i).toNat)
      case atStart => exact ⟨0, _, by omega, rfl, rfl, rfl⟩
      case round =>
        obtain ⟨j, M3, hj, rfl, rfl, hw⟩ := hrel
        have hw := hw.symm
        subst hw
        by_cases hlj : j < n6
        · obtain ⟨bj, oj, aj, nj, cj, rfl, hcj⟩ := HROW6.out j hlj
          go_wp2_with fail
          exact ⟨⟨j + 1, _, by omega, rfl, by simp, by first | trivial | rfl⟩, by simp [intOf]; omega⟩
        · obtain rfl : j = n6 := by omega
          go_wp2_with fail
          exact ⟨⟨k + 1, _, by omega, rfl, by simp, HE2.out⟩, by simp [intOf]; omega⟩
    · obtain rfl : k = n := by omega
      by_cases h50 : k ≤ 50
      · go_wp2_with fail
        go_ret
        exact And.intro ⟨_, rfl⟩ hE
      · go_wp2_with fail
        go_ret
        exact And.intro ⟨_, rfl⟩ hE
theorem Ops11.at {W : World} {a : Option Addr} {n c : Nat} {l : List Rep.Op} (h : Ops11 W (.slice a n c) l) (k : Nat) (hk : k < l.length) : ∃ b off a3 n3 c3 a4 n4 c4 a5 n5 c5 a6 n6 c6, a = some ⟨b, off, none⟩ ∧
    (∀ w', Below W.heap.size W w' → IsOp11 w' l[k] (.slice a3 n3 c3) (.slice a4 n4 c4) (.slice a5 n5 c5) (.slice a6 n6 c6)) ∧
    ∀ w', Below W.heap.size W w' → (Instr.loadAt 58 (.pointer (some ⟨b, off + k * 25, none⟩))).run Tryz.prog w' = .ok (.agg (opCells11 l[k] (.slice a3 n3 c3) (.slice a4 n4 c4) (.slice a5 n5 c5) (.slice a6 n6 c6))) w' := by
  obtain ⟨_, _, e', _, _, _, hc⟩ := h
  obtain ⟨b, off, rfl, rt, et, sv, dv, hr, ho⟩ := hc k hk
  injection e' with e1 e2 e3
  subst e1
  obtain ⟨⟨a3, n3, c3, rfl⟩, ⟨a4, n4, c4, rfl⟩, ⟨a5, n5, c5, rfl⟩, ⟨a6, n6, c6, rfl⟩⟩ := ho.slices
  exact ⟨b, off, a3, n3, c3, a4, n4, c4, a5, n5, c5, a6, n6, c6, rfl, fun w' hb => ho.below hb, fun w' hb => OpHere11.ld fun j v hj => (hb.cell (p := ⟨b, off + k * 25 + j, none⟩) (World.block_lt_of_cell? W _ (hr j v hj))).trans (hr j v hj)⟩
end Go.Proofs.YtckdofhcifdpmaaGreat
