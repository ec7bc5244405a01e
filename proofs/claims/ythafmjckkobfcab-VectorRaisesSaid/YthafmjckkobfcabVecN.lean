/-
  Layer 3, the program: rows of rows of numbers, and the iterator that goes through the numbers of one shard.
-/
import Derived.Test.YthafmjckkobfcabVecB
import Derived.RangeFuncNested
import Derived.RangeFuncBound
import Derived.RangeFuncCalls
import Derived.RangeFuncLeaves
import Derived.RangeFuncBox
import Derived.Shelf.Abstract
import Derived.OwnWalkIn
import Derived.TacticsInMore
import Derived.LoopNIn
import Derived.LoopIn
namespace Go.Proofs.Ythafmjckkobfcab
open Go.RowKit Go.Shelf
attribute [local go_sem] Oper.semAt_some

/-- A [][]int that reads as these. -/
def IRows (w : World) (v : Value) (ls : List (List Int)) : Prop :=
  ∃ xs : List Value, Sl w v xs ∧ xs.length = ls.length ∧ ∀ i (h : i < xs.length) (h' : i < ls.length), Ints w xs[i] ls[i]
theorem IRows.below {w w' : World} {v : Value} {ls : List (List Int)} (h : IRows w v ls) (hb : Below w.heap.size w w') : IRows w' v ls := by
  obtain ⟨xs, h1, h2, h3⟩ := h
  exact ⟨xs, h1.below hb, h2, fun i h h' => (h3 i h h').below hb⟩
theorem IRows.open {w : World} {v : Value} {ls : List (List Int)} (h : IRows w v ls) : ∃ (a : Option Addr) (cap : Nat), v = .slice a ls.length cap ∧ ls.length ≤ cap ∧ cap ≤ maxLen ∧
    ∀ i (hi : i < ls.length), ∃ b off x, a = some ⟨b, off, none⟩ ∧ w.cell? ⟨b, off + i, none⟩ = some x ∧ Ints w x ls[i] := by
  obtain ⟨xs, ⟨a, cap, rfl, h1, h2, _, h3⟩, h4, h5⟩ := h
  refine ⟨a, cap, by rw [h4], by omega, h2, fun i hi => ?_⟩
  obtain ⟨b, off, e, hc⟩ := h3 i (by omega)
  exact ⟨b, off, xs[i]'(by omega), e, hc, h5 i (by omega) hi⟩
theorem IRows.mk {w : World} (vs : List Value) (ls : List (List Int)) (e : TypeId) (n : Nat) (h1 : vs.length = n) (h2 : ls.length = n) (hn : n ≤ maxLen) (h : ∀ i (h : i < vs.length) (h' : i < ls.length), Ints w vs[i] ls[i]) :
    IRows (w.alloc (.cells vs.toArray e)) (.slice (some ⟨w.heap.size, 0, none⟩) n n) ls :=
  ⟨vs, Sl.made w vs e n h1 hn (fr := (0, 0)), by omega, fun i h3 h4 => (h i h3 h4).below (Ext.alloc w _)⟩

/-- The numbers that they have of one shard. -/
def column (ls : List (List Int)) (k : Nat) : List Int := ls.map fun r => r.getD k 0
@[simp] theorem column_length (ls : List (List Int)) (k : Nat) : (column ls k).length = ls.length := by simp [column]
theorem column_take_succ (ls : List (List Int)) (k j : Nat) (hj : j < ls.length) (hk : k < ls[j].length) : (column ls k).take (j + 1) = (column ls k).take j ++ [ls[j][k]] := by
  rw [take_succ_getD _ j (by simpa using hj)]
  simp [column, hk]

/-- What a round of a loop over them keeps: what lay ahead, and the box of the shard's number. -/
def Kept (n₀ B : Nat) (W W' : World) : Prop := Below n₀ W W' ∧ ∀ v, W.cell? ⟨B, 0, none⟩ = some v → W'.cell? ⟨B, 0, none⟩ = some v
theorem Kept.refl (n₀ B : Nat) (W : World) : Kept n₀ B W W := ⟨Below.refl _ _, fun _ h => h⟩
theorem Kept.trans {n₀ B : Nat} {a b c : World} (h : Kept n₀ B a b) (k : Kept n₀ B b c) : Kept n₀ B a c := ⟨h.1.trans k.1, fun v hv => k.2 v (h.2 v hv)⟩
theorem kept_b {n₀ B : Nat} {w : World} (hn : n₀ ≤ w.heap.size) (W : World) (l : Nat) (o o' : Obj) (hl : w.heap.size ≤ l) (h : W.heap[l]? = some o) (h1 : o.isCells = false) (h2 : o.isWalk = false) : Kept n₀ B W (W.putObj l o') :=
  ⟨belowK_b hn W l o o' hl h h1 h2, fun v hv => cell_kept hv (grownBy_putObj' W l o') (fun r e => by cases e; exact ⟨o, h, h1⟩)⟩

set_option maxRecDepth 100000 in
set_option maxHeartbeats 2000000 in
theorem numbers1_in (F : Fence) (n : Nat) (h70 : F.fn 70) (hro : F.round = none) (hn : 1 ≤ n) (l Bl Bs : Nat) (lv : Value) (ls : List (List Int)) (k : Nat) (wq : World) (hL : IRows wq lv ls) (hlong : ∀ r ∈ ls, k < r.length)
    (J Jx : List Int → World → Prop)
    (hY : ∀ pre x W, J pre W → pre.length < ls.length → YieldAt F (n - 1) Try.prog l #[.int .i64 x] W fun e W' =>
      (e = .returned (.bool true) ∧ J (pre ++ [x]) W' ∧ Kept wq.heap.size Bs W W') ∨ (e = .returned (.bool false) ∧ Jx (pre ++ [x]) W'))
    (W : World) (hW : Below wq.heap.size wq W) (hBl : W.cell? ⟨Bl, 0, none⟩ = some lv) (hBs : W.cell? ⟨Bs, 0, none⟩ = some (.int .i64 (k : Int))) (h0 : J [] W) :
    CallsIn F n Try.prog 70 #[.func (.yield l) #[] #[], .pointer (some ⟨Bl, 0, none⟩), .pointer (some ⟨Bs, 0, none⟩)] W fun e W' => (∃ v, e = .returned v) ∧
      ((∃ ys, ys = column ls k ∧ J ys W') ∨ (∃ pre, pre <+: column ls k ∧ Jx pre W')) := by
  obtain ⟨a, cap, rfl, hcap, hmax, _⟩ := hL.open
  unfold maxLen at hmax
  have HL := Lib.hid hL
  clear hL
  refine callsIn_of_wp Try.func70 rfl h70 ?_ hro
  simp only [Try.ntmps70, List.size_toArray, List.length_cons, List.length_nil, Nat.reduceAdd, Nat.reduceSub, Array.replicate_succ, Array.replicate_zero, List.push_toArray, List.append_toArray, List.nil_append, List.cons_append]
  gi_wp2
  gi_loopw [5, 8] (fun _ i wr => ∃ j : Nat, j ≤ ls.length ∧ i = .int .i64 j ∧ J ((column ls k).take j) wr ∧ Kept wq.heap.size Bs W wr)
    (fun _ i _ => ls.length - (intOf i).toNat)
  case atStart => exact ⟨0, by omega, rfl, h0, Kept.refl _ _ _⟩
  case round =>
    obtain ⟨j, hj, rfl, hJs, hnx⟩ := hrel
    by_cases hlt : j < ls.length
    · have hkl : k < ls[j].length := hlong _ (List.getElem_mem hlt)
      obtain ⟨a2, cap2, e2, _, _, hrow⟩ := (HL.out.below (hW.trans hnx.1)).open
      obtain ⟨b, off, x, rfl, hcx, hix⟩ := hrow j hlt
      injection e2 with e3 e4 e5
      obtain ⟨ax, capx, rfl, hcapx, hmaxx, _, hnum⟩ := hix.open
      obtain ⟨bx, offx, rfl, hcn⟩ := hnum k hkl
      unfold maxLen at hmaxx
      subst e3
      have hbs := hnx.2 _ hBs
      have hsucc := Lib.hid (column_take_succ ls k j hlt hkl)
      obtain ⟨fn, tmps, assign, body, hy, hR⟩ := hY _ ls[j][k] wr hJs (by simp; omega)
      clear hrow hnum hix e4 e5
      gi_wp2
      refine hR.mono ?_
      rintro e W3 (⟨rfl, hJ3, hk3⟩ | ⟨rfl, hJx3⟩)
      · gi_wp2
        go_roundw
        case rel => exact ⟨j + 1, by omega, by simp, by rw [hsucc.out]; exact hJ3, hnx.trans hk3⟩
        case measure => simp [intOf]; omega
      · gi_wp2
        refine bodyPost_ret (results_none rfl _ _ _) rfl ?_
        exact ⟨⟨_, rfl⟩, .inr ⟨_, by rw [← hsucc.out]; exact List.take_prefix _ _, hJx3⟩⟩
    · obtain rfl : j = ls.length := by omega
      gi_wp2
      go_end0
      exact ⟨⟨_, rfl⟩, .inl ⟨_, rfl, by rw [List.take_of_length_le (by simp)] at hJs; exact hJs⟩⟩

theorem ext_two' (w : World) (x y : Obj) : Ext w ((w.alloc x).alloc y) := (Ext.alloc _ _).trans (Ext.alloc _ _)

theorem numbers_stops (F : Fence) (n : Nat) (h70 : F.fn 70) (hro : F.round = none) (hn : 1 ≤ n) (Bl Bs : Nat) (lv : Value) (ls : List (List Int)) (k : Nat) (wq w : World) (hL : IRows wq lv ls) (hlong : ∀ r ∈ ls, k < r.length)
    (hw : Below wq.heap.size wq w) (hBl : w.cell? ⟨Bl, 0, none⟩ = some lv) (hBs : w.cell? ⟨Bs, 0, none⟩ = some (.int .i64 (k : Int))) (hBl' : Bl < w.heap.size) (hBs' : Bs < w.heap.size) :
    SeqStopsK F n Try.prog 70 #[.pointer (some ⟨Bl, 0, none⟩), .pointer (some ⟨Bs, 0, none⟩)] (fun x : Int => #[Value.int .i64 x]) (Kept wq.heap.size Bs) (fun ys => ys = column ls k) (fun pre => pre <+: column ls k) ls.length w := fun l J Jx W hW _ _ hY h0 =>
  numbers1_in F n h70 hro hn l Bl Bs lv ls k wq hL hlong J Jx hY W (hw.trans (hW.mono hw.size)) ((hW.cell (p := ⟨Bl, 0, none⟩) hBl').trans hBl) ((hW.cell (p := ⟨Bs, 0, none⟩) hBs').trans hBs) h0

set_option maxRecDepth 100000 in
set_option maxHeartbeats 1000000 in
theorem numbers_any (v : Value) (k : Int) (w : World) (hv : ∃ a n c, v = .slice a n c) :
    Calls Try.prog 63 #[v, .int .i64 k] w fun e w' => ∃ Bl Bs : Nat, e = .returned (.func (.func 70) #[] #[.pointer (some ⟨Bl, 0, none⟩), .pointer (some ⟨Bs, 0, none⟩)]) ∧
      Ext w w' ∧ w'.cell? ⟨Bl, 0, none⟩ = some v ∧ w'.cell? ⟨Bs, 0, none⟩ = some (.int .i64 k) ∧ Bl < w'.heap.size ∧ Bs < w'.heap.size ∧ w.heap.size ≤ Bs := by
  obtain ⟨a, n, c, rfl⟩ := hv
  go_enter Try.func63, Try.ntmps63
  go_wp2
  go_ret
  refine ⟨w.heap.size, w.heap.size + 1, rfl, ext_two' _ _ _, ?_, ?_, by simp; omega, by simp, by simp⟩
  · have h1 := World.alloc_heap_new w (.cells #[.slice a n c] 41)
    have h2 := Below.heap_alloc (w.alloc (.cells #[.slice a n c] 41)) (.cells #[.int .i64 k] 3) w.heap.size (by simp)
    rw [cell_of_heap (h2.trans h1)]
    rfl
  · have h1 := World.alloc_heap_new (w.alloc (.cells #[.slice a n c] 41)) (.cells #[.int .i64 k] 3)
    rw [World.size_alloc] at h1
    rw [cell_of_heap h1]
    rfl
end Go.Proofs.Ythafmjckkobfcab
