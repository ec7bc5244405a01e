/-
  Merged: Layer 14, the program: Find.
-/
import Derived.Test.YtkpcmedmiiohnaaBsRgF
import Derived.Test.YtkpcmedmiiohnaaBsRound2

namespace Go.Proofs.Ytkpcmedmiiohnaa
set_option linter.unusedSimpArgs false
set_option linter.unusedVariables false
set_option maxRecDepth 100000
open Go.RowKit Go.Shelf
/- Layer 14, the program: Find. -/
attribute [local go_sem] Oper.semAt_some

/-- A row as it is told: its number, and what it holds. -/
structure RowX where
  i : Nat
  T : Int
  a1 : Option Addr
  n1 : Nat
  c1 : Nat
  a2 : Option Addr
  n2 : Nat
  c2 : Nat
  a3 : Option Addr
  n3 : Nat
  c3 : Nat
  S : Int
def RowX.cells (x : RowX) : Array Value := #[.int .i64 x.T, .slice x.a1 x.n1 x.c1, .slice x.a2 x.n2 x.c2, .slice x.a3 x.n3 x.c3, .int .i64 x.S]
def RowX.encs (x : RowX) : Array Value := #[.int .i64 (x.i : Int), .agg #[.int .i64 x.T, .slice x.a1 x.n1 x.c1, .slice x.a2 x.n2 x.c2, .slice x.a3 x.n3 x.c3, .int .i64 x.S]]
structure RowX.At (w : World) (g : Nat) (x : RowX) (i : Nat) : Prop where
  is : x.i = i
  k0 : w.cell? ⟨g, i * 5, none⟩ = some (.int .i64 x.T)
  k1 : w.cell? ⟨g, i * 5 + 1, none⟩ = some (.slice x.a1 x.n1 x.c1)
  k2 : w.cell? ⟨g, i * 5 + 2, none⟩ = some (.slice x.a2 x.n2 x.c2)
  k3 : w.cell? ⟨g, i * 5 + 3, none⟩ = some (.slice x.a3 x.n3 x.c3)
  k4 : w.cell? ⟨g, i * 5 + 4, none⟩ = some (.int .i64 x.S)
theorem RowX.At.below {w w' : World} {g i : Nat} {x : RowX} (h : x.At w g i) (hb : Below w.heap.size w w') : x.At w' g i := by
  have up : ∀ {a v}, w.cell? a = some v → w'.cell? a = some v := fun {a v} h => (hb.cell (World.block_lt_of_cell? w _ h)).trans h
  exact ⟨h.is, up h.k0, up h.k1, up h.k2, up h.k3, up h.k4⟩
theorem cellsKept14 {W W' : World} {row : Option Nat} (hg : W.grownBy W' row) (hr : ∀ r, row = some r → ∃ o : Obj, W.heap[r]? = some o ∧ o.isCells = false) {k : Nat} {cs : Array Value} {t : TypeId} {fr : Nat × Nat} (h : W.heap[k]? = some (.cells cs t fr)) : W'.heap[k]? = some (.cells cs t fr) := by
  refine (hg.block k (Array.getElem?_eq_some_iff.1 h).1 fun e => ?_).trans h
  obtain ⟨o, ho, hc⟩ := hr k e.symm
  rw [h] at ho
  cases ho
  cases hc
set_option maxHeartbeats 4000000 in
theorem back14_in (m : Nat) (hm : 1 ≤ m) (l b g n c : Nat) (X : List RowX) (wq : World) (hn : X.length = n) (hnc : n ≤ c ∧ c ≤ 9223372036854775807)
    (hc : ∀ i (hi : i < X.length), X[i].At wq g i)
    (J Jx : List RowX → World → Prop) (W : World)
    (hY : ∀ pre x V, J pre V → pre.length < n → YieldAt Fence.wide (m - 1) Try.prog l x.encs V fun e V' =>
      (e = .returned (.bool true) ∧ J (pre ++ [x]) V' ∧ Below wq.heap.size V V') ∨ (e = .returned (.bool false) ∧ Jx (pre ++ [x]) V'))
    (hW : Below wq.heap.size wq W) (hb : wq.cell? ⟨b, 0, none⟩ = some (.slice (some ⟨g, 0, none⟩) n c)) (h0 : J [] W) :
    CallsIn Fence.wide m Try.prog 57 #[.func (.yield l) #[] #[], .pointer (some ⟨b, 0, none⟩)] W fun e W' => (∃ v, e = .returned v) ∧
      ((∃ xs, xs = X.reverse ∧ J xs W') ∨ (∃ pre, (∃ k, k < n ∧ pre = (X.drop k).reverse) ∧ Jx pre W')) := by
  have HC := Lib.hid hc
  have HB := Lib.hid (fun (V : World) (hV : Below wq.heap.size wq V) => (hV.cell (World.block_lt_of_cell? wq _ hb)).trans hb)
  have HY := Lib.hid hY
  have HN := Lib.hid hn
  have HW := Lib.hid hW
  have hbW := HB.out W hW
  have hwr : Hid (IntKind.i64.wrap ((n : Int) - 1) = (n : Int) - 1) := Lib.hid (IntWalk.i64_in _ (by omega))
  clear hc hb hY hn hW
  refine callsIn_of_wp Try.func57 rfl trivial ?_ rfl
  simp only [Try.ntmps57, List.size_toArray, List.length_cons, List.length_nil, Nat.reduceAdd, Nat.reduceSub, Array.replicate_succ, Array.replicate_zero, List.push_toArray, List.append_toArray, List.nil_append, List.cons_append]
  have hwr' := hwr.out
  gi_wp2
  clear hwr' hbW
  gi_loopw [3] (fun i wr => ∃ k : Nat, k ≤ n ∧ i = .int .i64 ((k : Int) - 1) ∧ Hid (J (X.drop k).reverse wr ∧ Below wq.heap.size wq wr)) (fun i _ => (intOf i + 1).toNat)
  case atStart => exact ⟨n, Nat.le_refl _, rfl, Lib.hid ⟨by rw [List.drop_of_length_le (by rw [HN.out]; exact Nat.le_refl _)]; exact h0, HW.out⟩⟩
  case round =>
    obtain ⟨k, hk, rfl, hI⟩ := hrel
    cases k with
    | zero =>
      gi_wp2
      go_end0
      exact ⟨⟨_, rfl⟩, .inl ⟨_, rfl, hI.out.1⟩⟩
    | succ k =>
      rw [show (((k + 1 : Nat) : Int) - 1) = (k : Int) by omega]
      have hkl : k < X.length := by rw [HN.out]; omega
      have hx := (HC.out k hkl).below hI.out.2
      have hsucc : Hid ((X.drop (k + 1)).reverse ++ [X[k]] = (X.drop k).reverse) := Lib.hid (by
        rw [List.drop_eq_getElem_cons hkl, List.reverse_cons])
      have hy0 := HY.out (X.drop (k + 1)).reverse X[k] wr hI.out.1 (by rw [List.length_reverse, List.length_drop, HN.out]; omega)
      rw [hsucc.out] at hy0
      obtain ⟨xk, hxk⟩ : ∃ z, X[k] = z := ⟨_, rfl⟩
      rw [hxk] at hx hy0
      obtain ⟨xi, T, a1, n1, c1, a2, n2, c2, a3, n3, c3, S⟩ := xk
      obtain ⟨hxi, d0, d1, d2, d3, d4⟩ := hx
      simp only at hxi d0 d1 d2 d3 d4
      subst hxi
      unfold RowX.encs at hy0
      simp only at hy0
      obtain ⟨fn, tmps, assign, body, hy, hR⟩ := hy0
      have hbw := HB.out wr hI.out.2
      have hwr2 : IntKind.i64.wrap ((xi : Int) - 1) = (xi : Int) - 1 := IntWalk.i64_in _ (by omega)
      clear hsucc hxk
      gi_wp2
      refine hR.mono ?_
      rintro e W3 (⟨rfl, hJ3, hk3⟩ | ⟨rfl, hJx3⟩)
      · have HJ3 := Lib.hid (And.intro hJ3 (hI.out.2.trans hk3))
        clear hJ3 hk3
        gi_wp2
        go_roundw
        case rel => exact ⟨xi, by omega, rfl, HJ3⟩
        case measure => simp [intOf]
      · gi_wp2
        refine bodyPost_ret (results_none rfl _ _ _) rfl ?_
        exact ⟨⟨_, rfl⟩, .inr ⟨_, ⟨xi, by omega, rfl⟩, hJx3⟩⟩
theorem back14_stops (m : Nat) (hm : 1 ≤ m) (b g n c : Nat) (X : List RowX) (wq : World) (hn : X.length = n) (hnc : n ≤ c ∧ c ≤ 9223372036854775807)
    (hc : ∀ i (hi : i < X.length), X[i].At wq g i)
    (hb : wq.cell? ⟨b, 0, none⟩ = some (.slice (some ⟨g, 0, none⟩) n c)) :
    SeqStopsK Fence.wide m Try.prog 57 #[.pointer (some ⟨b, 0, none⟩)] RowX.encs (fun V V' => Below wq.heap.size V V') (fun xs => xs = X.reverse) (fun pre => ∃ k, k < n ∧ pre = (X.drop k).reverse) n wq := fun l J Jx W hW hJ _ hY h0 =>
  back14_in m hm l b g n c X wq hn hnc hc J Jx W hY hW hb h0
theorem backward14_any (v : Value) (w : World) (hv : ∃ a n c, v = .slice a n c) : Calls Try.prog 39 #[v] w fun e w' => ∃ b : Nat, e = .returned (.func (.func 57) #[] #[.pointer (some ⟨b, 0, none⟩)]) ∧ Ext w w' ∧ w'.cell? ⟨b, 0, none⟩ = some v := by
  obtain ⟨a, n, c, rfl⟩ := hv
  go_enter Try.func39, Try.ntmps39
  go_wp2
  go_ret
  refine ⟨w.heap.size, rfl, Ext.alloc _ _, ?_⟩
  have h1 := heap_alloc_new w (.cells #[.slice a n c] 69)
  rw [cell_of_heap h1]
  rfl
end Go.Proofs.Ytkpcmedmiiohnaa
