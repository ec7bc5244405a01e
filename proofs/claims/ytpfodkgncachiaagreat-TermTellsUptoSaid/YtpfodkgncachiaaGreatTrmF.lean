/-
  Layer 6: rows of nodes are read: by the program, and by the document.
-/
import Derived.Test.YtpfodkgncachiaaGreatTrmE
import Derived.Test.YtpfodkgncachiaaGreatTermRead
import Derived.Test.YtpfodkgncachiaaGreatLibO
import Derived.Test.YtpfodkgncachiaaGreatPackRefPart
namespace Go.Proofs.YtpfodkgncachiaaGreat
set_option linter.unusedSimpArgs false
set_option linter.unusedVariables false
set_option maxRecDepth 100000
open Go.RowKit

set_option maxHeartbeats 4000000 in
theorem readRow6_any (p m : Nat) (s : Pack.St) (w : World) (h : RD w p s) (hm : m ≤ 100) :
    Calls Tryz.prog 46 #[.pointer (some ⟨p, 0, none⟩), .int .i64 (m : Int)] w fun e w' => ∃ v, e = .returned v ∧ OwnI w' w.heap.size v (Term.gRow m 15 s).2 ∧ But p w w' ∧ RD w' p (Term.gRow m 15 s).1 := by
  obtain ⟨S1, hS1⟩ : ∃ S1, (s.num m).1 = S1 := ⟨_, rfl⟩
  obtain ⟨n, hn⟩ : ∃ n, (s.num m).2 = n := ⟨_, rfl⟩
  have hnm : n ≤ 100 := by have := numMost s m (by omega); rw [hn] at this; omega
  have HG := Lib.hid (show Term.gRow m 15 s = Rec.readsM 15 S1 n by unfold Term.gRow; rw [hS1, hn])
  have HS1 := Lib.hid hS1
  have HN := Lib.hid hn
  have HR := Lib.hid h
  have ti := tI
  clear hS1 hn h
  rw [HG.out]
  go_enter Tryz.func46, Tryz.ntmps46
  go_wp2_with fail
  refine (num_any p s m _ HR.out).mono ?_
  rw [HS1.out, HN.out]
  rintro e w1 ⟨rfl, hB1, hr1⟩
  go_wp2_with fail
  go_loopw [5, 9] (fun tv i wr => ∃ k : Nat, k ≤ n ∧ i = .int .i64 k ∧ wr.ownsRow w.heap.size 3 1 tv k (i64s (Rec.readsM 15 S1 k).2) ∧ RD wr p (Rec.readsM 15 S1 k).1 ∧ But p w wr) (fun _ i _ => n - (intOf i).toNat)
  case atStart => exact ⟨0, by omega, rfl, World.ownsRow_nil _ _ _ _, hr1, hB1⟩
  case round =>
    obtain ⟨k, hk, rfl, ho, hr, hB⟩ := hrel
    by_cases hlt : k < n
    · obtain ⟨N, hN⟩ : ∃ N, (Rec.readsM 15 S1 k).1.num 15 = N := ⟨_, rfl⟩
      have hnx : Rec.readsM 15 S1 (k + 1) = (N.1, (Rec.readsM 15 S1 k).2 ++ [(N.2 : Int)]) := by
        show ((((Rec.readsM 15 S1 k).1.num 15).1, (Rec.readsM 15 S1 k).2 ++ [(((Rec.readsM 15 S1 k).1.num 15).2 : Int)])) = _
        rw [hN]
      obtain ⟨y, hy⟩ : ∃ y : Int, (N.2 : Int) = y := ⟨_, rfl⟩
      rw [hy] at hnx
      have HNX := Lib.hid hnx
      have HY := Lib.hid hy
      have HNN := Lib.hid hN
      obtain ⟨ra, rn, rc, hpp⟩ := hr.heapOf
      have hne := Lib.hid (rowBeside ho hpp (by decide))
      have HO := Lib.hid ho
      have HRR := Lib.hid hr
      have hone := i64s_one [y]
      have hk1 : k + (i64s [y]).length ≤ maxLen := by simp [maxLen]; omega
      have hk2 : (k + (i64s [y]).length) * 8 ≤ 140737488355328 := by simp; omega
      have hplt := HR.out.lt
      clear hN hnx hy hpp ho hr
      go_wp2_with fail
      refine (num_any p _ 15 _ HRR.out).mono ?_
      rw [HNN.out, HY.out]
      rintro e w2 ⟨rfl, hB2, hr2⟩
      have ho2 := (rowBut HO.out hne.out hB2).alloc (.cells #[.int .i64 y] 3)
      have hi2 := Ints.one w2 y
      have hz2 : w.heap.size ≤ (w2.alloc (.cells #[.int .i64 y] 3)).heap.size := Nat.le_trans (Nat.le_trans hB.size hB2.size) (Ext.alloc w2 _).size
      go_wp2_with (at_builtin; refine wpList_app rfl (.tmp 11) (.tmp 14) ti rfl rfl rfl ho2 hi2 hone hk1 hk2 hz2 ?_; intro v3 w3 hown3 hg3)
      have hr3 := (hr2.ext (Ext.alloc w2 (.cells #[.int .i64 y] 3))).grownRow ho2 hg3 hplt
      have hB3 : But p w w3 := ((hB.trans hB2).alloc (.cells #[.int .i64 y] 3)).grown hg3 (fun j hj => (ho2.lt j hj).1)
      have ho4 : w3.ownsRow w.heap.size 3 1 v3 (k + 1) (i64s (Rec.readsM 15 S1 (k + 1)).2) := by
        rw [HNX.out, i64s_append]
        exact hown3
      have hr4 : RD w3 p (Rec.readsM 15 S1 (k + 1)).1 := by rw [HNX.out]; exact hr3
      have HO4 := Lib.hid ho4
      clear hown3 hg3 ho4 ho2 hi2
      go_wp2_with fail
      go_roundw
      case rel => exact ⟨k + 1, by omega, by go_num, HO4.out, hr4, hB3⟩
      case measure => simp [intOf]; omega
    · obtain rfl : k = n := by omega
      have HO := Lib.hid ho
      clear ho
      go_wp2_with fail
      go_ret
      exact ⟨_, rfl, by unfold OwnI; rw [Rec.readsM_len]; exact HO.out, hB, hr⟩

/-! The document's. -/
theorem build_refR6 (w : World) (s : ByteArray) : (Instr.build 73 #[(0, .string s)]).run Tryz.prog w = .ok (.agg #[.string s, .int .i64 0]) w := by kernel_rfl
theorem zero_refR6 (w : World) : (zeroValue 73).run Tryz.prog w = .ok (.agg #[.string ByteArray.empty, .int .i64 0]) w := by kernel_rfl
theorem setTwo6 {w : World} {q : Nat} {x0 x1 : Value} {T : TypeId} (h : w.heap[q]? = some (.cells #[x0, x1] T (0, 0))) (v0 v1 : Value) :
    ((w.setCell ⟨q, 0, none⟩ v0).setCell ⟨q, 1, none⟩ v1).heap[q]? = some (.cells #[v0, v1] T (0, 0)) ∧ But q w ((w.setCell ⟨q, 0, none⟩ v0).setCell ⟨q, 1, none⟩ v1) := by
  refine ⟨?_, ((But.refl _ _).setCell 0 none v0).setCell 1 none v1⟩
  have := heap_setCell (heap_setCell h 0 v0) 1 v1
  simpa using this
/-- Block q is the document's reader in this state. -/
def Ref6 (w : World) (q n : Nat) (s : Pack.St) : Prop := ∃ lk : List UInt8, w.heap[q]? = some (.cells #[.string ⟨lk.toArray⟩, .int .i64 s.err] 73 (0, 0)) ∧ Sim lk s ∧ lk.length ≤ n
theorem Ref6.lt {w : World} {q n : Nat} {s : Pack.St} (h : Ref6 w q n s) : q < w.heap.size := by
  obtain ⟨lk, h, _⟩ := h
  exact (Array.getElem?_eq_some_iff.1 h).1
theorem Ref6.ext {w w' : World} {q n : Nat} {s : Pack.St} (h : Ref6 w q n s) (hE : Ext w w') : Ref6 w' q n s := by
  have hlt := h.lt
  obtain ⟨lk, h1, h2⟩ := h
  exact ⟨lk, (hE.block q hlt).trans h1, h2⟩
theorem Ref6.but {w w' : World} {q p n : Nat} {s : Pack.St} (h : Ref6 w q n s) (hB : But p w w') (hne : q ≠ p) : Ref6 w' q n s := by
  have hlt := h.lt
  obtain ⟨lk, h1, h2⟩ := h
  exact ⟨lk, (hB.block q hlt hne).trans h1, h2⟩
theorem Ref6.set {w : World} {q n : Nat} {s : Pack.St} (h : Ref6 w q n s) {l : List UInt8} {s' : Pack.St} (hs : Sim l s') (hl : l.length ≤ n) :
    Ref6 ((w.setCell ⟨q, 0, none⟩ (.string ⟨l.toArray⟩)).setCell ⟨q, 1, none⟩ (.int .i64 s'.err)) q n s' ∧ But q w ((w.setCell ⟨q, 0, none⟩ (.string ⟨l.toArray⟩)).setCell ⟨q, 1, none⟩ (.int .i64 s'.err)) := by
  obtain ⟨lk, h1, h2⟩ := h
  have := setTwo6 h1 (.string ⟨l.toArray⟩) (.int .i64 s'.err)
  exact ⟨⟨l, this.1, hs, hl⟩, this.2⟩

def RowRef6 (w : World) (n : Nat) (S : Pack.St × List Int) (e : Ending) (w' : World) : Prop := ∃ l' v, e = .returned (.tuple #[refVal l' S.1.err, v]) ∧ Sim l' S.1 ∧ l'.length ≤ n ∧ OwnI w' w.heap.size v S.2 ∧ Ext w w'

set_option maxHeartbeats 8000000 in
theorem refReadRow6_any (l : List UInt8) (s : Pack.St) (n : Nat) (w : World) (hs : Sim l s) (hl : l.length ≤ n) (hn : n ≤ 140737488355328) :
    Calls Tryz.prog 50 #[refVal l s.err] w (RowRef6 w n (Term.gRow 16 16 s)) := by
  obtain ⟨S1, hS1⟩ : ∃ S1, (s.num 16).1 = S1 := ⟨_, rfl⟩
  obtain ⟨m, hm⟩ : ∃ m, (s.num 16).2 = m := ⟨_, rfl⟩
  have hm16 : m ≤ 16 := by have := numMost s 16 (by omega); rw [hm] at this; omega
  have HG := Lib.hid (show Term.gRow 16 16 s = Rec.readsM 16 S1 m by unfold Term.gRow; rw [hS1, hm])
  have HS1 := Lib.hid hS1
  have HM := Lib.hid hm
  have HS := Lib.hid hs
  have ti := tI
  clear hS1 hm hs
  rw [HG.out]
  unfold RowRef6 refVal
  have H1 := Lib.hid (readNumRef_any l 16 s ((w.alloc (.cells #[.string ⟨l.toArray⟩, .int .i64 s.err] 73)).alloc (.cells #[.string ⟨#[]⟩, .int .i64 0] 73)) HS.out (by omega))
  have HH := Lib.hid (heap_two w (.cells #[.string ⟨l.toArray⟩, .int .i64 s.err] 73) (.cells #[.string ⟨#[]⟩, .int .i64 0] 73))
  have hE0 := ext_two w (.cells #[.string ⟨l.toArray⟩, .int .i64 s.err] 73) (.cells #[.string ⟨#[]⟩, .int .i64 0] 73)
  rw [HS1.out, HM.out] at H1
  unfold refVal at H1
  go_enter Tryz.func50, Tryz.ntmps50
  go_wp2_with fail
  refine H1.out.mono ?_
  rintro e w1 ⟨l1, rfl, hs1, hl1, hE1⟩
  have e1 := hE0.trans hE1
  have D1 := Lib.hid (show Ref6 w1 w.heap.size n s from ⟨l, heap_ext HH.out.1 hE1, HS.out, hl⟩)
  have X1 := Lib.hid (heap_ext HH.out.2 hE1)
  have hlt1 := D1.out.lt
  have hlt2 : w.heap.size + 1 < w1.heap.size := (Array.getElem?_eq_some_iff.1 X1.out).1
  obtain ⟨q, hq⟩ : ∃ q, w.heap.size = q := ⟨_, rfl⟩
  rw [hq] at D1 X1 hlt1 hlt2 ⊢
  have HQ := Lib.hid hq
  clear hq HH H1 hE0 hE1
  obtain ⟨lk, hk, hsm, hln⟩ := D1.out
  have z0 := cell_of_heap hk 0
  have z1 := cell_of_heap hk 1
  have fz := fun i => frozen_of_heap hk i
  simp at z0 z1
  have hDD := D1.out.set hs1 (show l1.length ≤ n by omega)
  have D2 := Lib.hid hDD.1
  have X2 := Lib.hid ((hDD.2.block (q + 1) hlt2 (by omega)).trans X1.out)
  have e2 : Ext w ((w1.setCell ⟨q, 0, none⟩ (.string ⟨l1.toArray⟩)).setCell ⟨q, 1, none⟩ (.int .i64 S1.err)) := Below.trans (B := w.heap.size) e1 (hDD.2.below (by have := HQ.out; omega) e1.size)
  clear hk hDD
  go_wp2_with fail
  generalize hw : ((w1.setCell ⟨q, 0, none⟩ (.string ⟨l1.toArray⟩)).setCell ⟨q, 1, none⟩ (.int .i64 S1.err)) = w2 at *
  clear hw z0 z1 fz D1 X1
  go_loopw [5, 6, 7, 8] (fun tv i _ _ wr => ∃ k : Nat, k ≤ m ∧ i = .int .i64 k ∧ ∃ uv, uv = tv ∧ wr.ownsRow q 3 1 uv k (i64s (Rec.readsM 16 S1 k).2) ∧ Hid (Ref6 wr q n (Rec.readsM 16 S1 k).1) ∧ Hid (∃ b : ByteArray, ∃ z : Int, wr.heap[q + 1]? = some (.cells #[.string b, .int .i64 z] 73 (0, 0))) ∧ Ext w wr) (fun _ i _ _ _ => m - (intOf i).toNat)
  case atStart => exact ⟨0, by omega, rfl, _, rfl, World.ownsRow_nil _ _ _ _, D2.out, ⟨_, _, X2.out⟩, e2⟩
  case round =>
    obtain ⟨k, hk, rfl, tv, rfl, ho, hD, hX, hE⟩ := hrel
    by_cases hlt : k < m
    · obtain ⟨N, hN⟩ : ∃ N, (Rec.readsM 16 S1 k).1.num 16 = N := ⟨_, rfl⟩
      have hnx : Rec.readsM 16 S1 (k + 1) = (N.1, (Rec.readsM 16 S1 k).2 ++ [(N.2 : Int)]) := by
        show ((((Rec.readsM 16 S1 k).1.num 16).1, (Rec.readsM 16 S1 k).2 ++ [(((Rec.readsM 16 S1 k).1.num 16).2 : Int)])) = _
        rw [hN]
      obtain ⟨y, hy⟩ : ∃ y : Int, (N.2 : Int) = y := ⟨_, rfl⟩
      rw [hy] at hnx
      have HNX := Lib.hid hnx
      have HY := Lib.hid hy
      have HNN := Lib.hid hN
      have HO := Lib.hid ho
      have hone := i64s_one [y]
      have hk1 : k + (i64s [y]).length ≤ maxLen := by simp [maxLen]; omega
      have hk2 : (k + (i64s [y]).length) * 8 ≤ 140737488355328 := by simp; omega
      obtain ⟨lk, hkk, hsm, hln⟩ := hD.out
      have hcall := readNumRef_any lk 16 _ wr hsm (by omega)
      rw [HNN.out] at hcall
      unfold refVal at hcall
      have HC := Lib.hid hcall
      have HKK := Lib.hid hkk
      have z0 := cell_of_heap hkk 0
      have z1 := cell_of_heap hkk 1
      simp at z0 z1
      have hqlt := hD.out.lt
      clear hN hnx hy ho hcall hkk
      go_wp2_with fail
      refine HC.out.mono ?_
      rw [HY.out]
      rintro e w3 ⟨l3, rfl, hs3, hl3, hE3⟩
      clear z0 z1
      have D3 := Lib.hid (hD.out.ext hE3)
      obtain ⟨lj, hkj, hsj, hlj⟩ := D3.out
      have z0 := cell_of_heap hkj 0
      have z1 := cell_of_heap hkj 1
      have fz := fun i => frozen_of_heap hkj i
      simp at z0 z1
      have hq3 : q < w3.heap.size := D3.out.lt
      have hDD := D3.out.set hs3 (show l3.length ≤ n by omega)
      have hD4 := Lib.hid ((hDD.1.ext (Ext.alloc _ (.cells #[.string ⟨l3.toArray⟩, .int .i64 N.1.err] 73))).ext (Ext.alloc _ (.cells #[.int .i64 y] 3)))
      have hE4 : Ext w (((w3.setCell ⟨q, 0, none⟩ (.string ⟨l3.toArray⟩)).setCell ⟨q, 1, none⟩ (.int .i64 N.1.err)).alloc (.cells #[.string ⟨l3.toArray⟩, .int .i64 N.1.err] 73)) :=
        Ext.trans (show Ext w ((w3.setCell ⟨q, 0, none⟩ (.string ⟨l3.toArray⟩)).setCell ⟨q, 1, none⟩ (.int .i64 N.1.err)) from Below.trans (B := w.heap.size) (hE.trans hE3) (hDD.2.below (by have := HQ.out; omega) (hE.trans hE3).size)) (Ext.alloc _ _)
      have hE5 := hE4.trans (Ext.alloc _ (.cells #[.int .i64 y] 3))
      have hX4 : ∃ b : ByteArray, ∃ z : Int, ((((w3.setCell ⟨q, 0, none⟩ (.string ⟨l3.toArray⟩)).setCell ⟨q, 1, none⟩ (.int .i64 N.1.err)).alloc (.cells #[.string ⟨l3.toArray⟩, .int .i64 N.1.err] 73)).alloc (.cells #[.int .i64 y] 3)).heap[q + 1]? = some (.cells #[.string b, .int .i64 z] 73 (0, 0)) := by
        obtain ⟨b, z, hb⟩ := hX.out
        have hq1 := (Array.getElem?_eq_some_iff.1 (heap_ext hb hE3)).1
        exact ⟨b, z, heap_ext (heap_ext ((hDD.2.block (q + 1) hq1 (by omega)).trans (heap_ext hb hE3)) (Ext.alloc _ _)) (Ext.alloc _ _)⟩
      have HX4 := Lib.hid hX4
      have o4 := (((rowBut (rowExt HO.out hE3) (rowBeside (rowExt HO.out hE3) hkj (by decide)) hDD.2).alloc (.cells #[.string ⟨l3.toArray⟩, .int .i64 N.1.err] 73)).alloc (.cells #[.int .i64 y] 3))
      have hi4 := Ints.one (((w3.setCell ⟨q, 0, none⟩ (.string ⟨l3.toArray⟩)).setCell ⟨q, 1, none⟩ (.int .i64 N.1.err)).alloc (.cells #[.string ⟨l3.toArray⟩, .int .i64 N.1.err] 73)) y
      have HE5 := Lib.hid hE5
      rw [show ((((w3.setCell ⟨q, 0, none⟩ (.string ⟨l3.toArray⟩)).setCell ⟨q, 1, none⟩ (.int .i64 N.1.err)).alloc (.cells #[.string ⟨l3.toArray⟩, .int .i64 N.1.err] 73))).heap.size = w3.heap.size + 1 from by simp] at hi4
      have hz4 : q ≤ ((((w3.setCell ⟨q, 0, none⟩ (.string ⟨l3.toArray⟩)).setCell ⟨q, 1, none⟩ (.int .i64 N.1.err)).alloc (.cells #[.string ⟨l3.toArray⟩, .int .i64 N.1.err] 73)).alloc (.cells #[.int .i64 y] 3)).heap.size := Nat.le_trans (Nat.le_of_eq HQ.out.symm) HE5.out.size
      have O4 := Lib.hid o4
      have I4 := Lib.hid hi4
      have Z4 := Lib.hid hz4
      clear hDD hkj hE4 hE5 hX4 o4 hi4 hz4
      go_wp2_with (at_builtin; refine wpList_app rfl (.tmp 25) (.tmp 27) ti rfl rfl rfl O4.out I4.out hone hk1 hk2 Z4.out ?_; intro v5 w5 hown5 hg5)
      have hg5 : ((((w3.setCell ⟨q, 0, none⟩ (.string ⟨l3.toArray⟩)).setCell ⟨q, 1, none⟩ (.int .i64 N.1.err)).alloc (.cells #[.string ⟨l3.toArray⟩, .int .i64 N.1.err] 73)).alloc (.cells #[.int .i64 y] 3)).grownBy w5 tv.ownBlock := hg5
      have hfar : ∀ j, tv.ownBlock = some j → q ≤ j := fun j hj => (O4.out.lt j hj).1
      have hne1 : some q ≠ tv.ownBlock := by
        obtain ⟨ly, hy1, _⟩ := hD4.out
        exact rowBeside O4.out hy1 (by decide)
      have hne2 : some (q + 1) ≠ tv.ownBlock := by
        obtain ⟨b, z, hb⟩ := HX4.out
        exact rowBeside O4.out hb (by decide)
      have D5 := Lib.hid (show Ref6 w5 q n N.1 by
        obtain ⟨ly, hy1, hy2⟩ := hD4.out
        exact ⟨ly, (hg5.block q (Array.getElem?_eq_some_iff.1 hy1).1 hne1).trans hy1, hy2⟩)
      have X5 := Lib.hid (show ∃ b : ByteArray, ∃ z : Int, w5.heap[q + 1]? = some (.cells #[.string b, .int .i64 z] 73 (0, 0)) by
        obtain ⟨b, z, hb⟩ := HX4.out
        exact ⟨b, z, (hg5.block (q + 1) (Array.getElem?_eq_some_iff.1 hb).1 hne2).trans hb⟩)
      have hE6 : Ext w w5 := Below.grown HE5.out hg5 HE5.out.size (fun j hj => by have := hfar j hj; have := HQ.out; omega)
      have ho5 : w5.ownsRow q 3 1 v5 (k + 1) (i64s (Rec.readsM 16 S1 (k + 1)).2) := by
        rw [HNX.out, i64s_append]
        exact hown5
      have HO5 := Lib.hid ho5
      clear hown5 hg5 ho5 z0 z1 fz
      go_wp2_with fail
      go_roundw
      case rel => exact ⟨k + 1, by omega, by go_num, _, rfl, HO5.out, by unfold Hid; rw [HNX.out]; exact D5.out, X5.out, hE6⟩
      case measure => simp [intOf]; omega
    · obtain rfl : k = m := by omega
      have HO := Lib.hid ho
      obtain ⟨lk, hkk, hsm, hln⟩ := hD.out
      obtain ⟨b, z, hb⟩ := hX.out
      have z0 := cell_of_heap hkk 0
      have z1 := cell_of_heap hkk 1
      have y0 := cell_of_heap hb 0
      have y1 := cell_of_heap hb 1
      have fy := fun i => frozen_of_heap hb i
      simp at z0 z1 y0 y1
      obtain ⟨a9, n9, c9, rfl⟩ := ownSlice ho
      have hB9 := (setTwo6 hb (.string ⟨lk.toArray⟩) (.int .i64 (Rec.readsM 16 S1 k).1.err)).2
      have O9 := Lib.hid (rowBut HO.out (rowBeside HO.out hb (by decide)) hB9)
      have E9 := Lib.hid (Below.trans (B := w.heap.size) hE (hB9.below (by have := HQ.out; omega) hE.size))
      clear ho hkk hb hB9
      go_wp2_with fail
      refine bodyPost_ret (v := .tuple #[.agg #[.string ⟨lk.toArray⟩, .int .i64 (Rec.readsM 16 S1 k).1.err], .slice a9 n9 c9]) (by simp [results, Tryz.results50, go_sem, z0, z1, y0, y1, fy]) rfl ?_
      refine ⟨lk, .slice a9 n9 c9, rfl, hsm, hln, ?_, E9.out⟩
      unfold OwnI
      rw [Rec.readsM_len]
      exact rowLower O9.out (Nat.le_of_eq HQ.out)
end Go.Proofs.YtpfodkgncachiaaGreat
