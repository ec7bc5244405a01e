/-
  Layer 6: rows of nodes are read: by the program, and by the document.
-/
import Derived.Test.YtpfodkgncachiaaTrmE
import Derived.Test.YtpfodkgncachiaaTermRead
import Derived.Test.YtpfodkgncachiaaLibO
import Derived.Test.YtpfodkgncachiaaPackRefPart
namespace Go.Proofs.Ytpfodkgncachiaa
set_option linter.unusedSimpArgs false
set_option linter.unusedVariables false
set_option maxRecDepth 100000
open Go.RowKit

set_option maxHeartbeats 4000000 in
theorem readRow6_any (p m : Nat) (s : Pack.St) (w : World) (h : RD w p s) (hm : m ≤ 100) :
    Calls Try.prog 35 #[.pointer (some ⟨p, 0, none⟩), .int .i64 (m : Int)] w fun e w' => ∃ v, e = .returned v ∧ OwnI w' w.heap.size v (Term.gRow m 15 s).2 ∧ But p w w' ∧ RD w' p (Term.gRow m 15 s).1 := by
  obtain ⟨S1, hS1⟩ : ∃ S1, (s.num m).1 = S1 := ⟨_, rfl⟩
  obtain ⟨n, hn⟩ : ∃ n, (s.num m).2 = n := ⟨_, rfl⟩
  have hnm : n ≤ 100 := by have := numMost s m (by omega); rw [hn] at this; omega
  have HG := Lib.hid (show Term.gRow m 15 s = Rec.readsM 15 S1 n by unfold Term.gRow; rw [hS1, hn])
  have HS1 := Lib.hid hS1
  have HN := Lib.hid hn
  have HR := Lib.hid h
  have ti := tI
  clear hS1 hn h
  rw [HG.out]
  go_enter Try.func35, Try.ntmps35
  go_wp2_with fail
  refine (num_any p s m _ HR.out).mono ?_
  rw [HS1.out, HN.out]
  rintro e w1 ⟨rfl, hB1, hr1⟩
  go_wp2_with fail
  go_loopw [5, 9] (fun tv i wr => ∃ k : Nat, k ≤ n ∧ i = .int .i64 k ∧ wr.ownsRow w.heap.size 3 1 tv k (i64s (Rec.readsM 15 S1 k).2) ∧ RD wr p (Rec.readsM 15 S1 k).1 ∧ But p w wr) (fun _ i _ => n - (intOf i).toNat)
  case atStart => exact ⟨0, by omega, rfl, World.ownsRow_nil _ _ _ _, hr1, hB1⟩
  case round =>
    obtain ⟨k, hk, rfl, ho, hr, hB⟩ := hrel
    by_cases hlt : k < n
    · obtain ⟨N, hN⟩ : ∃ N, (Rec.readsM 15 S1 k).1.num 15 = N := ⟨_, rfl⟩
      have hnx : Rec.readsM 15 S1 (k + 1) = (N.1, (Rec.readsM 15 S1 k).2 ++ [(N.2 : Int)]) := by
        show ((((Rec.readsM 15 S1 k).1.num 15).1, (Rec.readsM 15 S1 k).2 ++ [(((Rec.readsM 15 S1 k).1.num 15).2 : Int)])) = _
        rw [hN]
      obtain ⟨y, hy⟩ : ∃ y : Int, (N.2 : Int) = y := ⟨_, rfl⟩
      rw [hy] at hnx
      have HNX := Lib.hid hnx
      have HY := Lib.hid hy
      have HNN := Lib.hid hN
      obtain ⟨ra, rn, rc, hpp⟩ := hr.heapOf
      have hne := Lib.hid (rowBeside ho hpp (by decide))
      have HO := Lib.hid ho
      have HRR := Lib.hid hr
      have hone := i64s_one [y]
      have hk1 : k + (i64s [y]).length ≤ maxLen := by simp [maxLen]; omega
      have hk2 : (k + (i64s [y]).length) * 8 ≤ 140737488355328 := by simp; omega
      have hplt := HR.out.lt
      clear hN hnx hy hpp ho hr
      go_wp2_with fail
      refine (num_any p _ 15 _ HRR.out).mono ?_
      rw [HNN.out, HY.out]
      rintro e w2 ⟨rfl, hB2, hr2⟩
      have ho2 := (rowBut HO.out hne.out hB2).alloc (.cells #[.int .i64 y] 3)
      have hi2 := Ints.one w2 y
      have hz2 : w.heap.size ≤ (w2.alloc (.cells #[.int .i64 y] 3)).heap.size := Nat.le_trans (Nat.le_trans hB.size hB2.size) (Ext.alloc w2 _).size
      go_wp2_with (at_builtin; refine wpList_app rfl (.tmp 11) (.tmp 14) ti rfl rfl rfl ho2 hi2 hone hk1 hk2 hz2 ?_; intro v3 w3 hown3 hg3)
      have hr3 := (hr2.ext (Ext.alloc w2 (.cells #[.int .i64 y] 3))).grownRow ho2 hg3 hplt
      have hB3 : But p w w3 := ((hB.trans hB2).alloc (.cells #[.int .i64 y] 3)).grown hg3 (fun j hj => (ho2.lt j hj).1)
      have ho4 : w3.ownsRow w.heap.size 3 1 v3 (k + 1) (i64s (Rec.readsM 15 S1 (k + 1)).2) := by
        rw [HNX.out, i64s_append]
        exact hown3
      have hr4 : RD w3 p (Rec.readsM 15 S1 (k + 1)).1 := by rw [HNX.out]; exact hr3
      have HO4 := Lib.hid ho4
      clear hown3 hg3 ho4 ho2 hi2
      go_wp2_with fail
      go_roundw
      case rel => exact ⟨k + 1, by omega, by go_num, HO4.out, hr4, hB3⟩
      case measure => simp [intOf]; omega
    · obtain rfl : k = n := by omega
      have HO := Lib.hid ho
      clear ho
      go_wp2_with fail
      go_ret
      exact ⟨_, rfl, by unfold OwnI; rw [Rec.readsM_len]; exact HO.out, hB, hr⟩

/-! The document's. -/
theorem setTwo6 {w : World} {q : Nat} {x0 x1 : Value} {T : TypeId} (h : w.heap[q]? = some (.cells #[x0, x1] T (0, 0))) (v0 v1 : Value) :
    ((w.setCell ⟨q, 0, none⟩ v0).setCell ⟨q, 1, none⟩ v1).heap[q]? = some (.cells #[v0, v1] T (0, 0)) ∧ But q w ((w.setCell ⟨q, 0, none⟩ v0).setCell ⟨q, 1, none⟩ v1) := by
  refine ⟨?_, ((But.refl _ _).setCell 0 none v0).setCell 1 none v1⟩
  have := heap_setCell (heap_setCell h 0 v0) 1 v1
  simpa using this
def RowRef6 (w : World) (n : Nat) (S : Pack.St × List Int) (e : Ending) (w' : World) : Prop := ∃ l' v, e = .returned (.tuple #[refVal l' S.1.err, v]) ∧ Sim l' S.1 ∧ l'.length ≤ n ∧ OwnI w' w.heap.size v S.2 ∧ Ext w w'

end Go.Proofs.Ytpfodkgncachiaa
