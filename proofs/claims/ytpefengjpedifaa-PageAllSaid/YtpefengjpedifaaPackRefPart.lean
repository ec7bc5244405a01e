/-
  Layer 2, the document's own answers: a part is read.
-/
import Derived.Test.YtpefengjpedifaaPackRefRead
namespace Go.Proofs.Ytpefengjpedifaa
set_option linter.unusedSimpArgs false
set_option linter.unusedVariables false
open Go.RowKit

/-- Two readers in new blocks. -/
structure TwoB (w0 w : World) (x0 x1 y0 y1 : Value) : Prop where
  g0 : w.heap[w0.heap.size]? = some (.cells #[x0, x1] 147 (0, 0))
  g1 : w.heap[w0.heap.size + 1]? = some (.cells #[y0, y1] 147 (0, 0))
  ext : Ext w0 w
theorem TwoB.first (w : World) (x0 x1 y0 y1 : Value) : TwoB w ((w.alloc (.cells #[x0, x1] 147)).alloc (.cells #[y0, y1] 147)) x0 x1 y0 y1 :=
  ⟨(heap_two w _ _).1, (heap_two w _ _).2, ext_two w _ _⟩
theorem TwoB.later {w0 w w' : World} {x0 x1 y0 y1 : Value} (h : TwoB w0 w x0 x1 y0 y1) (hb : Ext w w') : TwoB w0 w' x0 x1 y0 y1 := ⟨heap_ext h.g0 hb, heap_ext h.g1 hb, h.ext.trans hb⟩
theorem TwoB.set0 {w0 w : World} {x0 x1 y0 y1 : Value} (h : TwoB w0 w x0 x1 y0 y1) (v0 v1 : Value) : TwoB w0 ((w.setCell ⟨w0.heap.size, 0, none⟩ v0).setCell ⟨w0.heap.size, 1, none⟩ v1) v0 v1 y0 y1 where
  g0 := by
    have := heap_setCell (heap_setCell h.g0 0 v0) 1 v1
    simpa using this
  g1 := by
    rw [Below.heap_setCell _ _ _ _ (by show w0.heap.size + 1 ≠ w0.heap.size; omega), Below.heap_setCell _ _ _ _ (by show w0.heap.size + 1 ≠ w0.heap.size; omega)]
    exact h.g1
  ext := (h.ext.setCell (Nat.le_refl _) _).setCell (Nat.le_refl _) _
theorem TwoB.part0 {w0 w : World} {x0 x1 y0 y1 : Value} (h : TwoB w0 w x0 x1 y0 y1) (v0 : Value) : TwoB w0 (w.setCell ⟨w0.heap.size, 0, none⟩ v0) v0 x1 y0 y1 where
  g0 := by
    have := heap_setCell h.g0 0 v0
    simpa using this
  g1 := by
    rw [Below.heap_setCell _ _ _ _ (by show w0.heap.size + 1 ≠ w0.heap.size; omega)]
    exact h.g1
  ext := h.ext.setCell (Nat.le_refl _) _

set_option maxRecDepth 100000 in
set_option maxHeartbeats 4000000 in
theorem readTextRef_any (l : List UInt8) (most : Int) (s : Pack.St) (w : World) (hs : Sim l s) (hl : l.length ≤ 140737488355328) :
    Calls Try.prog 76 #[refVal l s.err, .int .i64 most] w fun e w' => ∃ l', e = .returned (.tuple #[refVal l' (s.text most).1.err, .string ⟨(s.text most).2.toArray⟩]) ∧ Sim l' (s.text most).1 ∧ l'.length ≤ l.length ∧ Ext w w' := by
  have hnum := fun w' => readNumRef_any l most s w' hs hl
  have hdead := sim_num hs.dead most
  obtain ⟨t, n, ht⟩ : ∃ t n, s.num most = (t, n) := ⟨_, _, rfl⟩
  have htext : s.text most = if t.left.length < n then (t.fail 20, []) else (⟨t.left.drop n, t.err⟩, t.left.take n) := by
    unfold Pack.St.text
    rw [ht]
  rw [ht] at hnum hdead
  simp only at hnum hdead
  have hT := TwoB.first w (.string ⟨l.toArray⟩) (.int .i64 s.err) (.string ⟨#[]⟩) (.int .i64 0)
  unfold refVal at hnum ⊢
  by_cases he : t.err = 0
  · by_cases hlt : t.left.length < n
    · have hfr : t.fail 20 = ⟨[], 20⟩ := by unfold Pack.St.fail; rw [if_pos he]
      rw [if_pos hlt, hfr] at htext
      have HT := Lib.hid htext
      have hq : (t.left.length : Int) < (n : Int) := by omega
      have hfail := fun (l1 : List UInt8) w' => failed_any l1 20 w'
      unfold refVal at hfail
      rw [he] at hnum
      clear htext hdead ht hfr hlt
      go_enter Try.func76, Try.ntmps76
      go_wp2_with fail
      refine (hnum _).mono ?_
      rintro e w1 ⟨l1, rfl, hs1, hl1, hb1⟩
      have e1 := hs1.live he
      subst e1
      have hsz := str_len t.left
      have T1 := hT.later hb1
      have x0 := cell_of_heap T1.g0 0
      have x1 := cell_of_heap T1.g0 1
      have fx := fun i => frozen_of_heap T1.g0 i
      simp at x0 x1
      clear hnum
      go_wp2_with fail
      refine (hfail _ _).mono ?_
      rintro e w6 ⟨rfl, hb6⟩
      have T6 := (T1.set0 (.string ⟨t.left.toArray⟩) (.int .i64 0)).later hb6
      have y0 := cell_of_heap T6.g1 0
      have y1 := cell_of_heap T6.g1 1
      have f0 := frozen_of_heap T6.g1 0
      have f1 := frozen_of_heap T6.g1 1
      simp at y0 y1
      go_wp2
      exact bodyPost_ret (v := .tuple #[.agg #[.string ⟨t.left.toArray⟩, .int .i64 20], .string ⟨#[]⟩]) (by simp [results, Try.results76, go_sem, y0, y1, f0, f1]) rfl (by rw [HT.out]; exact ⟨t.left, rfl, ⟨fun h => absurd h (by decide), fun _ => rfl⟩, hl1, (T6.ext.setCell (by show w.heap.size ≤ w.heap.size + 1; omega) _).setCell (by show w.heap.size ≤ w.heap.size + 1; omega) _⟩)
    · rw [if_neg hlt] at htext
      have HT := Lib.hid htext
      have hq : ¬ (t.left.length : Int) < (n : Int) := by omega
      have st1 := fun w' => str_to w' t.left n (by omega)
      have st2 := fun w' => str_from w' t.left n (by omega)
      have he' := he
      rw [he] at hnum
      clear htext hdead ht hlt
      go_enter Try.func76, Try.ntmps76
      go_wp2_with fail
      refine (hnum _).mono ?_
      rintro e w1 ⟨l1, rfl, hs1, hl1, hb1⟩
      have e1 := hs1.live he
      subst e1
      have hsz := str_len t.left
      have T1 := hT.later hb1
      have T2 := (T1.set0 (.string ⟨t.left.toArray⟩) (.int .i64 0)).part0 (.string ⟨(t.left.drop n).toArray⟩)
      have x0 := cell_of_heap T1.g0 0
      have x1 := cell_of_heap T1.g0 1
      have fx := fun i => frozen_of_heap T1.g0 i
      have y0 := cell_of_heap T1.g1 0
      have y1 := cell_of_heap T1.g1 1
      have fy := fun i => frozen_of_heap T1.g1 i
      simp at x0 x1 y0 y1
      have HE := Lib.hid he
      clear hnum he he'
      go_wp2
      exact bodyPost_ret (v := .tuple #[.agg #[.string ⟨(t.left.drop n).toArray⟩, .int .i64 0], .string ⟨(t.left.take n).toArray⟩]) (by simp [results, Try.results76, go_sem, x0, x1, y0, y1, fx, fy]) rfl (by rw [HT.out, HE.out]; exact ⟨t.left.drop n, rfl, ⟨fun _ => rfl, fun h => absurd rfl h⟩, by rw [List.length_drop]; omega, (T2.ext.setCell (by show w.heap.size ≤ w.heap.size + 1; omega) _).setCell (by show w.heap.size ≤ w.heap.size + 1; omega) _⟩)
  · obtain ⟨hd1, hd2⟩ := hdead he
    have htx : s.text most = (⟨[], t.err⟩, []) := by
      rw [htext, hd1, hd2]; simp
    have HT := Lib.hid htx
    have hq : (t.err == 0) = false := by simp [he]
    have HE := Lib.hid he
    clear htext htx ht he
    go_enter Try.func76, Try.ntmps76
    go_wp2_with fail
    refine (hnum _).mono ?_
    rintro e w1 ⟨l1, rfl, hs1, hl1, hb1⟩
    have T1 := hT.later hb1
    have T2 := T1.set0 (.string ⟨l1.toArray⟩) (.int .i64 t.err)
    have x0 := cell_of_heap T1.g0 0
    have x1 := cell_of_heap T1.g0 1
    have fx := fun i => frozen_of_heap T1.g0 i
    have y0 := cell_of_heap T1.g1 0
    have y1 := cell_of_heap T1.g1 1
    have fy := fun i => frozen_of_heap T1.g1 i
    simp at x0 x1 y0 y1
    clear hnum
    go_wp2
    exact bodyPost_ret (v := .tuple #[.agg #[.string ⟨l1.toArray⟩, .int .i64 t.err], .string ⟨#[]⟩]) (by simp [results, Try.results76, go_sem, x0, x1, y0, y1, fx, fy]) rfl (by rw [HT.out]; exact ⟨l1, rfl, ⟨fun h => absurd h HE.out, fun _ => rfl⟩, hl1, (T2.ext.setCell (by show w.heap.size ≤ w.heap.size + 1; omega) _).setCell (by show w.heap.size ≤ w.heap.size + 1; omega) _⟩)
end Go.Proofs.Ytpefengjpedifaa
