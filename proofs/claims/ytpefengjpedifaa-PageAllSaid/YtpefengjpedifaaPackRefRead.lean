/-
  Layer 2, the document's own answers: what reads.
-/
import Derived.Test.YtpefengjpedifaaPackRef
import Derived.Laws.DeepStrings4
import Derived.Lib.Strings
namespace Go.Proofs.Ytpefengjpedifaa
set_option linter.unusedSimpArgs false
set_option linter.unusedVariables false
open Go.RowKit

theorem heap_ext {w w' : World} {q : Nat} {o : Obj} (h : w.heap[q]? = some o) (hb : Ext w w') : w'.heap[q]? = some o := by
  rw [hb.block q (Array.getElem?_eq_some_iff.1 h).1]; exact h
theorem heap_two (w : World) (x y : Obj) : ((w.alloc x).alloc y).heap[w.heap.size]? = some x ∧ ((w.alloc x).alloc y).heap[w.heap.size + 1]? = some y := by
  have s1 : (w.alloc x).heap.size = w.heap.size + 1 := World.size_alloc _ _
  refine ⟨?_, ?_⟩
  · rw [Below.heap_alloc _ _ _ (by rw [s1]; omega)]; exact heap_alloc_new _ _
  · rw [← s1]; exact heap_alloc_new _ _
theorem ext_two (w : World) (x y : Obj) : Ext w ((w.alloc x).alloc y) := (Ext.alloc _ _).trans (Ext.alloc _ _)
theorem str_to (w : World) (l : List UInt8) (k : Nat) (hk : k ≤ l.length) : (Instr.slice 9 (.string ⟨l.toArray⟩) none (some (.int .i64 (k : Int))) none).run Try.prog w = .ok (.string ⟨(l.take k).toArray⟩) w := by
  have hs := str_len l
  rw [run_slice_string_h (P := Try.prog) (w := w) (t := 9) (s := ⟨l.toArray⟩) Try.underlying9 .i64 (k : Int) (by omega) (by rw [hs]; omega), Lib.extract_eq]
  simp
theorem str_from (w : World) (l : List UInt8) (k : Nat) (hk : k ≤ l.length) : (Instr.slice 9 (.string ⟨l.toArray⟩) (some (.int .i64 (k : Int))) none none).run Try.prog w = .ok (.string ⟨(l.drop k).toArray⟩) w := by
  have hs := str_len l
  rw [run_slice_string_l (P := Try.prog) (w := w) (t := 9) (s := ⟨l.toArray⟩) Try.underlying9 .i64 (k : Int) (by omega) (by rw [hs]; omega), Lib.extract_eq, hs]
  simp
  rw [List.take_of_length_le (by simp)]

/-- What the document's reading of a number hands back. -/
def NumRef (w : World) (n : Nat) (e : Int) (s : Pack.St) (v : Pack.St → Value) (r : Ending) (w' : World) : Prop := ∃ l', r = .returned (.tuple #[refVal l' s.err, v s]) ∧ Sim l' s ∧ l'.length ≤ n ∧ Ext w w'

theorem val_digit (l : List UInt8) (k j : Nat) (hk : k < l.length) (hj : j ≤ k) : Pack.val ((l.take (k + 1)).drop j) = l[j].toNat % 128 + 128 * Pack.val ((l.take (k + 1)).drop (j + 1)) := by
  have hlen : j < (l.take (k + 1)).length := by rw [List.length_take]; omega
  rw [List.drop_eq_getElem_cons hlen]
  simp [Pack.val]
theorem val_drop_lt (l : List UInt8) (k j : Nat) (hk : k < l.length) (hk8 : k ≤ 8) (hj : 1 ≤ j) : Pack.val ((l.take (k + 1)).drop j) < 72057594037927936 := by
  have h1 := Pack.val_lt ((l.take (k + 1)).drop j)
  have h2 : ((l.take (k + 1)).drop j).length ≤ 8 := by rw [List.length_drop, List.length_take]; omega
  have h3 : 128 ^ ((l.take (k + 1)).drop j).length ≤ 128 ^ 8 := Nat.pow_le_pow_right (by decide) h2
  have h4 : (128 : Nat) ^ 8 = 72057594037927936 := by decide
  omega

def prevI (j : Nat) : Int := (j : Int) - 1
set_option maxRecDepth 100000 in
set_option maxHeartbeats 4000000 in
theorem readNumRef_any (l : List UInt8) (most : Int) (s : Pack.St) (w : World) (hs : Sim l s) (hl : l.length ≤ 140737488355328) :
    Calls Try.prog 91 #[refVal l s.err, .int .i64 most] w fun e w' => ∃ l', e = .returned (.tuple #[refVal l' (s.num most).1.err, .int .i64 ((s.num most).2 : Nat)]) ∧ Sim l' (s.num most).1 ∧ l'.length ≤ l.length ∧ Ext w w' := by
  unfold refVal
  have hsz := str_len l
  by_cases he : s.err = 0
  · obtain ⟨l0, e0⟩ := s
    have hll := hs.live he
    simp only at he hll
    subst he hll
    have hlast := fun w' => last_any l w' (by omega)
    have h2 := fun (x y : Obj) => heap_two w x y
    by_cases hk : Pack.lead l < l.length ∧ Pack.lead l < 9
    · obtain ⟨hk1, hk9⟩ := hk
      have hlo : lastOf l = ((Pack.lead l : Nat) : Int) := by unfold lastOf; rw [if_pos ⟨hk1, hk9⟩]
      obtain ⟨k, hkk⟩ : ∃ k, Pack.lead l = k := ⟨_, rfl⟩
      rw [hkk] at hk1 hk9 hlo
      have hone := one_taken l k hk1 hkk most
      have hnum : Pack.St.num ⟨l, 0⟩ most = if Pack.wrong (l.take (k + 1)) most then (⟨[], 21⟩, 0) else (⟨l.drop (k + 1), 0⟩, Pack.val (l.take (k + 1))) := by
        unfold Pack.St.num
        simp only []
        rw [hkk, if_neg (by omega), if_neg (by omega)]
        rfl
      have hnref := fun w' => numRef_any ((Pack.val (l.take (k + 1)) : Nat) : Int) w'
      have st1 := fun w' => str_to w' l (k + 1) (by omega)
      have st2 := fun w' => str_from w' l (k + 1) (by omega)
      have ec : ((k + 1 : Nat) : Int) = (k : Int) + 1 := by omega
      rw [ec] at st1 st2
      simp only [hlo] at hlast
      have HN := Lib.hid hnum
      have HO := Lib.hid hone
      have hlt := val_drop_lt l k
      clear hnum hone hkk hlo ec
      go_enter Try.func91, Try.ntmps91
      go_wp2_with (go_at_call 103; refine (hlast _).mono ?_; rintro e w' ⟨rfl, rfl⟩)
      go_loop [7, 8] (fun n' i => ∃ j m : Nat, j ≤ k + 1 ∧ i = .int .i64 (prevI j) ∧ n' = .int .i64 (m : Int) ∧ Hid (m = Pack.val ((l.take (k + 1)).drop j))) (fun _ i => (intOf i + 1).toNat)
      case atStart => exact ⟨k + 1, 0, Nat.le_refl _, by unfold prevI; congr 1; omega, rfl, by unfold Hid; rw [List.drop_of_length_le (by rw [List.length_take]; omega)]; rfl⟩
      case round =>
        obtain ⟨j, m, hj, rfl, rfl, hm⟩ := hrel
        cases j with
        | succ j =>
          have hjl : j < l.length := by omega
          have hsj : j < (ByteArray.mk l.toArray).size := by omega
          have hi : prevI (j + 1) = (j : Int) := by unfold prevI; omega
          have hi2 : ∀ x : Value, x = .int .i64 ((j : Int) - 1) → x = .int .i64 (prevI j) := fun x h => h
          have hm8 := hlt (j + 1) hk1 (by omega) (by omega)
          rw [← hm.out] at hm8
          have hidx : (ByteArray.mk l.toArray)[j]'hsj = l[j]'hjl := rfl
          have hx8 := (l[j]'hjl).toNat_lt
          have hnext : Hid (128 * m + (l[j]'hjl).toNat % 128 = Pack.val ((l.take (k + 1)).drop j)) := by
            unfold Hid
            rw [val_digit l k j hk1 (by omega), ← hm.out]; omega
          rw [hi]
          clear hi hlt hm h2
          go_wp2
          go_round
          case rel => exact ⟨j, 128 * m + (l[j]'hjl).toNat % 128, by omega, hi2 _ rfl, by congr 1; omega, hnext⟩
          case measure => simp [intOf]
        | zero =>
          have hi : prevI 0 = -1 := rfl
          have hV63 : m < 9223372036854775808 := by
            have h1 := Pack.val_lt (l.take (k + 1))
            rw [hm.out, List.drop_zero]
            have h3 : 128 ^ (l.take (k + 1)).length ≤ 128 ^ 9 := Nat.pow_le_pow_right (by decide) (by rw [List.length_take]; omega)
            have h4 : (128 : Nat) ^ 9 = 9223372036854775808 := by decide
            omega
          rw [List.drop_zero] at hm
          rw [← hm.out] at hnref HO HN
          rw [hi]
          obtain ⟨g0, g1⟩ := h2 (.cells #[.string ⟨(l.drop (k + 1)).toArray⟩, .int .i64 0] 147) (.cells #[.string ⟨#[]⟩, .int .i64 0] 147)
          have hE2 := ext_two w (.cells #[.string ⟨(l.drop (k + 1)).toArray⟩, .int .i64 0] 147) (.cells #[.string ⟨#[]⟩, .int .i64 0] 147)
          have hfail := fun w' => failed_any (l.drop (k + 1)) 21 w'
          unfold refVal at hfail
          clear hi hlt hm
          by_cases hw : Pack.wrong (l.take (k + 1)) most
          · have hN : Pack.St.num ⟨l, 0⟩ most = (⟨[], 21⟩, 0) := by rw [HN.out, if_pos hw]
            have hor := HO.out.2 hw
            have ways : (oneNum (m : Int) == l.take (k + 1)) = false ∨ ((oneNum (m : Int) == l.take (k + 1)) = true ∧ most < (m : Int)) := by
              by_cases h : oneNum (m : Int) = l.take (k + 1)
              · right
                rcases hor with h' | h'
                · exact absurd h h'
                · exact ⟨by simp [h], h'⟩
              · left; simp [h]
            have HNN := Lib.hid hN
            clear hN hor hw
            rcases ways with q1 | ⟨q1, q2⟩
            all_goals
              go_wp2_with (go_at_call 94; refine (hnref _).mono ?_; rintro e w5 ⟨rfl, hb5⟩; have g5 := heap_ext g0 hb5; have g6 := heap_ext g1 hb5; have z0 := cell_of_heap g5 0; have z1 := cell_of_heap g5 1; simp at z0 z1)
              refine (hfail _).mono ?_
              rintro e w6 ⟨rfl, hb6⟩
              have g7 := heap_ext g6 hb6
              have y0 := cell_of_heap g7 0
              have y1 := cell_of_heap g7 1
              have f0 := frozen_of_heap g7 0
              have f1 := frozen_of_heap g7 1
              simp at y0 y1
              have hE6 : Ext w w6 := (hE2.trans hb5).trans hb6
              go_wp2
              exact bodyPost_ret (v := .tuple #[.agg #[.string ⟨(l.drop (k + 1)).toArray⟩, .int .i64 21], .int .i64 0]) (by simp [results, Try.results91, go_sem, y0, y1, f0, f1]) rfl (by rw [HNN.out]; exact ⟨l.drop (k + 1), rfl, ⟨fun h => absurd h (by decide), fun _ => rfl⟩, by rw [List.length_drop]; omega, (hE6.setCell (by show w.heap.size ≤ w.heap.size + 1; omega) _).setCell (by show w.heap.size ≤ w.heap.size + 1; omega) _⟩)
          · have hN : Pack.St.num ⟨l, 0⟩ most = (⟨l.drop (k + 1), 0⟩, m) := by rw [HN.out, if_neg hw]
            have q1 : (oneNum (m : Int) == l.take (k + 1)) = true := by
              by_cases h : oneNum (m : Int) = l.take (k + 1)
              · simp [h]
              · exact absurd (HO.out.1 (.inl h)) hw
            have q2 : ¬ most < (m : Int) := fun h => hw (HO.out.1 (.inr h))
            have HNN := Lib.hid hN
            clear hN hw
            go_wp2_with (go_at_call 94; refine (hnref _).mono ?_; rintro e w5 ⟨rfl, hb5⟩; have g5 := heap_ext g0 hb5; have g7 := heap_ext g1 hb5; have z0 := cell_of_heap g5 0; have z1 := cell_of_heap g5 1; simp at z0 z1; have y0 := cell_of_heap g7 0; have y1 := cell_of_heap g7 1; have f0 := frozen_of_heap g7 0; have f1 := frozen_of_heap g7 1; simp at y0 y1; have hE6 : Ext w w5 := hE2.trans hb5)
            exact bodyPost_ret (v := .tuple #[.agg #[.string ⟨(l.drop (k + 1)).toArray⟩, .int .i64 0], .int .i64 (m : Int)]) (by simp [results, Try.results91, go_sem, y0, y1, f0, f1]) rfl (by rw [HNN.out]; exact ⟨l.drop (k + 1), rfl, ⟨fun _ => rfl, fun h => absurd rfl h⟩, by rw [List.length_drop]; omega, (hE6.setCell (by show w.heap.size ≤ w.heap.size + 1; omega) _).setCell (by show w.heap.size ≤ w.heap.size + 1; omega) _⟩)
    · have hlo : lastOf l = -1 := by unfold lastOf; rw [if_neg hk]
      simp only [hlo] at hlast
      have hll := Pack.lead_le l
      by_cases h9 : l.length < 9
      · have hN : Pack.St.num ⟨l, 0⟩ most = (⟨[], 20⟩, 0) := by
          unfold Pack.St.num
          simp only []
          rw [if_neg (by omega), if_pos (by omega)]
          simp [Pack.St.fail]
        have hs9 : (l.length : Int) < 9 := by omega
        obtain ⟨g0, g1⟩ := h2 (.cells #[.string ⟨#[]⟩, .int .i64 0] 147) (.cells #[.string ⟨#[]⟩, .int .i64 0] 147)
        have hE2 := ext_two w (.cells #[.string ⟨#[]⟩, .int .i64 0] 147) (.cells #[.string ⟨#[]⟩, .int .i64 0] 147)
        have hfail := fun w' => failed_any [] 20 w'
        unfold refVal at hfail
        have HNN := Lib.hid hN
        clear hN hlo hk h9
        go_enter Try.func91, Try.ntmps91
        go_wp2_with (go_at_call 103; refine (hlast _).mono ?_; rintro e w' ⟨rfl, rfl⟩)
        refine (hfail _).mono ?_
        rintro e w6 ⟨rfl, hb6⟩
        have g7 := heap_ext g1 hb6
        have y0 := cell_of_heap g7 0
        have y1 := cell_of_heap g7 1
        have f1 := frozen_of_heap g7 1
        have f0 := frozen_of_heap g7 0
        simp at y0 y1
        have hE6 : Ext w w6 := hE2.trans hb6
        go_wp2
        exact bodyPost_ret (v := .tuple #[.agg #[.string ⟨#[]⟩, .int .i64 20], .int .i64 0]) (by simp [results, Try.results91, go_sem, y0, y1, f0, f1]) rfl (by rw [HNN.out]; exact ⟨[], rfl, ⟨fun h => absurd h (by decide), fun _ => rfl⟩, Nat.zero_le _, (hE6.setCell (by show w.heap.size ≤ w.heap.size + 1; omega) _).setCell (by show w.heap.size ≤ w.heap.size + 1; omega) _⟩)
      · have hN : Pack.St.num ⟨l, 0⟩ most = (⟨[], 21⟩, 0) := by
          unfold Pack.St.num
          simp only []
          rw [if_pos (by omega)]
          simp [Pack.St.fail]
        have hs9 : ¬ (l.length : Int) < 9 := by omega
        have st3 : ∀ w' : World, (Instr.slice 9 (.string ⟨l.toArray⟩) (some (.int .i64 9)) none none).run Try.prog w' = .ok (.string ⟨(l.drop 9).toArray⟩) w' := fun w' => str_from w' l 9 (by omega)
        obtain ⟨g0, g1⟩ := h2 (.cells #[.string ⟨(l.drop 9).toArray⟩, .int .i64 0] 147) (.cells #[.string ⟨#[]⟩, .int .i64 0] 147)
        have hE2 := ext_two w (.cells #[.string ⟨(l.drop 9).toArray⟩, .int .i64 0] 147) (.cells #[.string ⟨#[]⟩, .int .i64 0] 147)
        have hfail := fun w' => failed_any (l.drop 9) 21 w'
        unfold refVal at hfail
        have HNN := Lib.hid hN
        clear hN hlo hk h9
        go_enter Try.func91, Try.ntmps91
        go_wp2_with (go_at_call 103; refine (hlast _).mono ?_; rintro e w' ⟨rfl, rfl⟩)
        refine (hfail _).mono ?_
        rintro e w6 ⟨rfl, hb6⟩
        have g7 := heap_ext g1 hb6
        have y0 := cell_of_heap g7 0
        have y1 := cell_of_heap g7 1
        have f1 := frozen_of_heap g7 1
        have f0 := frozen_of_heap g7 0
        simp at y0 y1
        have hE6 : Ext w w6 := hE2.trans hb6
        go_wp2
        exact bodyPost_ret (v := .tuple #[.agg #[.string ⟨(l.drop 9).toArray⟩, .int .i64 21], .int .i64 0]) (by simp [results, Try.results91, go_sem, y0, y1, f0, f1]) rfl (by rw [HNN.out]; exact ⟨l.drop 9, rfl, ⟨fun h => absurd h (by decide), fun _ => rfl⟩, by rw [List.length_drop]; omega, (hE6.setCell (by show w.heap.size ≤ w.heap.size + 1; omega) _).setCell (by show w.heap.size ≤ w.heap.size + 1; omega) _⟩)
  · have hd := hs.dead he
    have e : s.num most = (s, 0) := by
      obtain ⟨l0, e0⟩ := s
      simp only at hd he
      subst hd
      exact Pack.num_dead e0 most he
    have hq : (s.err == 0) = false := by simp [he]
    rw [e]
    clear e he hd
    go_enter Try.func91, Try.ntmps91
    go_wp2
    exact bodyPost_ret (v := .tuple #[.agg #[.string ⟨l.toArray⟩, .int .i64 s.err], .int .i64 0]) (by simp [results, Try.results91, go_sem]) rfl ⟨l, rfl, hs, Nat.le_refl _, ext_two _ _ _⟩

end Go.Proofs.Ytpefengjpedifaa
