/-
  Layer 4: what Encode leaves of a right record, and of none; a record loaded.
-/
import Derived.Test.YtjflbjlpibekhaaRecAlive
namespace Go.Proofs.Ytjflbjlpibekhaa
set_option maxRecDepth 100000
open Go.RowKit

theorem ld_rec {w : World} {q : Nat} {a : Option Addr} {n c : Nat} {r : Rec.R} (h : RecAt w q (.slice a n c) r) : (Instr.loadAt 26 (.pointer (some ⟨q, 0, none⟩))).run Try.prog w = .ok (.agg #[.int .i64 r.client, .int .i64 r.number, .slice a n c, .string ⟨r.data.toArray⟩]) w := by
  obtain ⟨z0, z1, z2, z3⟩ := h.cells
  simp [go_sem, z0, z1, z2, z3]

theorem encode4_right (v : Value) (r : Rec.R) (w : World) (hr : Rec.right r = true) (hv : IsRec w v r) :
    Calls Try.prog 11 #[v] w fun e w' => ∃ u, e = .returned (.tuple #[u, .int .i64 0]) ∧ Bytes w' u (Rec.enc r) ∧ Ext w w' := by
  have h := encode4_any v r w hv
  unfold GivesEnc4 at h
  rw [hr] at h
  exact h
theorem encode4_wrong (v : Value) (r : Rec.R) (w : World) (hr : Rec.right r = false) (hv : IsRec w v r) :
    Calls Try.prog 11 #[v] w fun e w' => ∃ u, e = .returned (.tuple #[u, .int .i64 40]) ∧ Bytes w' u [] ∧ Ext w w' := by
  have h := encode4_any v r w hv
  unfold GivesEnc4 at h
  rw [hr] at h
  exact h

theorem own_lower {w : World} {b b' : Nat} {l : List UInt8} {v : Value} (h : w.ownsRow b 5 1 v l.length (u8s l)) (hb : b' ≤ b) : Own w b' v l := by
  refine ⟨h.1, ?_⟩
  rcases h.2 with h | ⟨g, cap, cur, e1, e2, e3⟩
  · exact .inl h
  · exact .inr ⟨g, cap, cur, e1, Nat.le_trans hb e2, e3⟩
set_option maxHeartbeats 4000000 in
theorem encode4_own (v : Value) (r : Rec.R) (w : World) (hr : Rec.right r = true) (hv : IsRec w v r) :
    Calls Try.prog 11 #[v] w fun e w' => ∃ u, e = .returned (.tuple #[u, .int .i64 0]) ∧ Own w' w.heap.size u (Rec.enc r) ∧ Ext w w' := by
  have hbx := box_rec
  have hr4 := fun w1 hv => right4_any v r w1 hv
  have HV := Lib.hid hv
  obtain ⟨t, rfl, ht⟩ := hv
  unfold recV at *
  obtain ⟨a, cap, rfl, hcap, hmax, _, _⟩ := ht.open
  unfold maxLen at hmax
  have HT := Lib.hid ht
  clear ht
  have hE0 : Ext w (w.alloc (.cells #[.int .i64 r.client, .int .i64 r.number, .slice a r.tags.length cap, .string ⟨r.data.toArray⟩] 26)) := Ext.alloc _ _
  have HA0 := Lib.hid (RecAt.new w (.slice a r.tags.length cap) r)
  have HR := Lib.hid hr
  obtain ⟨q1, q2, q3, q4, q5, q6⟩ := Rec.right_ok hr
  have hall1 : [r.client, r.number, (r.tags.length : Int)].all okNum = true := by
    simp only [List.all_cons, List.all_nil, Bool.and_true]
    rw [okNum_of (by omega), okNum_of (by omega), okNum_of (by omega)]
    rfl
  have hall2 : r.tags.all okNum = true := by
    rw [List.all_eq_true]
    intro x hx
    have := q4 x hx
    exact okNum_of (by omega)
  have hl1 := nums_le _ hall1
  have hl2 := nums_le _ hall2
  have hl3 := Pack.num_nine (n := r.data.length) (by omega)
  simp only [List.length_cons, List.length_nil] at hl1
  have HT1 := Lib.hid (text_nums r)
  have HA1 := Lib.hid hall1
  have HA2 := Lib.hid hall2
  have HQ := Lib.hid (And.intro q5 (And.intro q6 (And.intro hl1 (And.intro hl2 hl3))))
  have hlen63 : r.data.length ≤ 9223372036854775807 := by omega
  clear hr hall1 hall2 q1 q2 q3 q4 hl1 hl2 hl3
  go_enter Try.func11, Try.ntmps11
  go_wp2_with fail
  refine (hr4 _ (HV.out.below hE0)).mono ?_
  rintro e w1 ⟨rfl, hE1⟩
  rw [HR.out]
  have a1 := Lib.hid (HA0.out.ext hE1)
  obtain ⟨c0, c1, c2, c3⟩ := a1.out.cells
  have e1 := hE0.trans hE1
  go_wp2_with fail
  refine (packNum_any (.slice none 0 0) _ [] [r.client, r.number, (r.tags.length : Int)] _ (bytes_none _) (ints_lit3 w1 _ _ _) (by simp) (by simp)).mono ?_
  rw [HA1.out, if_pos rfl, List.nil_append]
  rintro e w2 ⟨v2, rfl, ho2, hE2⟩
  have hE2' : Ext w1 w2 := (Ext.alloc _ _).trans hE2
  have a2 := Lib.hid (a1.out.ext hE2')
  obtain ⟨c0', c1', c2', c3'⟩ := a2.out.cells
  have e2 := e1.trans hE2'
  clear c0 c1 c2 c3
  go_wp2_with fail
  refine (packNum_any v2 _ _ r.tags _ ho2.bytes (HT.out.below e2) (by have := HQ.out; omega) (by omega)).mono ?_
  rw [HA2.out, if_pos rfl]
  rintro e w3 ⟨v3, rfl, ho3, hE3⟩
  have a3 := Lib.hid (a2.out.ext hE3)
  obtain ⟨c0, c1, c2, c3⟩ := a3.out.cells
  have e3 := e2.trans hE3
  clear c0' c1' c2' c3'
  go_wp2_with fail
  refine (packText_any v3 _ r.data _ ho3.bytes (by have := HQ.out; rw [List.length_append]; omega) hlen63).mono ?_
  rw [if_pos (by omega), decide_eq_true (by omega), ← HT1.out]
  rintro e w4 ⟨v4, rfl, ho4, hE4⟩
  have e4 := e3.trans hE4
  clear c0 c1 c2 c3
  go_wp2_with fail
  refine (new_any _).mono ?_
  rintro e w5 ⟨rfl, ht5, hE5⟩
  have e5 := e4.trans hE5
  go_wp2_with fail
  refine (put_own _ 0 0 v4 (Rec.text r) _ ht5 (.inl rfl) (ho4.bytes.below hE5) (by have := HQ.out; rw [HT1.out]; simp only [List.length_append]; omega)).mono ?_
  rintro e w6 ⟨v6, d6, rfl, hb6, hB6, hd6, ht6⟩
  have e6 : Ext w w6 := Below.trans (B := w.heap.size) e5 (hB6.below e4.size (Nat.le_trans e4.size hE5.size))
  go_wp2_with fail
  go_ret2
  exact ⟨_, rfl, own_lower hb6 (Nat.le_trans e4.size hE5.size), e6⟩
end Go.Proofs.Ytjflbjlpibekhaa
