/-
  Layer 5, the program: entries as bytes.
-/
import Derived.Test.YtboopfbflfimlaaEntC
import Derived.Test.YtboopfbflfimlaaCrcPut
import Derived.Test.YtboopfbflfimlaaCrcRef
import Derived.Test.YtboopfbflfimlaaVecG
namespace Go.Proofs.Ytboopfbflfimlaa
set_option linter.unusedSimpArgs false
set_option linter.unusedVariables false
set_option maxRecDepth 100000
open Go.RowKit

def GivesEnc5 (w : World) (e : Ent.E) (x : Ending) (w' : World) : Prop := ∃ u, x = .returned (.tuple #[u, .int .i64 (orErr 50 (Ent.right e))]) ∧ Bytes w' u (bytesOr (Ent.right e) (Ent.enc e)) ∧ Ext w w'
/-- The same, and what is handed back is the call's own. -/
def OwnsEnc5 (w : World) (e : Ent.E) (x : Ending) (w' : World) : Prop := ∃ u, x = .returned (.tuple #[u, .int .i64 0]) ∧ w'.ownsRow w.heap.size 5 1 u (Ent.enc e).length (u8s (Ent.enc e)) ∧ Ext w w'

theorem intsLit2 (w : World) (x y : Int) : Ints (w.alloc (.cells #[.int .i64 x, .int .i64 y] 3)) (.slice (some ⟨w.heap.size, 0, none⟩) 2 2) [x, y] :=
  Sl.made w (i64s [x, y]) 3 2 (by simp) (by simp [maxLen]) (fr := (0, 0))
theorem intsLit3 (w : World) (x y z : Int) : Ints (w.alloc (.cells #[.int .i64 x, .int .i64 y, .int .i64 z] 3)) (.slice (some ⟨w.heap.size, 0, none⟩) 3 3) [x, y, z] :=
  Sl.made w (i64s [x, y, z]) 3 3 (by simp) (by simp [maxLen]) (fr := (0, 0))

theorem Ent.text_one {e : Ent.E} (h : e.kind = 1) : Ent.text e = nums [e.number, e.kind] ++ (Pack.num (Ent.vecBytes e.cut).length ++ Ent.vecBytes e.cut) := by
  unfold Ent.text; rw [Ent.body_one h]; simp [nums]
theorem Ent.text_two {e : Ent.E} (h : e.kind ≠ 1) : Ent.text e = nums [e.number, e.kind] ++ nums [e.tag, e.term, e.pos] := by
  unfold Ent.text; rw [Ent.body_two h]; simp [nums]
theorem Ent.text_le {e : Ent.E} (h : Ent.right e = true) : (Ent.text e).length ≤ 108 := by
  have := Ent.enc_le h
  unfold Ent.enc at this
  rw [List.length_append, Crc.low_length] at this
  omega

set_option maxHeartbeats 4000000 in
/-- A right one is written; what is handed back is the call's own. -/
theorem encode5_own (v : Value) (e : Ent.E) (w : World) (hv : IsEnt w v e) (hr : Ent.right e = true) : Calls Try.prog 11 #[v] w (OwnsEnc5 w e) := by
  have hbx := box_ent
  have hr5 := fun w1 hv => right5_any v e w1 hv
  have HV := Lib.hid hv
  obtain ⟨u, rfl, hu⟩ := hv
  obtain ⟨n, k, c, t, m, p⟩ := e
  unfold entV at *
  simp only at hu hr5 ⊢
  obtain ⟨a, cap, rfl, hcap, hmax, _, _⟩ := hu.open
  unfold maxLen at hmax
  have HU := Lib.hid hu
  clear hu
  have hE0 : Ext w (w.alloc (.cells #[.int .i64 n, .int .i64 k, .slice a c.length cap, .int .i64 t, .int .i64 m, .int .i64 p] 31)) := Ext.alloc _ _
  have HA0 := Lib.hid (EntAt.new 31 w (.slice a c.length cap) ⟨n, k, c, t, m, p⟩)
  unfold OwnsEnc5
  have HR := Lib.hid hr
  obtain ⟨q1, q2⟩ := Ent.right_ok hr
  simp only at q1 q2
  have hk : 0 ≤ k ∧ k ≤ 2 := by rcases q2 with ⟨h, _⟩ | ⟨h, _⟩ <;> omega
  have hall1 : [n, k].all okNum = true := by
    simp only [List.all_cons, List.all_nil, Bool.and_true]
    rw [okNumOf (by omega), okNumOf (by omega)]
    rfl
  have hl1 := nums_le _ hall1
  simp only [List.length_cons, List.length_nil] at hl1
  have HA1 := Lib.hid hall1
  have HL1 := Lib.hid hl1
  have HTL := Lib.hid (Ent.text_le hr)
  clear hr hall1 hl1
  rcases q2 with ⟨rfl, v1, t1, t2, t3⟩ | ⟨rfl, v1, t1, t2, t3⟩
  · subst t1 t2 t3
    have HT := Lib.hid (Ent.text_one (e := ⟨n, 1, c, 0, 0, 0⟩) rfl)
    have HVL := Lib.hid (Ent.vecBytes_le v1)
    have HV1 := Lib.hid v1
    clear v1
    go_enter Try.func11, Try.ntmps11
    go_wp2_with fail
    refine (hr5 _ (HV.out.below hE0)).mono ?_
    rw [HR.out]
    rintro e w1 ⟨rfl, hE1⟩
    have a1 := Lib.hid (HA0.out.ext hE1)
    obtain ⟨c0, c1, c2, c3, c4, c5⟩ := a1.out.cells
    have e1 := hE0.trans hE1
    go_wp2_with fail
    refine (packNum_any (.slice none 0 0) _ [] [n, 1] _ (bytes_none _) (intsLit2 w1 _ _) (by simp) (by simp)).mono ?_
    rw [HA1.out, if_pos rfl, List.nil_append]
    rintro e w2 ⟨v2, rfl, ho2, hE2⟩
    have hE2' : Ext w1 w2 := (Ext.alloc _ _).trans hE2
    have a2 := Lib.hid (a1.out.ext hE2')
    clear c0 c1 c2 c3 c4 c5
    obtain ⟨c0, c1, c2, c3, c4, c5⟩ := a2.out.cells
    have e2 := e1.trans hE2'
    go_wp2_with fail
    refine (encode_any _ c _ (HU.out.below e2)).mono ?_
    unfold GivesEnc
    rw [HV1.out, bytesOr_true]
    rintro e w3 ⟨v3, rfl, hb3, hE3⟩
    have e3 := e2.trans hE3
    have hb2 := ho2.bytes.below hE3
    have hst := run_str (P := Try.prog) 27 9 5 Try.underlying27 Try.underlying5 Try.underlying9 hb3
    obtain ⟨a3, n3, k3, rfl⟩ := hb3.isSlice
    clear c0 c1 c2 c3 c4 c5
    go_wp2_with fail
    refine (packText_any v2 _ (Ent.vecBytes c) _ hb2 (by have := HL1.out; omega) (by have := HVL.out; omega)).mono ?_
    rw [if_pos (by have := HVL.out; omega), ← HT.out]
    rintro e w4 ⟨v4, rfl, ho4, hE4⟩
    have e4 := e3.trans hE4
    go_wp2_with fail
    refine (new_any _).mono ?_
    rintro e w5 ⟨rfl, ht5, hE5⟩
    have e5 := e4.trans hE5
    go_wp2_with fail
    refine (put_own _ 0 0 v4 _ _ ht5 (.inl rfl) (ho4.bytes.below hE5) (by have := HTL.out; omega)).mono ?_
    rintro e w6 ⟨v6, d6, rfl, ho6, hB6, hd6, ht6⟩
    have e6 : Ext w w6 := Below.trans (B := w.heap.size) e5 (hB6.below e4.size (Nat.le_trans e4.size hE5.size))
    go_wp2_with fail
    go_ret2
    refine ⟨_, rfl, ?_, e6⟩
    unfold Ent.enc
    exact rowLower ho6 e5.size
  · subst v1
    have HT := Lib.hid (Ent.text_two (e := ⟨n, 2, [], t, m, p⟩) (show (2 : Int) ≠ 1 by decide))
    have hall2 : [t, m, p].all okNum = true := by
      simp only [List.all_cons, List.all_nil, Bool.and_true]
      rw [okNumOf (by omega), okNumOf (by omega), okNumOf (by omega)]
      rfl
    have HA2 := Lib.hid hall2
    clear hall2
    go_enter Try.func11, Try.ntmps11
    go_wp2_with fail
    refine (hr5 _ (HV.out.below hE0)).mono ?_
    rw [HR.out]
    rintro e w1 ⟨rfl, hE1⟩
    have a1 := Lib.hid (HA0.out.ext hE1)
    obtain ⟨c0, c1, c2, c3, c4, c5⟩ := a1.out.cells
    have e1 := hE0.trans hE1
    go_wp2_with fail
    refine (packNum_any (.slice none 0 0) _ [] [n, 2] _ (bytes_none _) (intsLit2 w1 _ _) (by simp) (by simp)).mono ?_
    rw [HA1.out, if_pos rfl, List.nil_append]
    rintro e w2 ⟨v2, rfl, ho2, hE2⟩
    have hE2' : Ext w1 w2 := (Ext.alloc _ _).trans hE2
    have a2 := Lib.hid (a1.out.ext hE2')
    clear c0 c1 c2 c3 c4 c5
    obtain ⟨c0, c1, c2, c3, c4, c5⟩ := a2.out.cells
    have e2 := e1.trans hE2'
    have hb2 := Lib.hid (ho2.bytes.below (Ext.alloc w2 (.cells #[.int .i64 t, .int .i64 m, .int .i64 p] 3)))
    go_wp2_with fail
    refine (packNum_any v2 _ _ [t, m, p] _ hb2.out (intsLit3 w2 _ _ _) (by have := HL1.out; omega) (by simp)).mono ?_
    rw [HA2.out, if_pos rfl, ← HT.out]
    rintro e w4 ⟨v4, rfl, ho4, hE4⟩
    have e4 := e2.trans ((Ext.alloc _ _).trans hE4)
    clear c0 c1 c2 c3 c4 c5
    go_wp2_with fail
    refine (new_any _).mono ?_
    rintro e w5 ⟨rfl, ht5, hE5⟩
    have e5 := e4.trans hE5
    go_wp2_with fail
    refine (put_own _ 0 0 v4 _ _ ht5 (.inl rfl) (ho4.bytes.below hE5) (by have := HTL.out; omega)).mono ?_
    rintro e w6 ⟨v6, d6, rfl, ho6, hB6, hd6, ht6⟩
    have e6 : Ext w w6 := Below.trans (B := w.heap.size) e5 (hB6.below e4.size (Nat.le_trans e4.size hE5.size))
    go_wp2_with fail
    go_ret2
    refine ⟨_, rfl, ?_, e6⟩
    unfold Ent.enc
    exact rowLower ho6 e5.size

set_option maxHeartbeats 4000000 in
theorem encode5_wrong (v : Value) (e : Ent.E) (w : World) (hv : IsEnt w v e) (hr : Ent.right e = false) : Calls Try.prog 11 #[v] w fun x w' => x = .returned (.tuple #[.slice none 0 0, .int .i64 50]) ∧ Ext w w' := by
  have hbx := box_ent
  have hr5 := fun w1 hv => right5_any v e w1 hv
  have HV := Lib.hid hv
  obtain ⟨u, rfl, hu⟩ := hv
  obtain ⟨n, k, c, t, m, p⟩ := e
  unfold entV at *
  simp only at hu hr5 ⊢
  obtain ⟨a, cap, rfl, hcap, hmax, _, _⟩ := hu.open
  unfold maxLen at hmax
  clear hu
  have hE0 : Ext w (w.alloc (.cells #[.int .i64 n, .int .i64 k, .slice a c.length cap, .int .i64 t, .int .i64 m, .int .i64 p] 31)) := Ext.alloc _ _
  have HR := Lib.hid hr
  clear hr
  go_enter Try.func11, Try.ntmps11
  go_wp2_with fail
  refine (hr5 _ (HV.out.below hE0)).mono ?_
  rw [HR.out]
  rintro e w1 ⟨rfl, hE1⟩
  go_wp2_with fail
  go_ret2
  exact ⟨rfl, hE0.trans hE1⟩
theorem encode5_any (v : Value) (e : Ent.E) (w : World) (hv : IsEnt w v e) : Calls Try.prog 11 #[v] w (GivesEnc5 w e) := by
  unfold GivesEnc5
  cases hr : Ent.right e with
  | true =>
    refine (encode5_own v e w hv hr).mono ?_
    rintro x w' ⟨u, rfl, ho, hE⟩
    exact ⟨u, rfl, Sl.ofOwn ho, hE⟩
  | false =>
    refine (encode5_wrong v e w hv hr).mono ?_
    rintro x w' ⟨rfl, hE⟩
    exact ⟨_, rfl, bytes_none _, hE⟩
end Go.Proofs.Ytboopfbflfimlaa
