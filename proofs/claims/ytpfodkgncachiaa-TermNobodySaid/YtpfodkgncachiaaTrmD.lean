/-
  Layer 6, the program: configurations as bytes.
-/
import Derived.Test.YtpfodkgncachiaaTrmB
import Derived.Test.YtpfodkgncachiaaCrcPut
import Derived.Test.YtpfodkgncachiaaCrcRef
import Derived.Test.YtpfodkgncachiaaVecE
namespace Go.Proofs.Ytpfodkgncachiaa
set_option linter.unusedSimpArgs false
set_option linter.unusedVariables false
set_option maxRecDepth 100000
open Go.RowKit

def GivesEnc6 (w : World) (c : Term.C) (x : Ending) (w' : World) : Prop := ∃ u, x = .returned (.tuple #[u, .int .i64 (orErr 60 (Term.right c))]) ∧ Bytes w' u (bytesOr (Term.right c) (Term.enc c)) ∧ Ext w w'
/-- The same, and what is handed back is the call's own. -/
def OwnsEnc6 (w : World) (c : Term.C) (x : Ending) (w' : World) : Prop := ∃ u, x = .returned (.tuple #[u, .int .i64 0]) ∧ w'.ownsRow w.heap.size 5 1 u (Term.enc c).length (u8s (Term.enc c)) ∧ Ext w w'

theorem row6 (ns : List Int) : Term.row ns = nums [(ns.length : Int)] ++ nums ns := by unfold Term.row; simp [nums, Rec.numsOf]
theorem okRow {ns : List Int} (h : ∀ x ∈ ns, 0 ≤ x ∧ x ≤ 15) : ns.all okNum = true := by
  rw [List.all_eq_true]
  intro x hx
  exact okNumOf (by have := h x hx; omega)
theorem okOne {n : Int} (h : 0 ≤ n ∧ n ≤ 4611686018427387904) : [n].all okNum = true := by
  simp only [List.all_cons, List.all_nil, Bool.and_true]
  exact okNumOf h
theorem oneLen {n : Int} (h : 0 ≤ n ∧ n ≤ 4611686018427387904) : (nums [n]).length ≤ 9 := by
  have := nums_le [n] (okOne h)
  simpa using this

set_option maxHeartbeats 4000000 in
theorem addRow6_any (v u : Value) (l : List UInt8) (ns : List Int) (w : World) (hv : Bytes w v l) (hu : Ints w u ns) (hl : l.length ≤ 10000) (hn : ns.length ≤ 100) (hok : ∀ x ∈ ns, 0 ≤ x ∧ x ≤ 15) :
    Calls Try.prog 29 #[v, u] w (GivesOwn w.heap.size w (l ++ Term.row ns)) := by
  have HV := Lib.hid hv
  have HU := Lib.hid hu
  obtain ⟨a, cap, rfl, hcap, hmax, _, _⟩ := hu.open
  unfold maxLen at hmax
  have HO1 := Lib.hid (okOne (n := (ns.length : Int)) (by omega))
  have HO2 := Lib.hid (okRow hok)
  have HL1 := Lib.hid (oneLen (n := (ns.length : Int)) (by omega))
  have HR := Lib.hid (row6 ns)
  clear hv hu hok
  go_enter Try.func29, Try.ntmps29
  go_wp2_with fail
  refine (packNum_any v _ l [(ns.length : Int)] _ (HV.out.below (Ext.alloc _ _)) (Ints.one w _) (by omega) (by simp)).mono ?_
  rw [HO1.out, if_pos rfl]
  rintro e w1 ⟨v1, rfl, ho1, hE1⟩
  have hE1' : Ext w w1 := (Ext.alloc _ _).trans hE1
  go_wp2_with fail
  refine (packNum_any v1 _ _ ns _ ho1.bytes (HU.out.below hE1') (by rw [List.length_append]; have := HL1.out; omega) (by omega)).mono ?_
  rw [HO2.out, if_pos rfl]
  rintro e w2 ⟨v2, rfl, ho2, hE2⟩
  go_wp2_with fail
  go_ret
  refine ⟨v2, rfl, ?_, hE1'.trans hE2⟩
  rw [HR.out, ← List.append_assoc]
  exact rowLower ho2 hE1'.size

theorem rowSmall {l : List Int} (h : Term.unlike l = true) (h7 : l.length ≤ 7) : (∀ x ∈ l, 0 ≤ x ∧ x ≤ 15) ∧ (Term.row l).length ≤ 72 := by
  have h1 := (Term.unlike_ok h).1
  exact ⟨h1, by have := Term.row_le h1 (by omega); omega⟩

set_option maxHeartbeats 4000000 in
/-- A right one is written; what is handed back is the call's own. -/
theorem encode6_own (v : Value) (c : Term.C) (w : World) (hv : IsConf w v c) (hr : Term.right c = true) : Calls Try.prog 16 #[v] w (OwnsEnc6 w c) := by
  have hbx := box_conf
  have hr5 := fun w1 hv => right6_any v c w1 hv
  have HV := Lib.hid hv
  obtain ⟨s, d, rfl, hs, hd⟩ := hv
  obtain ⟨t, S, D⟩ := c
  unfold confV at *
  simp only at hs hd hr5 ⊢
  have HS := Lib.hid hs
  have HD := Lib.hid hd
  obtain ⟨a, cap, rfl, hcap, hmax, _, _⟩ := hs.open
  obtain ⟨a2, cap2, rfl, hcap2, hmax2, _⟩ := hd.open
  unfold maxLen at hmax hmax2
  clear hs hd
  have hE0 : Ext w (w.alloc (.cells #[.int .i64 t, .slice a S.length cap, .slice a2 D.length cap2] 26)) := Ext.alloc _ _
  have HA0 := Lib.hid (ConfAt.new 26 w t (.slice a S.length cap) (.slice a2 D.length cap2))
  unfold OwnsEnc6
  have HR := Lib.hid hr
  obtain ⟨q1, q2, q3, q4, q5⟩ := Term.right_ok hr
  simp only at q1 q2 q3 q4 q5
  have HQ3 := Lib.hid q3
  obtain ⟨s1, s2⟩ := rowSmall q5 (by omega)
  have HO1 := Lib.hid (okOne (n := t) (by omega))
  have HO2 := Lib.hid (okOne (n := (D.length : Int)) (by omega))
  have HL1 := Lib.hid (oneLen (n := t) (by omega))
  have HL2 := Lib.hid (oneLen (n := (D.length : Int)) (by omega))
  have HS1 := Lib.hid s1
  have HS2 := Lib.hid s2
  have HT := Lib.hid (show Term.text ⟨t, S, D⟩ = ((nums [t] ++ Term.row S) ++ nums [(D.length : Int)]) ++ Term.rowsOf D by unfold Term.text; simp [nums])
  have HLE := Lib.hid (Term.enc_le hr)
  have hSl : S.length ≤ 7 := by omega
  clear hr q3 q4 q5 s1 s2
  go_enter Try.func16, Try.ntmps16
  go_wp2_with fail
  refine (hr5 _ (HV.out.below hE0)).mono ?_
  rw [HR.out]
  rintro e w1 ⟨rfl, hE1⟩
  have a1 := Lib.hid (HA0.out.ext hE1)
  obtain ⟨c0, c1, c2⟩ := a1.out.cells
  have e1 := hE0.trans hE1
  go_wp2_with fail
  refine (packNum_any (.slice none 0 0) _ [] [t] _ (bytes_none _) (Ints.one w1 _) (by simp) (by simp)).mono ?_
  rw [HO1.out, if_pos rfl, List.nil_append]
  rintro e w2 ⟨v2, rfl, ho2, hE2⟩
  have hE2' : Ext w1 w2 := (Ext.alloc _ _).trans hE2
  have a2 := Lib.hid (a1.out.ext hE2')
  clear c0 c1 c2
  obtain ⟨c0, c1, c2⟩ := a2.out.cells
  have e2 := e1.trans hE2'
  go_wp2_with fail
  refine (addRow6_any v2 _ _ S _ ho2.bytes (HS.out.below e2) (by have := HL1.out; omega) (by omega) HS1.out).mono ?_
  rintro e w3 ⟨v3, rfl, ho3, hE3⟩
  have e3 := e2.trans hE3
  have a3 := Lib.hid (a2.out.ext hE3)
  clear c0 c1 c2
  obtain ⟨c0, c1, c2⟩ := a3.out.cells
  have hL3 := Lib.hid (show (nums [t] ++ Term.row S).length ≤ 100 by rw [List.length_append]; have := HL1.out; have := HS2.out; omega)
  go_wp2_with fail
  refine (packNum_any v3 _ _ [(D.length : Int)] _ (ho3.bytes.below (Ext.alloc _ _)) (Ints.one w3 _) (by have := hL3.out; omega) (by simp)).mono ?_
  rw [HO2.out, if_pos rfl]
  rintro e w4 ⟨v4, rfl, ho4, hE4⟩
  have hE4' : Ext w3 w4 := (Ext.alloc _ _).trans hE4
  have e4 := e3.trans hE4'
  have a4 := Lib.hid (a3.out.ext hE4')
  clear c0 c1 c2
  obtain ⟨c0, c1, c2⟩ := a4.out.cells
  obtain ⟨B, hB⟩ : ∃ B, (nums [t] ++ Term.row S) ++ nums [(D.length : Int)] = B := ⟨_, rfl⟩
  have hBl : B.length ≤ 109 := by rw [← hB, List.length_append]; have := hL3.out; have := HL2.out; omega
  rw [hB] at ho4 HT
  have hO4 := Lib.hid (show Own w4 w.heap.size v4 (B ++ Term.rowsOf (D.take 0)) by
    rw [List.take_zero, show Term.rowsOf [] = [] from rfl, List.append_nil]; exact rowLower ho4 (Nat.le_trans e3.size (Ext.alloc w3 _).size))
  clear hB ho4 ho3 ho2 hE0 HA0 hE1
  go_wp2_with fail
  go_loopw [4, 7, 34] (fun b _ i wr => ∃ k : Nat, k ≤ D.length ∧ i = .int .i64 k ∧ Hid (Own wr w.heap.size b (B ++ Term.rowsOf (D.take k))) ∧ Ext w4 wr) (fun _ _ i _ => D.length - (intOf i).toNat)
  case atStart => exact ⟨0, by omega, rfl, hO4.out, Ext.refl _⟩
  case round =>
    obtain ⟨k, hk, rfl, ho, hE⟩ := hrel
    clear c0 c1 c2
    have HLk := Lib.hid (show (Term.rowsOf (D.take k)).length ≤ 288 by
      have := Term.rowsOf_le (D.take k) (fun l hl => HQ3.out l (List.mem_of_mem_take hl))
      rw [List.length_take] at this
      omega)
    by_cases hlt : k < D.length
    · obtain ⟨a', cap', e', _, _, hc⟩ := ((HD.out.below e4).below hE).open
      obtain ⟨b, off, x, rfl, hcell, hx⟩ := hc k hlt
      injection e' with e1 e2 e3
      subst e1
      clear hc e2 e3
      have HX := Lib.hid hx
      obtain ⟨ax, cx, rfl, hcx, hmx, _⟩ := hx.open
      unfold maxLen at hmx
      clear hx
      obtain ⟨p1, p2, p3⟩ := Term.shard_ok (HQ3.out _ (List.getElem_mem hlt))
      have HP := Lib.hid (Term.unlike_ok p3).1
      have HTK := Lib.hid (show D.take (k + 1) = D.take k ++ [D[k]] from take_succ_getD D k hlt)
      clear p3
      go_wp2_with fail
      refine (addRow6_any _ _ _ D[k] _ ho.out.bytes HX.out (by rw [List.length_append]; have := HLk.out; omega) (by omega) HP.out).mono ?_
      rintro e w5 ⟨v5, rfl, ho5, hE5⟩
      go_wp2_with fail
      go_roundw
      case rel =>
        refine ⟨k + 1, by omega, by go_num, ?_, hE.trans hE5⟩
        show Own _ _ _ _
        rw [HTK.out, Term.rowsOf_snoc, ← List.append_assoc]
        exact rowLower ho5 (Nat.le_trans e4.size hE.size)
      case measure => simp [intOf]; omega
    · have HK := Lib.hid (show D.take k = D from List.take_of_length_le (by omega))
      rw [HK.out] at ho HLk
      have e5 := e4.trans hE
      go_wp2_with fail
      refine (new_any _).mono ?_
      rintro e w6 ⟨rfl, ht6, hE6⟩
      have e6 := e5.trans hE6
      go_wp2_with fail
      refine (put_own _ 0 0 _ _ _ ht6 (.inl rfl) (ho.out.bytes.below hE6) (by rw [List.length_append]; have := HLk.out; omega)).mono ?_
      rintro e w7 ⟨v7, d7, rfl, ho7, hB7, hd7, ht7⟩
      have e7 : Ext w w7 := Below.trans (B := w.heap.size) e6 (hB7.below e5.size (Nat.le_trans e5.size hE6.size))
      go_wp2_with fail
      go_ret2
      refine ⟨_, rfl, ?_, e7⟩
      unfold Term.enc
      rw [HT.out]
      exact rowLower ho7 e6.size

set_option maxHeartbeats 4000000 in
theorem encode6_wrong (v : Value) (c : Term.C) (w : World) (hv : IsConf w v c) (hr : Term.right c = false) : Calls Try.prog 16 #[v] w fun x w' => x = .returned (.tuple #[.slice none 0 0, .int .i64 60]) ∧ Ext w w' := by
  have hbx := box_conf
  have hr5 := fun w1 hv => right6_any v c w1 hv
  have HV := Lib.hid hv
  obtain ⟨s, d, rfl, hs, hd⟩ := hv
  obtain ⟨t, S, D⟩ := c
  unfold confV at *
  simp only at hs hd hr5 ⊢
  obtain ⟨a, cap, rfl, hcap, hmax, _, _⟩ := hs.open
  obtain ⟨a2, cap2, rfl, hcap2, hmax2, _⟩ := hd.open
  unfold maxLen at hmax hmax2
  clear hs hd
  have hE0 : Ext w (w.alloc (.cells #[.int .i64 t, .slice a S.length cap, .slice a2 D.length cap2] 26)) := Ext.alloc _ _
  have HR := Lib.hid hr
  clear hr
  go_enter Try.func16, Try.ntmps16
  go_wp2_with fail
  refine (hr5 _ (HV.out.below hE0)).mono ?_
  rw [HR.out]
  rintro e w1 ⟨rfl, hE1⟩
  go_wp2_with fail
  go_ret2
  exact ⟨rfl, hE0.trans hE1⟩
theorem encode6_any (v : Value) (c : Term.C) (w : World) (hv : IsConf w v c) : Calls Try.prog 16 #[v] w (GivesEnc6 w c) := by
  unfold GivesEnc6
  cases hr : Term.right c with
  | true =>
    refine (encode6_own v c w hv hr).mono ?_
    rintro x w' ⟨u, rfl, ho, hE⟩
    exact ⟨u, rfl, Sl.ofOwn ho, hE⟩
  | false =>
    refine (encode6_wrong v c w hv hr).mono ?_
    rintro x w' ⟨rfl, hE⟩
    exact ⟨_, rfl, bytes_none _, hE⟩
end Go.Proofs.Ytpfodkgncachiaa
