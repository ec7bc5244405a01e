/-
  Layer 4, the program: records as bytes.
-/
import Derived.Test.YtjflbjlpibekhaaRecA
import Derived.Test.YtjflbjlpibekhaaCrcPut
import Derived.Test.YtjflbjlpibekhaaCrcRef
import Derived.Test.YtjflbjlpibekhaaPackRefOne
import Derived.Lib.ConvBytes
namespace Go.Proofs.Ytjflbjlpibekhaa
set_option linter.unusedSimpArgs false
set_option linter.unusedVariables false
set_option maxRecDepth 100000
open Go.RowKit

/-- Block p is a record. -/
def RecAt (w : World) (p : Nat) (t : Value) (r : Rec.R) : Prop := w.heap[p]? = some (.cells #[.int .i64 r.client, .int .i64 r.number, t, .string ⟨r.data.toArray⟩] 26 (0, 0))
theorem RecAt.new (w : World) (t : Value) (r : Rec.R) : RecAt (w.alloc (.cells #[.int .i64 r.client, .int .i64 r.number, t, .string ⟨r.data.toArray⟩] 26)) w.heap.size t r := heap_alloc_new w _
theorem RecAt.lt {w : World} {p : Nat} {t : Value} {r : Rec.R} (h : RecAt w p t r) : p < w.heap.size := (Array.getElem?_eq_some_iff.1 h).1
theorem RecAt.ext {w w' : World} {p : Nat} {t : Value} {r : Rec.R} (h : RecAt w p t r) (hE : Ext w w') : RecAt w' p t r := (hE.block p h.lt).trans h
theorem RecAt.but {w w' : World} {p q : Nat} {t : Value} {r : Rec.R} (h : RecAt w p t r) (hB : But q w w') (hne : p ≠ q) : RecAt w' p t r := (hB.block p h.lt hne).trans h
theorem RecAt.cells {w : World} {p : Nat} {t : Value} {r : Rec.R} (h : RecAt w p t r) : w.cell? ⟨p, 0, none⟩ = some (.int .i64 r.client) ∧ w.cell? ⟨p, 1, none⟩ = some (.int .i64 r.number) ∧ w.cell? ⟨p, 2, none⟩ = some t ∧ w.cell? ⟨p, 3, none⟩ = some (.string ⟨r.data.toArray⟩) :=
  ⟨cell_of_heap h 0, cell_of_heap h 1, cell_of_heap h 2, cell_of_heap h 3⟩

def recErr : Bool → Int
  | true => 0
  | false => 40
@[simp] theorem recErr_true : recErr true = 0 := rfl
@[simp] theorem recErr_false : recErr false = 40 := rfl
def GivesEnc4 (w : World) (r : Rec.R) (e : Ending) (w' : World) : Prop := ∃ u, e = .returned (.tuple #[u, .int .i64 (recErr (Rec.right r))]) ∧ Bytes w' u (bytesOr (Rec.right r) (Rec.enc r)) ∧ Ext w w'

theorem ints_lit3 (w : World) (x y z : Int) : Ints (w.alloc (.cells #[.int .i64 x, .int .i64 y, .int .i64 z] 3)) (.slice (some ⟨w.heap.size, 0, none⟩) 3 3) [x, y, z] :=
  Sl.made w (i64s [x, y, z]) 3 3 (by simp) (by simp [maxLen]) (fr := (0, 0))
theorem okNum_of {n : Int} (h : 0 ≤ n ∧ n ≤ 4611686018427387904) : okNum n = true := by
  unfold okNum
  rw [decide_eq_true_eq]
  omega
theorem text_nums (r : Rec.R) : Rec.text r = (nums [r.client, r.number, (r.tags.length : Int)] ++ nums r.tags) ++ (Pack.num r.data.length ++ r.data) := by
  have e : ∀ l : List Int, Rec.numsOf l = nums l := fun _ => rfl
  unfold Rec.text
  rw [e]
  simp [nums]

set_option maxHeartbeats 4000000 in
theorem encode4_any (v : Value) (r : Rec.R) (w : World) (hv : IsRec w v r) : Calls Try.prog 11 #[v] w (GivesEnc4 w r) := by
  have hbx := box_rec
  have hr4 := fun w1 hv => right4_any v r w1 hv
  have HV := Lib.hid hv
  obtain ⟨t, rfl, ht⟩ := hv
  unfold recV at *
  obtain ⟨a, cap, rfl, hcap, hmax, _, _⟩ := ht.open
  unfold maxLen at hmax
  have HT := Lib.hid ht
  clear ht
  have hE0 : Ext w (w.alloc (.cells #[.int .i64 r.client, .int .i64 r.number, .slice a r.tags.length cap, .string ⟨r.data.toArray⟩] 26)) := Ext.alloc _ _
  have HA0 := Lib.hid (RecAt.new w (.slice a r.tags.length cap) r)
  unfold GivesEnc4
  cases hr : Rec.right r with
  | false =>
    have HR := Lib.hid hr
    clear hr
    go_enter Try.func11, Try.ntmps11
    go_wp2_with fail
    refine (hr4 _ (HV.out.below hE0)).mono ?_
    rintro e w1 ⟨rfl, hE1⟩
    rw [HR.out]
    go_wp2_with fail
    go_ret2
    exact ⟨_, rfl, bytes_none _, hE0.trans hE1⟩
  | true =>
    have HR := Lib.hid hr
    obtain ⟨q1, q2, q3, q4, q5, q6⟩ := Rec.right_ok hr
    have hall1 : [r.client, r.number, (r.tags.length : Int)].all okNum = true := by
      simp only [List.all_cons, List.all_nil, Bool.and_true]
      rw [okNum_of (by omega), okNum_of (by omega), okNum_of (by omega)]
      rfl
    have hall2 : r.tags.all okNum = true := by
      rw [List.all_eq_true]
      intro x hx
      have := q4 x hx
      exact okNum_of (by omega)
    have hl1 := nums_le _ hall1
    have hl2 := nums_le _ hall2
    have hl3 := Pack.num_nine (n := r.data.length) (by omega)
    simp only [List.length_cons, List.length_nil] at hl1
    have HT1 := Lib.hid (text_nums r)
    have HA1 := Lib.hid hall1
    have HA2 := Lib.hid hall2
    have HQ := Lib.hid (And.intro q5 (And.intro q6 (And.intro hl1 (And.intro hl2 hl3))))
    have hlen63 : r.data.length ≤ 9223372036854775807 := by omega
    clear hr hall1 hall2 q1 q2 q3 q4 hl1 hl2 hl3
    go_enter Try.func11, Try.ntmps11
    go_wp2_with fail
    refine (hr4 _ (HV.out.below hE0)).mono ?_
    rintro e w1 ⟨rfl, hE1⟩
    rw [HR.out]
    have a1 := Lib.hid (HA0.out.ext hE1)
    obtain ⟨c0, c1, c2, c3⟩ := a1.out.cells
    have e1 := hE0.trans hE1
    go_wp2_with fail
    refine (packNum_any (.slice none 0 0) _ [] [r.client, r.number, (r.tags.length : Int)] _ (bytes_none _) (ints_lit3 w1 _ _ _) (by simp) (by simp)).mono ?_
    rw [HA1.out, if_pos rfl, List.nil_append]
    rintro e w2 ⟨v2, rfl, ho2, hE2⟩
    have hE2' : Ext w1 w2 := (Ext.alloc _ _).trans hE2
    have a2 := Lib.hid (a1.out.ext hE2')
    obtain ⟨c0', c1', c2', c3'⟩ := a2.out.cells
    have e2 := e1.trans hE2'
    clear c0 c1 c2 c3
    go_wp2_with fail
    refine (packNum_any v2 _ _ r.tags _ ho2.bytes (HT.out.below e2) (by have := HQ.out; omega) (by omega)).mono ?_
    rw [HA2.out, if_pos rfl]
    rintro e w3 ⟨v3, rfl, ho3, hE3⟩
    have a3 := Lib.hid (a2.out.ext hE3)
    obtain ⟨c0, c1, c2, c3⟩ := a3.out.cells
    have e3 := e2.trans hE3
    clear c0' c1' c2' c3'
    go_wp2_with fail
    refine (packText_any v3 _ r.data _ ho3.bytes (by have := HQ.out; rw [List.length_append]; omega) hlen63).mono ?_
    rw [if_pos (by omega), decide_eq_true (by omega), ← HT1.out]
    rintro e w4 ⟨v4, rfl, ho4, hE4⟩
    have e4 := e3.trans hE4
    clear c0 c1 c2 c3
    go_wp2_with fail
    refine (new_any _).mono ?_
    rintro e w5 ⟨rfl, ht5, hE5⟩
    have e5 := e4.trans hE5
    go_wp2_with fail
    refine (put_any _ 0 0 v4 (Rec.text r) _ ht5 (.inl rfl) (ho4.bytes.below hE5) (by have := HQ.out; rw [HT1.out]; simp only [List.length_append]; omega)).mono ?_
    rintro e w6 ⟨v6, d6, rfl, hb6, hB6, hd6, ht6⟩
    have e6 : Ext w w6 := Below.trans (B := w.heap.size) e5 (hB6.below e4.size (Nat.le_trans e4.size hE5.size))
    go_wp2_with fail
    go_ret2
    exact ⟨_, rfl, hb6, e6⟩

theorem nums_take_next (ns : List Int) (k : Nat) (hk : k < ns.length) (ho : okNum ns[k] = true) : nums (ns.take (k + 1)) = nums (ns.take k) ++ oneNum ns[k] := by
  rw [take_succ_getD ns k hk, nums_snoc]
  unfold oneNum
  rw [if_pos ho]
theorem Yield.ld {P : Program} {o : Oper} {ev : Operand → Value} {w : World} {R : Value → World → Prop} {t : TypeId} {x : Operand} {u v : Value} {w' : World} (ho : o.op = .load t x) (hx : ev x = u) (hr : (Instr.loadAt t u).run P w = .ok v w') (h : R v w') : Yield P o ev w R := by
  unfold Yield execOp
  simp only [ho, hx, Sem.run_bind, hr, Result.andThen_ok, Sem.run_pure]
  exact h
theorem ld_int {w : World} {q i : Nat} {n : Int} (h : w.cell? ⟨q, i, none⟩ = some (.int .i64 n)) : (Instr.loadAt 3 (.pointer (some ⟨q, i, none⟩))).run Try.prog w = .ok (.int .i64 n) w := by simp [go_sem, h]
theorem ld_ints {w : World} {q i : Nat} {a : Option Addr} {n c : Nat} (h : w.cell? ⟨q, i, none⟩ = some (.slice a n c)) : (Instr.loadAt 24 (.pointer (some ⟨q, i, none⟩))).run Try.prog w = .ok (.slice a n c) w := by simp [go_sem, h]
theorem ld_str {w : World} {q i : Nat} {s : ByteArray} (h : w.cell? ⟨q, i, none⟩ = some (.string s)) : (Instr.loadAt 9 (.pointer (some ⟨q, i, none⟩))).run Try.prog w = .ok (.string s) w := by simp [go_sem, h]

set_option maxHeartbeats 4000000 in
theorem textRef4_any (v : Value) (r : Rec.R) (w : World) (hv : IsRec w v r) (hr : Rec.right r = true) :
    Calls Try.prog 32 #[v] w fun e w' => e = .returned (.string ⟨(Rec.text r).toArray⟩) ∧ Ext w w' := by
  have hbx := box_rec
  obtain ⟨t, rfl, ht⟩ := hv
  unfold recV at *
  obtain ⟨a, cap, rfl, hcap, hmax, _, _⟩ := ht.open
  unfold maxLen at hmax
  have HT := Lib.hid ht
  clear ht
  obtain ⟨q1, q2, q3, q4, q5, q6⟩ := Rec.right_ok hr
  have o1 : oneNum r.client = Pack.num r.client.toNat := by unfold oneNum; rw [if_pos (okNum_of (by omega))]
  have o2 : oneNum r.number = Pack.num r.number.toNat := by unfold oneNum; rw [if_pos (okNum_of (by omega))]
  have o3 : oneNum (r.tags.length : Int) = Pack.num r.tags.length := by unfold oneNum; rw [if_pos (okNum_of (by omega))]; rfl
  have n1 := Pack.num_nine (n := r.client.toNat) (by omega)
  have n2 := Pack.num_nine (n := r.number.toNat) (by omega)
  have n3 := Pack.num_nine (n := r.tags.length) (by omega)
  have n4 := Pack.num_nine (n := r.data.length) (by omega)
  have hall : r.tags.all okNum = true := by
    rw [List.all_eq_true]
    intro x hx
    have := q4 x hx
    exact okNum_of (by omega)
  obtain ⟨A, hA⟩ : ∃ A, Pack.num r.client.toNat = A := ⟨_, rfl⟩
  obtain ⟨B, hB⟩ : ∃ B, Pack.num r.number.toNat = B := ⟨_, rfl⟩
  obtain ⟨C, hC⟩ : ∃ C, Pack.num r.tags.length = C := ⟨_, rfl⟩
  rw [hA] at o1 n1
  rw [hB] at o2 n2
  rw [hC] at o3 n3
  have HO1 := Lib.hid o1
  have HO2 := Lib.hid o2
  have HO3 := Lib.hid o3
  have HALL := Lib.hid hall
  have HABC := Lib.hid (And.intro hA (And.intro hB hC))
  have H4 := Lib.hid n4
  have hE0 : Ext w (w.alloc (.cells #[.int .i64 r.client, .int .i64 r.number, .slice a r.tags.length cap, .string ⟨r.data.toArray⟩] 26)) := Ext.alloc _ _
  have HA0 := Lib.hid (RecAt.new w (.slice a r.tags.length cap) r)
  clear o1 o2 o3 hA hB hC hall hr q1 q2 q3 q4 n4
  have hsA := str_len A
  have hsB := str_len B
  have hsC := str_len C
  obtain ⟨AB, hAB⟩ : ∃ AB, A ++ B = AB := ⟨_, rfl⟩
  obtain ⟨ABC, hABC⟩ : ∃ ABC, AB ++ C = ABC := ⟨_, rfl⟩
  have hsAB := str_len AB
  have hlAB : AB.length ≤ 18 := by rw [← hAB, List.length_append]; omega
  have hlABC : ABC.length ≤ 27 := by rw [← hABC, List.length_append]; omega
  have HAB := Lib.hid hAB
  have HCC := Lib.hid hABC
  clear hAB hABC
  go_enter Try.func32, Try.ntmps32
  go_wp2_with fail
  generalize hq : w.heap.size = q at *
  generalize hw0 : w.alloc (.cells #[.int .i64 r.client, .int .i64 r.number, .slice a r.tags.length cap, .string ⟨r.data.toArray⟩] 26) = w0 at *
  clear hw0
  refine wp_region_facts (by kernel_rfl) Ext (fun iop v w => match iop with
      | 0 => v = .pointer (some ⟨q, 0, none⟩)
      | 1 => v = .pointer (some ⟨q, 0, none⟩)
      | 2 => v = .int .i64 r.client
      | 3 => v = .string ⟨A.toArray⟩
      | 4 => v = .pointer (some ⟨q, 0, none⟩)
      | 5 => v = .pointer (some ⟨q, 1, none⟩)
      | 6 => v = .int .i64 r.number
      | 7 => v = .string ⟨B.toArray⟩
      | 8 => v = .string ⟨AB.toArray⟩
      | 9 => v = .pointer (some ⟨q, 2, none⟩)
      | 10 => v = .slice a r.tags.length cap
      | 11 => v = .int .i64 (r.tags.length : Int)
      | 12 => v = .string ⟨C.toArray⟩
      | 13 => v = .string ⟨ABC.toArray⟩
      | _ => v = .string ⟨ABC.toArray⟩
      ) (by kernel_rfl) (fun _ _ _ h k => Ext.trans h k) (fun a => Ext.refl a) (Ext.drew _) ?_ ?_ ?_
  · intro iop v wa wb hF hL
    cases iop with
    | zero => exact hF
    | succ iop =>
      cases iop with
      | zero => exact hF
      | succ iop =>
        cases iop with
        | zero => exact hF
        | succ iop =>
          cases iop with
          | zero => exact hF
          | succ iop =>
            cases iop with
            | zero => exact hF
            | succ iop =>
              cases iop with
              | zero => exact hF
              | succ iop =>
                cases iop with
                | zero => exact hF
                | succ iop =>
                  cases iop with
                  | zero => exact hF
                  | succ iop =>
                    cases iop with
                    | zero => exact hF
                    | succ iop =>
                      cases iop with
                      | zero => exact hF
                      | succ iop =>
                        cases iop with
                        | zero => exact hF
                        | succ iop =>
                          cases iop with
                          | zero => exact hF
                          | succ iop =>
                            cases iop with
                            | zero => exact hF
                            | succ iop =>
                              cases iop with
                              | zero => exact hF
                              | succ iop =>
                                exact hF
  · refine Obls.cons ?_ (Obls.cons ?_ (Obls.cons ?_ (Obls.cons ?_ (Obls.cons ?_ (Obls.cons ?_ (Obls.cons ?_ (Obls.cons ?_ (Obls.cons ?_ (Obls.cons ?_ (Obls.cons ?_ (Obls.cons ?_ (Obls.cons ?_ (Obls.cons ?_ (Obls.cons ?_ (Obls.nil)))))))))))))))
    · intro ev wy hp hl hk hd
      have e1 : ev (.tmp 1) = .pointer (some ⟨q, 0, none⟩) := hk 1 (by decide)
      clear hk
      clear hd
      exact Yield.op (v := .pointer (some ⟨q, 0, none⟩)) (w' := wy) (by simp [execOp, go_sem, e1]) ⟨Ext.refl _, rfl⟩
    · intro ev wy hp hl hk hd
      have e5 : ev (.tmp 5) = .pointer (some ⟨q, 0, none⟩) := hk 5 (by decide)
      clear hk
      clear hd
      exact Yield.op (v := .pointer (some ⟨q, 0, none⟩)) (w' := wy) (by simp [execOp, go_sem, e5]) ⟨Ext.refl _, rfl⟩
    · intro ev wy hp hl hk hd
      have e6 : ev (.tmp 6) = .pointer (some ⟨q, 0, none⟩) := hk 6 (by decide)
      clear hk
      clear hd
      exact Yield.ld rfl e6 (ld_int (HA0.out.ext hl).cells.1) ⟨Ext.refl _, rfl⟩
    · intro ev wy hp hl hk hd
      have e7 : ev (.tmp 7) = .int .i64 r.client := hk 7 (by decide)
      clear hk
      clear hd
      refine Yield.call rfl hp Try.func55 rfl (by kernel_rfl) ?_
      simp only [List.map_toArray, List.map_cons, List.map_nil, e7]
      exact ((HO1.out ▸ numRef_any r.client wy)).mono fun _ _ ⟨he, hb⟩ => ⟨_, he, hb, by first | rfl | simp⟩
    · intro ev wy hp hl hk hd
      have e1 : ev (.tmp 1) = .pointer (some ⟨q, 0, none⟩) := hk 1 (by decide)
      clear hk
      clear hd
      exact Yield.op (v := .pointer (some ⟨q, 0, none⟩)) (w' := wy) (by simp [execOp, go_sem, e1]) ⟨Ext.refl _, rfl⟩
    · intro ev wy hp hl hk hd
      have e9 : ev (.tmp 9) = .pointer (some ⟨q, 0, none⟩) := hk 9 (by decide)
      clear hk
      clear hd
      exact Yield.op (v := .pointer (some ⟨q, 1, none⟩)) (w' := wy) (by simp [execOp, go_sem, e9]) ⟨Ext.refl _, rfl⟩
    · intro ev wy hp hl hk hd
      have e10 : ev (.tmp 10) = .pointer (some ⟨q, 1, none⟩) := hk 10 (by decide)
      clear hk
      clear hd
      exact Yield.ld rfl e10 (ld_int (HA0.out.ext hl).cells.2.1) ⟨Ext.refl _, rfl⟩
    · intro ev wy hp hl hk hd
      have e11 : ev (.tmp 11) = .int .i64 r.number := hk 11 (by decide)
      clear hk
      clear hd
      refine Yield.call rfl hp Try.func55 rfl (by kernel_rfl) ?_
      simp only [List.map_toArray, List.map_cons, List.map_nil, e11]
      exact ((HO2.out ▸ numRef_any r.number wy)).mono fun _ _ ⟨he, hb⟩ => ⟨_, he, hb, by first | rfl | simp⟩
    · intro ev wy hp hl hk hd
      have e8 : ev (.tmp 8) = .string ⟨A.toArray⟩ := hk 8 (by decide)
      have e12 : ev (.tmp 12) = .string ⟨B.toArray⟩ := hk 12 (by decide)
      clear hk
      clear hd
      exact Yield.op (w' := wy) (by simp [execOp, go_sem, e8, e12]; rw [if_neg (by omega), mk_append, HAB.out]) ⟨Ext.refl _, rfl⟩
    · intro ev wy hp hl hk hd
      have e1 : ev (.tmp 1) = .pointer (some ⟨q, 0, none⟩) := hk 1 (by decide)
      clear hk
      clear hd
      exact Yield.op (v := .pointer (some ⟨q, 2, none⟩)) (w' := wy) (by simp [execOp, go_sem, e1]) ⟨Ext.refl _, rfl⟩
    · intro ev wy hp hl hk hd
      have e14 : ev (.tmp 14) = .pointer (some ⟨q, 2, none⟩) := hk 14 (by decide)
      clear hk
      clear hd
      exact Yield.ld rfl e14 (ld_ints (HA0.out.ext hl).cells.2.2.1) ⟨Ext.refl _, rfl⟩
    · intro ev wy hp hl hk hd
      have e15 : ev (.tmp 15) = .slice a r.tags.length cap := hk 15 (by decide)
      clear hk
      clear hd
      exact Yield.op (v := .int .i64 (r.tags.length : Int)) (w' := wy) (by simp [execOp, go_sem, e15]) ⟨Ext.refl _, rfl⟩
    · intro ev wy hp hl hk hd
      have e16 : ev (.tmp 16) = .int .i64 (r.tags.length : Int) := hk 16 (by decide)
      clear hk
      clear hd
      refine Yield.call rfl hp Try.func55 rfl (by kernel_rfl) ?_
      simp only [List.map_toArray, List.map_cons, List.map_nil, e16]
      exact ((HO3.out ▸ numRef_any (r.tags.length : Int) wy)).mono fun _ _ ⟨he, hb⟩ => ⟨_, he, hb, by first | rfl | simp⟩
    · intro ev wy hp hl hk hd
      have e13 : ev (.tmp 13) = .string ⟨AB.toArray⟩ := hk 13 (by decide)
      have e17 : ev (.tmp 17) = .string ⟨C.toArray⟩ := hk 17 (by decide)
      clear hk
      clear hd
      exact Yield.op (w' := wy) (by simp [execOp, go_sem, e13, e17]; rw [if_neg (by omega), mk_append, HCC.out]) ⟨Ext.refl _, rfl⟩
    · intro ev wy hp hl hk hd
      have e18 : ev (.tmp 18) = .string ⟨ABC.toArray⟩ := hk 18 (by decide)
      clear hk
      clear hd
      exact Yield.as rfl ⟨Ext.refl _, e18⟩
  · intro vals wz hz hv
    have g5 : vals 0 = .pointer (some ⟨q, 0, none⟩) := hv 0 (by decide)
    have g6 : vals 1 = .pointer (some ⟨q, 0, none⟩) := hv 1 (by decide)
    have g7 : vals 2 = .int .i64 r.client := hv 2 (by decide)
    have g8 : vals 3 = .string ⟨A.toArray⟩ := hv 3 (by decide)
    have g9 : vals 4 = .pointer (some ⟨q, 0, none⟩) := hv 4 (by decide)
    have g10 : vals 5 = .pointer (some ⟨q, 1, none⟩) := hv 5 (by decide)
    have g11 : vals 6 = .int .i64 r.number := hv 6 (by decide)
    have g12 : vals 7 = .string ⟨B.toArray⟩ := hv 7 (by decide)
    have g13 : vals 8 = .string ⟨AB.toArray⟩ := hv 8 (by decide)
    have g14 : vals 9 = .pointer (some ⟨q, 2, none⟩) := hv 9 (by decide)
    have g15 : vals 10 = .slice a r.tags.length cap := hv 10 (by decide)
    have g16 : vals 11 = .int .i64 (r.tags.length : Int) := hv 11 (by decide)
    have g17 : vals 12 = .string ⟨C.toArray⟩ := hv 12 (by decide)
    have g18 : vals 13 = .string ⟨ABC.toArray⟩ := hv 13 (by decide)
    have g3 : vals 14 = .string ⟨ABC.toArray⟩ := hv 14 (by decide)
    clear hv
    simp only [putAll, Act.put, List.setIfInBounds_toArray, List.set_cons_zero, List.set_cons_succ, g5, g6, g7, g8, g9, g10, g11, g12, g13, g14, g15, g16, g17, g18, g3]
    clear g5
    clear g6
    clear g7
    clear g8
    clear g9
    clear g10
    clear g11
    clear g12
    clear g13
    clear g14
    clear g15
    clear g16
    clear g17
    clear g18
    clear g3
    have HZ := Lib.hid (hE0.trans hz)
    have hz0 := Lib.hid hz
    clear hz hE0
    go_wp2_with fail
    go_loopw [3, 4] (fun s i wr => ∃ k : Nat, k ≤ r.tags.length ∧ i = .int .i64 k ∧ (∃ l : List UInt8, s = .string ⟨l.toArray⟩ ∧ Hid (l = ABC ++ nums (r.tags.take k))) ∧ Ext wz wr) (fun _ i _ => r.tags.length - (intOf i).toNat)
    case atStart => exact ⟨0, by omega, rfl, ⟨_, rfl, by simp [Hid, nums]⟩, Ext.refl _⟩
    case round =>
      obtain ⟨k, hk, rfl, ⟨l, rfl, hl⟩, hE⟩ := hrel
      have hB := HZ.out.trans hE
      have hcs := RecAt.cells (HA0.out.ext (hz0.out.trans hE))
      obtain ⟨c0, c1, c2, c3⟩ := hcs
      by_cases hlt : k < r.tags.length
      · obtain ⟨a2, cap2, e2, _, _, _, hc⟩ := (HT.out.below hB).open
        obtain ⟨b, off, rfl, hcell⟩ := hc k hlt
        injection e2 with e2 e3 e4
        subst e2
        clear hc e3 e4
        have hok : okNum r.tags[k] = true := (List.all_eq_true.1 HALL.out) _ (List.getElem_mem hlt)
        have hs := nums_take_next r.tags k hlt hok
        have HN2 := Lib.hid (numRef_any r.tags[k] wr)
        obtain ⟨z, hzz⟩ : ∃ z, oneNum r.tags[k] = z := ⟨_, rfl⟩
        rw [hzz] at hs HN2
        have hadd := mk_append l z
        have HL := Lib.hid (show l ++ z = ABC ++ nums (r.tags.take (k + 1)) by rw [hs, hl.out, List.append_assoc])
        have hb9 : z.length ≤ 9 := by rw [← hzz]; exact oneNum_le _
        have hll : l.length ≤ 200 := by
          have h5 := congrArg List.length hl.out
          have h6 := nums_le (r.tags.take k) (by rw [List.all_eq_true]; intro x hx; exact (List.all_eq_true.1 HALL.out) x (List.mem_of_mem_take hx))
          have h8 : (r.tags.take k).length ≤ 8 := by simp; omega
          rw [List.length_append] at h5
          omega
        have hs1 := str_len l
        have hs2 := str_len z
        clear hs hzz hok
        go_wp2_with fail
        refine HN2.out.mono ?_
        rintro e w4 ⟨rfl, hE4⟩
        go_wp2_with fail
        go_roundw
        case rel => exact ⟨k + 1, by omega, by go_num, ⟨_, rfl, HL⟩, hE.trans hE4⟩
        case measure => simp [intOf]; omega
      · have hfin : l ++ (Pack.num r.data.length ++ r.data) = Rec.text r := by
          rw [hl.out, List.take_of_length_le (by omega), text_nums, ← HCC.out, ← HAB.out, ← HABC.out.1, ← HABC.out.2.1, ← HABC.out.2.2]
          simp [nums]
        have HF := Lib.hid hfin
        have hll : l.length ≤ 200 := by
          have h5 := congrArg List.length hl.out
          have h6 := nums_le (r.tags.take k) (by rw [List.all_eq_true]; intro x hx; exact (List.all_eq_true.1 HALL.out) x (List.mem_of_mem_take hx))
          have h8 : (r.tags.take k).length ≤ 8 := by simp; omega
          rw [List.length_append] at h5
          omega
        have HTX := Lib.hid (textRef_any r.data wr (by omega))
        obtain ⟨z, hzz⟩ : ∃ z, Pack.num r.data.length ++ r.data = z := ⟨_, rfl⟩
        have hzl : z.length ≤ 1033 := by
          rw [← hzz, List.length_append]
          have := H4.out
          omega
        rw [hzz] at HTX HF
        have hadd := mk_append l z
        have hs1 := str_len l
        have hs2 := str_len z
        clear hfin hl hzz
        go_wp2_with fail
        refine HTX.out.mono ?_
        rintro e w4 ⟨rfl, hE4⟩
        go_wp2_with fail
        go_ret
        exact ⟨by rw [HF.out]; rfl, hB.trans hE4⟩

/-- []byte(s), read back. -/
theorem bytes_of_str4 (w : World) (l : List UInt8) (e : TypeId) (hl : l.length ≤ maxLen) : Bytes (Lib.bytesWorld w e ⟨l.toArray⟩) (.slice (some ⟨w.heap.size, 0, none⟩) l.length (grownCap w l.length 0 e)) l := by
  refine ⟨some ⟨w.heap.size, 0, none⟩, grownCap w l.length 0 e, by rw [u8s_length], by rw [u8s_length]; exact grownCap_ge _ _ _ _, grownCap_le_maxLen _ _ _ _ hl, fun e => by simp at e, fun i hi => ⟨_, _, rfl, ?_⟩⟩
  have hi' : i < l.length := by simpa using hi
  rw [Nat.zero_add, Lib.bytesWorld_cell w e _ i (by simpa [ByteArray.size] using hi')]
  simp [u8s, hi']
theorem ext_bytesWorld4 (w : World) (e : TypeId) (s : ByteArray) : Ext w (Lib.bytesWorld w e s) :=
  ⟨rfl, rfl, rfl, by rw [Lib.bytesWorld_size]; omega, fun k hk => Lib.bytesWorld_at_old w e s k hk⟩
theorem run_conv4 (w : World) (l : List UInt8) : (convert 9 27 (.string ⟨l.toArray⟩)).run Try.prog w = .ok (.slice (some ⟨w.heap.size, 0, none⟩) l.length (grownCap w l.length 0 5)) (Lib.bytesWorld w 5 ⟨l.toArray⟩) := by
  have := Lib.run_convert_string_bytes (P := Try.prog) w 9 27 5 ⟨l.toArray⟩ Try.underlying9 Try.underlying27 Try.underlying5
  rwa [str_len] at this

theorem text_le {r : Rec.R} (h : Rec.right r = true) : (Rec.text r).length ≤ 1132 := by
  have := Rec.enc_le h
  unfold Rec.enc at this
  rw [List.length_append, Crc.low_length] at this
  omega

set_option maxHeartbeats 4000000 in
theorem refEncode4_any (v : Value) (r : Rec.R) (w : World) (hv : IsRec w v r) : Calls Try.prog 12 #[v] w (GivesEnc4 w r) := by
  have hbx := box_rec
  have hr4 := fun w1 hv => refRight4_any v r w1 hv
  have htx := fun w1 hv => textRef4_any v r w1 hv
  have HV := Lib.hid hv
  obtain ⟨t, rfl, ht⟩ := hv
  unfold recV at *
  obtain ⟨a, cap, rfl, hcap, hmax, _, _⟩ := ht.open
  unfold maxLen at hmax
  have HT := Lib.hid ht
  clear ht
  have hE0 : Ext w (w.alloc (.cells #[.int .i64 r.client, .int .i64 r.number, .slice a r.tags.length cap, .string ⟨r.data.toArray⟩] 26)) := Ext.alloc _ _
  have HA0 := Lib.hid (RecAt.new w (.slice a r.tags.length cap) r)
  unfold GivesEnc4
  cases hr : Rec.right r with
  | false =>
    have HR := Lib.hid hr
    clear hr
    go_enter Try.func12, Try.ntmps12
    go_wp2_with fail
    refine (hr4 _ (HV.out.below hE0)).mono ?_
    rintro e w1 ⟨rfl, hE1⟩
    rw [HR.out]
    go_wp2_with fail
    go_ret2
    exact ⟨_, rfl, bytes_none _, hE0.trans hE1⟩
  | true =>
    have HR := Lib.hid hr
    have hle := text_le hr
    obtain ⟨T, hT⟩ : ∃ T, Rec.text r = T := ⟨_, rfl⟩
    rw [hT] at htx hle
    have HTT := Lib.hid hT
    have HTX := Lib.hid htx
    clear hr hT htx
    go_enter Try.func12, Try.ntmps12
    go_wp2_with fail
    refine (hr4 _ (HV.out.below hE0)).mono ?_
    rintro e w1 ⟨rfl, hE1⟩
    rw [HR.out]
    have e1 := hE0.trans hE1
    obtain ⟨c0, c1, c2, c3⟩ := (HA0.out.ext hE1).cells
    go_wp2_with fail
    refine (HTX.out _ (HV.out.below e1) HR.out).mono ?_
    rintro e w2 ⟨rfl, hE2⟩
    have e2 := e1.trans hE2
    have hcv := run_conv4 w2 T
    have hby := Lib.hid (bytes_of_str4 w2 T 5 (by unfold maxLen; omega))
    clear c0 c1 c2 c3
    go_wp2_with fail
    refine (put_ref _ T _ hby.out (by omega)).mono ?_
    rintro e w3 ⟨v3, rfl, hb3, hE3⟩
    have e3 := (e2.trans (ext_bytesWorld4 _ _ _)).trans hE3
    go_wp2_with fail
    go_ret2
    refine ⟨_, rfl, ?_, e3⟩
    show Bytes w3 v3 (Rec.enc r)
    unfold Rec.enc
    rw [HTT.out]
    exact hb3
end Go.Proofs.Ytjflbjlpibekhaa
