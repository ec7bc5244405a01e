/-
  Merged: Layer 4, the program: which records may be; Layer 4, the program: records as bytes; Layer 4, the program: bytes as records; Layer 4, the program: tags, sameness, places; Layer 4, the program: one record, or two; Layer 4: bytes as records: the document's own answer; Layer 4, the program: rows of records, and which of them have a tag; Layer 4: rows of records behind one another; Layer 4: a record out of what comes in; Layer 4: what Decode leaves of what was encoded; Layer 4: the statements' own small call; Layer 4: records, rows of records and places, out of what comes in.
-/
import Derived.Lib.ConvBytes
import Derived.Deep.RegionLaw
import Derived.Deep.RegionHeld3
import Derived.Test.YtaijgpdlgcgfaaaGreatRows
import Derived.Test.YtaijgpdlgcgfaaaGreatChecked
import Derived.SizedLaws
import Derived.Test.YtaijgpdlgcgfaaaGreatBsCrcPut
import Derived.Test.YtaijgpdlgcgfaaaGreatBsCrcRef
import Derived.Test.YtaijgpdlgcgfaaaGreatBsLib
import Derived.Test.YtaijgpdlgcgfaaaGreatBsLibW
import Derived.Test.YtaijgpdlgcgfaaaGreatBsMath
import Derived.Test.YtaijgpdlgcgfaaaGreatBsPack
import Derived.Test.YtaijgpdlgcgfaaaGreatBsPack2
import Derived.Test.YtaijgpdlgcgfaaaGreatBsVec

set_option linter.unusedSimpArgs false
set_option linter.unusedVariables false

namespace Go.Proofs.YtaijgpdlgcgfaaaGreat
set_option maxRecDepth 100000
open Go.RowKit
/- Layer 4, the program: which records may be. -/
/-- A record, by value: its tags' slice, and what it holds. -/
def recV (t : Value) (r : Rec.R) : Value := .agg #[.int .i64 r.client, .int .i64 r.number, t, .string ⟨r.data.toArray⟩]
def IsRec (w : World) (v : Value) (r : Rec.R) : Prop := ∃ t, v = recV t r ∧ Ints w t r.tags
theorem IsRec.below {w w' : World} {v : Value} {r : Rec.R} (h : IsRec w v r) (hb : Below w.heap.size w w') : IsRec w' v r := by
  obtain ⟨t, rfl, h⟩ := h
  exact ⟨t, rfl, h.below hb⟩
theorem box_rec (w : World) (c n : Int) (t : Value) (s : ByteArray) : (Instr.box 27 (.agg #[.int .i64 c, .int .i64 n, t, .string s])).run Tryz.prog w = .ok (.pointer (some ⟨w.heap.size, 0, none⟩)) (w.alloc (.cells #[.int .i64 c, .int .i64 n, t, .string s] 27)) := by kernel_rfl

def Rec.tagsOk (ns : List Int) : Bool := decide (ns.length ≤ 8) && Rec.rising 0 ns
theorem Rec.right_eq (r : Rec.R) : Rec.right r = (Rec.okId r.client && (Rec.okId r.number && (Rec.tagsOk r.tags && decide (r.data.length ≤ 1024)))) := by
  unfold Rec.right Rec.tagsOk
  have e : decide (r.tags.length ≤ 8 ∧ r.data.length ≤ 1024) = (decide (r.tags.length ≤ 8) && decide (r.data.length ≤ 1024)) := by rw [Bool.decide_and]
  rw [e]
  cases Rec.okId r.client <;> cases Rec.okId r.number <;> cases Rec.rising 0 r.tags <;> cases decide (r.tags.length ≤ 8) <;> cases decide (r.data.length ≤ 1024) <;> rfl

set_option maxHeartbeats 1000000 in
theorem isCount4_any (n : Int) (w : World) : Calls Tryz.prog 138 #[.int .i64 n] w fun e w' => e = .returned (.bool (Rec.okId n)) ∧ w = w' := by
  by_cases h0 : 0 ≤ n
  · by_cases h1 : n ≤ 1099511627776
    · have e : Rec.okId n = true := by unfold Rec.okId; simp; omega
      rw [e]
      clear e
      go_enter Tryz.func138, Tryz.ntmps138
      go_wp2
      go_ret
      exact ⟨rfl, rfl⟩
    · have e : Rec.okId n = false := by unfold Rec.okId; simp; omega
      rw [e]
      clear e
      go_enter Tryz.func138, Tryz.ntmps138
      go_wp2
      go_ret
      exact ⟨rfl, rfl⟩
  · have e : Rec.okId n = false := by unfold Rec.okId; simp; omega
    rw [e]
    clear e
    go_enter Tryz.func138, Tryz.ntmps138
    go_wp2
    go_ret
    exact ⟨rfl, rfl⟩

/-- The last of the first k, or 0. -/
def Rec.lastOf (l : List Int) : Int := l.getLast?.getD 0
theorem Rec.rising_snoc (last : Int) (l : List Int) (x : Int) : Rec.rising last (l ++ [x]) = (Rec.rising last l && decide ((if l = [] then last else Rec.lastOf l) < x ∧ x ≤ 1073741824)) := by
  induction l generalizing last with
  | nil => simp [Rec.rising]
  | cons t l ih =>
    have e : (if l = [] then t else Rec.lastOf l) = Rec.lastOf (t :: l) := by
      cases l with
      | nil => rfl
      | cons a l => simp [Rec.lastOf, List.getLast?_cons]
    simp only [List.cons_append, Rec.rising, ih, e, Bool.and_assoc, if_neg (List.cons_ne_nil t l)]
theorem Rec.rising_snoc0 (l : List Int) (x : Int) : Rec.rising 0 (l ++ [x]) = (Rec.rising 0 l && decide (Rec.lastOf l < x ∧ x ≤ 1073741824)) := by
  rw [Rec.rising_snoc]
  cases l with
  | nil => rfl
  | cons a l => rw [if_neg (List.cons_ne_nil a l)]
theorem Rec.lastOf_snoc (l : List Int) (x : Int) : Rec.lastOf (l ++ [x]) = x := by
  simp [Rec.lastOf]
theorem Rec.rising_take {l : List Int} (k : Nat) (h : Rec.rising 0 (l.take k) = false) : Rec.rising 0 l = false := by
  have key : ∀ (l : List Int) (last : Int) (k : Nat), Rec.rising last (l.take k) = false → Rec.rising last l = false := by
    intro l
    induction l with
    | nil => intro last k h; simpa using h
    | cons t l ih =>
      intro last k h
      cases k with
      | zero => simp [Rec.rising] at h
      | succ k =>
        simp only [List.take_succ_cons, Rec.rising, Bool.and_eq_false_iff] at h ⊢
        rcases h with h | h
        · exact .inl h
        · exact .inr (ih t k h)
  exact key l 0 k h

set_option maxHeartbeats 2000000 in
theorem areTags_any (v : Value) (ns : List Int) (w : World) (hv : Ints w v ns) :
    Calls Tryz.prog 139 #[v] w fun e w' => e = .returned (.bool (Rec.tagsOk ns)) ∧ w = w' := by
  obtain ⟨a, cap, rfl, hcap, hmax, _, hc⟩ := hv.open
  unfold maxLen at hmax
  by_cases h8 : (8 : Int) < (ns.length : Int)
  · have e : Rec.tagsOk ns = false := by unfold Rec.tagsOk; rw [decide_eq_false (by omega)]; rfl
    rw [e]
    clear e hc hv
    go_enter Tryz.func139, Tryz.ntmps139
    go_wp2
    go_ret
    exact ⟨rfl, rfl⟩
  · have e : Rec.tagsOk ns = Rec.rising 0 ns := by unfold Rec.tagsOk; rw [decide_eq_true (by omega)]; rfl
    rw [e]
    clear e hv
    go_enter Tryz.func139, Tryz.ntmps139
    go_wp2
    go_loop [3, 5, 11] (fun s _ i => ∃ k : Nat, k ≤ ns.length ∧ i = .int .i64 k ∧ (∃ m : Int, s = .int .i64 m ∧ Hid (m = Rec.lastOf (ns.take k))) ∧ Hid (Rec.rising 0 (ns.take k) = true)) (fun _ _ i => ns.length - (intOf i).toNat)
    case atStart => exact ⟨0, by omega, rfl, ⟨0, rfl, rfl⟩, rfl⟩
    case round =>
      obtain ⟨k, hk, rfl, ⟨m, rfl, hm⟩, hr⟩ := hrel
      by_cases hlt : k < ns.length
      · obtain ⟨b, off, rfl, hcell⟩ := hc k hlt
        clear hc
        have hnext : Rec.rising 0 (ns.take (k + 1)) = decide (m < ns[k] ∧ ns[k] ≤ 1073741824) := by
          rw [take_succ_getD ns k hlt, Rec.rising_snoc0, hr.out, hm.out]
          rfl
        have hlast : Rec.lastOf (ns.take (k + 1)) = ns[k] := by rw [take_succ_getD ns k hlt, Rec.lastOf_snoc]
        by_cases h0 : ns[k] ≤ m
        · have e := Lib.hid (Rec.rising_take (l := ns) (k + 1) (by rw [hnext]; simp; omega))
          clear hnext hlast
          go_wp2
          go_ret
          exact ⟨by rw [e.out]; rfl, rfl⟩
        · by_cases h1 : (1073741824 : Int) < ns[k]
          · have e := Lib.hid (Rec.rising_take (l := ns) (k + 1) (by rw [hnext]; simp; omega))
            clear hnext hlast
            go_wp2
            go_ret
            exact ⟨by rw [e.out]; rfl, rfl⟩
          · have ok := Lib.hid (show Rec.rising 0 (ns.take (k + 1)) = true by rw [hnext]; simp; omega)
            have HL := Lib.hid hlast
            clear hnext hlast
            go_wp2
            go_round
            case rel => exact ⟨k + 1, by omega, by go_num, ⟨_, rfl, HL.out.symm⟩, ok⟩
            case measure => simp [intOf]; omega
      · have hs : Hid (Rec.rising 0 ns = true) := by
          have := hr.out; rw [List.take_of_length_le (by omega)] at this; exact this
        clear hr hc hm
        go_wp2
        go_ret
        exact ⟨by rw [hs.out]; rfl, rfl⟩

set_option maxHeartbeats 2000000 in
theorem right4_any (v : Value) (r : Rec.R) (w : World) (hv : IsRec w v r) :
    Calls Tryz.prog 99 #[v] w fun e w' => e = .returned (.bool (Rec.right r)) ∧ Ext w w' := by
  obtain ⟨t, rfl, ht⟩ := hv
  have hbx := box_rec
  unfold recV
  rw [Rec.right_eq]
  have HT := Lib.hid ht
  obtain ⟨a, cap, rfl, hcap, hmax, _, _⟩ := ht.open
  unfold maxLen at hmax
  have hs := str_len r.data
  clear ht
  cases h1 : Rec.okId r.client with
  | false =>
    have H1 := Lib.hid h1
    clear h1
    go_enter Tryz.func99, Tryz.ntmps99
    go_wp2_with fail
    refine (isCount4_any _ _).mono ?_
    rintro e w1 ⟨rfl, rfl⟩
    rw [H1.out]
    go_wp2_with fail
    go_ret
    exact ⟨rfl, Ext.alloc _ _⟩
  | true =>
    cases h2 : Rec.okId r.number with
    | false =>
      have H1 := Lib.hid h1
      have H2 := Lib.hid h2
      clear h1 h2
      go_enter Tryz.func99, Tryz.ntmps99
      go_wp2_with fail
      refine (isCount4_any _ _).mono ?_
      rintro e w1 ⟨rfl, rfl⟩
      rw [H1.out]
      go_wp2_with fail
      refine (isCount4_any _ _).mono ?_
      rintro e w1 ⟨rfl, rfl⟩
      rw [H2.out]
      go_wp2_with fail
      go_ret
      exact ⟨rfl, Ext.alloc _ _⟩
    | true =>
      cases h3 : Rec.tagsOk r.tags with
      | false =>
        have H1 := Lib.hid h1
        have H2 := Lib.hid h2
        have H3 := Lib.hid h3
        clear h1 h2 h3
        go_enter Tryz.func99, Tryz.ntmps99
        go_wp2_with fail
        refine (isCount4_any _ _).mono ?_
        rintro e w1 ⟨rfl, rfl⟩
        rw [H1.out]
        go_wp2_with fail
        refine (isCount4_any _ _).mono ?_
        rintro e w1 ⟨rfl, rfl⟩
        rw [H2.out]
        go_wp2_with fail
        refine (areTags_any _ r.tags _ (HT.out.below (Ext.alloc _ _))).mono ?_
        rintro e w1 ⟨rfl, rfl⟩
        rw [H3.out]
        go_wp2_with fail
        go_ret
        exact ⟨rfl, Ext.alloc _ _⟩
      | true =>
        have H1 := Lib.hid h1
        have H2 := Lib.hid h2
        have H3 := Lib.hid h3
        clear h1 h2 h3
        have hd : decide (r.data.length ≤ 1024) = decide ((r.data.length : Int) ≤ 1024) := by
          rw [Bool.eq_iff_iff, decide_eq_true_eq, decide_eq_true_eq]
          omega
        have hd' := Lib.hid hd
        clear hd
        go_enter Tryz.func99, Tryz.ntmps99
        go_wp2_with fail
        refine (isCount4_any _ _).mono ?_
        rintro e w1 ⟨rfl, rfl⟩
        rw [H1.out]
        go_wp2_with fail
        refine (isCount4_any _ _).mono ?_
        rintro e w1 ⟨rfl, rfl⟩
        rw [H2.out]
        go_wp2_with fail
        refine (areTags_any _ r.tags _ (HT.out.below (Ext.alloc _ _))).mono ?_
        rintro e w1 ⟨rfl, rfl⟩
        rw [H3.out]
        go_wp2_with fail
        go_ret
        exact ⟨by rw [hd'.out]; rfl, Ext.alloc _ _⟩

set_option linter.unusedSimpArgs false
set_option linter.unusedVariables false
/- Layer 4, the program: records as bytes. -/
/-- Block p is a record. -/
def RecAt (w : World) (p : Nat) (t : Value) (r : Rec.R) : Prop := w.heap[p]? = some (.cells #[.int .i64 r.client, .int .i64 r.number, t, .string ⟨r.data.toArray⟩] 27 (0, 0))
theorem RecAt.new (w : World) (t : Value) (r : Rec.R) : RecAt (w.alloc (.cells #[.int .i64 r.client, .int .i64 r.number, t, .string ⟨r.data.toArray⟩] 27)) w.heap.size t r := heap_alloc_new w _
theorem RecAt.lt {w : World} {p : Nat} {t : Value} {r : Rec.R} (h : RecAt w p t r) : p < w.heap.size := (Array.getElem?_eq_some_iff.1 h).1
theorem RecAt.ext {w w' : World} {p : Nat} {t : Value} {r : Rec.R} (h : RecAt w p t r) (hE : Ext w w') : RecAt w' p t r := (hE.block p h.lt).trans h
theorem RecAt.but {w w' : World} {p q : Nat} {t : Value} {r : Rec.R} (h : RecAt w p t r) (hB : But q w w') (hne : p ≠ q) : RecAt w' p t r := (hB.block p h.lt hne).trans h
theorem RecAt.cells {w : World} {p : Nat} {t : Value} {r : Rec.R} (h : RecAt w p t r) : w.cell? ⟨p, 0, none⟩ = some (.int .i64 r.client) ∧ w.cell? ⟨p, 1, none⟩ = some (.int .i64 r.number) ∧ w.cell? ⟨p, 2, none⟩ = some t ∧ w.cell? ⟨p, 3, none⟩ = some (.string ⟨r.data.toArray⟩) :=
  ⟨cell_of_heap h 0, cell_of_heap h 1, cell_of_heap h 2, cell_of_heap h 3⟩

def recErr : Bool → Int
  | true => 0
  | false => 40
@[simp] theorem recErr_true : recErr true = 0 := rfl
@[simp] theorem recErr_false : recErr false = 40 := rfl
def GivesEnc4 (w : World) (r : Rec.R) (e : Ending) (w' : World) : Prop := ∃ u, e = .returned (.tuple #[u, .int .i64 (recErr (Rec.right r))]) ∧ Bytes w' u (bytesOr (Rec.right r) (Rec.enc r)) ∧ Ext w w'

theorem ints_lit3 (w : World) (x y z : Int) : Ints (w.alloc (.cells #[.int .i64 x, .int .i64 y, .int .i64 z] 3)) (.slice (some ⟨w.heap.size, 0, none⟩) 3 3) [x, y, z] :=
  Sl.made w (i64s [x, y, z]) 3 3 (by simp) (by simp [maxLen]) (fr := (0, 0))
theorem okNum_of {n : Int} (h : 0 ≤ n ∧ n ≤ 4611686018427387904) : okNum n = true := by
  unfold okNum
  rw [decide_eq_true_eq]
  omega
theorem text_nums (r : Rec.R) : Rec.text r = (nums [r.client, r.number, (r.tags.length : Int)] ++ nums r.tags) ++ (Pack.num r.data.length ++ r.data) := by
  have e : ∀ l : List Int, Rec.numsOf l = nums l := fun _ => rfl
  unfold Rec.text
  rw [e]
  simp [nums]

set_option maxHeartbeats 4000000 in
theorem encode4_any (v : Value) (r : Rec.R) (w : World) (hv : IsRec w v r) : Calls Tryz.prog 101 #[v] w (GivesEnc4 w r) := by
  have hbx := box_rec
  have hr4 := fun w1 hv => right4_any v r w1 hv
  have HV := Lib.hid hv
  obtain ⟨t, rfl, ht⟩ := hv
  unfold recV at *
  obtain ⟨a, cap, rfl, hcap, hmax, _, _⟩ := ht.open
  unfold maxLen at hmax
  have HT := Lib.hid ht
  clear ht
  have hE0 : Ext w (w.alloc (.cells #[.int .i64 r.client, .int .i64 r.number, .slice a r.tags.length cap, .string ⟨r.data.toArray⟩] 27)) := Ext.alloc _ _
  have HA0 := Lib.hid (RecAt.new w (.slice a r.tags.length cap) r)
  unfold GivesEnc4
  cases hr : Rec.right r with
  | false =>
    have HR := Lib.hid hr
    clear hr
    go_enter Tryz.func101, Tryz.ntmps101
    go_wp2_with fail
    refine (hr4 _ (HV.out.below hE0)).mono ?_
    rintro e w1 ⟨rfl, hE1⟩
    rw [HR.out]
    go_wp2_with fail
    go_ret2
    exact ⟨_, rfl, bytes_none _, hE0.trans hE1⟩
  | true =>
    have HR := Lib.hid hr
    obtain ⟨q1, q2, q3, q4, q5, q6⟩ := Rec.right_ok hr
    have hall1 : [r.client, r.number, (r.tags.length : Int)].all okNum = true := by
      simp only [List.all_cons, List.all_nil, Bool.and_true]
      rw [okNum_of (by omega), okNum_of (by omega), okNum_of (by omega)]
      rfl
    have hall2 : r.tags.all okNum = true := by
      rw [List.all_eq_true]
      intro x hx
      have := q4 x hx
      exact okNum_of (by omega)
    have hl1 := nums_le _ hall1
    have hl2 := nums_le _ hall2
    have hl3 := Pack.num_nine (n := r.data.length) (by omega)
    simp only [List.length_cons, List.length_nil] at hl1
    have HT1 := Lib.hid (text_nums r)
    have HA1 := Lib.hid hall1
    have HA2 := Lib.hid hall2
    have HQ := Lib.hid (And.intro q5 (And.intro q6 (And.intro hl1 (And.intro hl2 hl3))))
    have hlen63 : r.data.length ≤ 9223372036854775807 := by omega
    clear hr hall1 hall2 q1 q2 q3 q4 hl1 hl2 hl3
    go_enter Tryz.func101, Tryz.ntmps101
    go_wp2_with fail
    refine (hr4 _ (HV.out.below hE0)).mono ?_
    rintro e w1 ⟨rfl, hE1⟩
    rw [HR.out]
    have a1 := Lib.hid (HA0.out.ext hE1)
    obtain ⟨c0, c1, c2, c3⟩ := a1.out.cells
    have e1 := hE0.trans hE1
    go_wp2_with fail
    refine (packNum_any (.slice none 0 0) _ [] [r.client, r.number, (r.tags.length : Int)] _ (bytes_none _) (ints_lit3 w1 _ _ _) (by simp) (by simp)).mono ?_
    rw [HA1.out, if_pos rfl, List.nil_append]
    rintro e w2 ⟨v2, rfl, ho2, hE2⟩
    have hE2' : Ext w1 w2 := (Ext.alloc _ _).trans hE2
    have a2 := Lib.hid (a1.out.ext hE2')
    obtain ⟨c0', c1', c2', c3'⟩ := a2.out.cells
    have e2 := e1.trans hE2'
    clear c0 c1 c2 c3
    go_wp2_with fail
    refine (packNum_any v2 _ _ r.tags _ ho2.bytes (HT.out.below e2) (by have := HQ.out; omega) (by omega)).mono ?_
    rw [HA2.out, if_pos rfl]
    rintro e w3 ⟨v3, rfl, ho3, hE3⟩
    have a3 := Lib.hid (a2.out.ext hE3)
    obtain ⟨c0, c1, c2, c3⟩ := a3.out.cells
    have e3 := e2.trans hE3
    clear c0' c1' c2' c3'
    go_wp2_with fail
    refine (packText_any v3 _ r.data _ ho3.bytes (by have := HQ.out; rw [List.length_append]; omega) hlen63).mono ?_
    rw [if_pos (by omega), decide_eq_true (by omega), ← HT1.out]
    rintro e w4 ⟨v4, rfl, ho4, hE4⟩
    have e4 := e3.trans hE4
    clear c0 c1 c2 c3
    go_wp2_with fail
    refine (new_any _).mono ?_
    rintro e w5 ⟨rfl, ht5, hE5⟩
    have e5 := e4.trans hE5
    go_wp2_with fail
    refine (put_any _ 0 0 v4 (Rec.text r) _ ht5 (.inl rfl) (ho4.bytes.below hE5) (by have := HQ.out; rw [HT1.out]; simp only [List.length_append]; omega)).mono ?_
    rintro e w6 ⟨v6, d6, rfl, hb6, hB6, hd6, ht6⟩
    have e6 : Ext w w6 := Below.trans (B := w.heap.size) e5 (hB6.below e4.size (Nat.le_trans e4.size hE5.size))
    go_wp2_with fail
    go_ret2
    exact ⟨_, rfl, hb6, e6⟩

theorem Yield.ld {P : Program} {o : Oper} {ev : Operand → Value} {w : World} {R : Value → World → Prop} {t : TypeId} {x : Operand} {u v : Value} {w' : World} (ho : o.op = .load t x) (hx : ev x = u) (hr : (Instr.loadAt t u).run P w = .ok v w') (h : R v w') : Yield P o ev w R := by
  unfold Yield execOp
  simp only [ho, hx, Sem.run_bind, hr, Result.andThen_ok, Sem.run_pure]
  exact h
/- Layer 4, the program: bytes as records. -/
def noRec : Rec.R := ⟨0, 0, [], []⟩
def decErr4 : Option (List UInt8) → Int
  | none => 41
  | some t => recErr (Rec.readOk t)
def orRec : Bool → Rec.R → Rec.R
  | true, r => r
  | false, _ => noRec
def decRec4 : Option (List UInt8) → Rec.R
  | none => noRec
  | some t => orRec (Rec.readOk t) (Rec.read t)
theorem decErr4_some (t : List UInt8) : decErr4 (some t) = recErr (Rec.readOk t) := rfl
theorem decRec4_some (t : List UInt8) : decRec4 (some t) = orRec (Rec.readOk t) (Rec.read t) := rfl
def RowRec (w : World) (v : Value) (r : Rec.R) : Prop := ∃ t, v = recV t r ∧ RowI w t r.tags
theorem RowRec.is {w : World} {v : Value} {r : Rec.R} (h : RowRec w v r) : IsRec w v r := by
  obtain ⟨t, e, h⟩ := h
  exact ⟨t, e, h.ints⟩
/-- The same, of new blocks. -/
def RowF (B : Nat) (w : World) (v : Value) (l : List Int) : Prop := ∃ b n, B ≤ b ∧ w.ownsRow b 3 1 v n (i64s l)
theorem RowF.nil (B : Nat) (w : World) : RowF B w (.slice none 0 0) [] := ⟨B, 0, Nat.le_refl _, World.ownsRow_nil _ _ _ _⟩
theorem RowF.row {B : Nat} {w : World} {v : Value} {l : List Int} (h : RowF B w v l) : RowI w v l := by
  obtain ⟨b, n, _, h⟩ := h
  exact ⟨b, n, h⟩
def RowRecF (B : Nat) (w : World) (v : Value) (r : Rec.R) : Prop := ∃ t, v = recV t r ∧ RowF B w t r.tags
theorem RowRecF.row {B : Nat} {w : World} {v : Value} {r : Rec.R} (h : RowRecF B w v r) : RowRec w v r := by
  obtain ⟨t, e, h⟩ := h
  exact ⟨t, e, h.row⟩
def GivesFresh4 (w : World) (o : Option (List UInt8)) (e : Ending) (w' : World) : Prop := ∃ u, e = .returned (.tuple #[u, .int .i64 (decErr4 o)]) ∧ RowRecF w.heap.size w' u (decRec4 o) ∧ Ext w w'

theorem build_rec0 (w : World) : (Instr.build 27 #[]).run Tryz.prog w = .ok (.agg #[.int .i64 0, .int .i64 0, .slice none 0 0, .string ⟨#[]⟩]) w := by kernel_rfl
theorem build_id (w : World) (c n : Int) : (Instr.build 24 #[(0, .int .i64 c), (1, .int .i64 n)]).run Tryz.prog w = .ok (.agg #[.int .i64 c, .int .i64 n]) w := by kernel_rfl
theorem build_rec1 (w : World) (c n : Int) : (Instr.build 27 #[(0, .agg #[.int .i64 c, .int .i64 n])]).run Tryz.prog w = .ok (.agg #[.int .i64 c, .int .i64 n, .slice none 0 0, .string ⟨#[]⟩]) w := by kernel_rfl
/-- A row of the call's own lies beside a block of another type. -/
theorem row_beside4 {w : World} {base q n : Nat} {e t : TypeId} {v : Value} {xs : List Value} {cs : Array Value} {fr : Nat × Nat} (ho : w.ownsRow base e 1 v n xs) (hq : w.heap[q]? = some (.cells cs t fr)) (hte : t ≠ e) : some q ≠ v.ownBlock := by
  rcases ho.2 with ⟨rfl, _⟩ | ⟨g, cap, cur, rfl, _, hgb, _⟩
  · simp [Value.ownBlock]
  · intro e'
    obtain rfl : q = g := by simpa [Value.ownBlock] using e'
    rw [hq] at hgb
    simp at hgb
    exact hte hgb.2.1
theorem grownBy_set4 (W : World) (b o : Nat) (v : Value) : W.grownBy (W.setCell ⟨b, o, none⟩ v) (some b) :=
  ⟨rfl, rfl, rfl, by simp [World.setCell], fun k _ hk => Below.heap_setCell _ _ _ k (fun e => hk (by rw [e]))⟩

theorem RecAt.zero (w : World) : RecAt (w.alloc (.cells #[.int .i64 0, .int .i64 0, .slice none 0 0, .string ⟨#[]⟩] 27)) w.heap.size (.slice none 0 0) noRec := by
  unfold RecAt noRec
  exact heap_alloc_new w _

theorem set_four {w : World} {q : Nat} {x0 x1 x2 x3 : Value} {T : TypeId} (h : w.heap[q]? = some (.cells #[x0, x1, x2, x3] T (0, 0))) (v0 v1 v2 v3 : Value) :
    ((((w.setCell ⟨q, 0, none⟩ v0).setCell ⟨q, 1, none⟩ v1).setCell ⟨q, 2, none⟩ v2).setCell ⟨q, 3, none⟩ v3).heap[q]? = some (.cells #[v0, v1, v2, v3] T (0, 0)) ∧ But q w ((((w.setCell ⟨q, 0, none⟩ v0).setCell ⟨q, 1, none⟩ v1).setCell ⟨q, 2, none⟩ v2).setCell ⟨q, 3, none⟩ v3) := by
  refine ⟨?_, ((((But.refl _ _).setCell 0 none v0).setCell 1 none v1).setCell 2 none v2).setCell 3 none v3⟩
  have := heap_setCell (heap_setCell (heap_setCell (heap_setCell h 0 v0) 1 v1) 2 v2) 3 v3
  simpa using this
theorem RecAt.set {w : World} {p : Nat} {t : Value} {r : Rec.R} (h : RecAt w p t r) (t' : Value) (r' : Rec.R) :
    RecAt ((((w.setCell ⟨p, 0, none⟩ (.int .i64 r'.client)).setCell ⟨p, 1, none⟩ (.int .i64 r'.number)).setCell ⟨p, 2, none⟩ t').setCell ⟨p, 3, none⟩ (.string ⟨r'.data.toArray⟩)) p t' r' ∧
    But p w ((((w.setCell ⟨p, 0, none⟩ (.int .i64 r'.client)).setCell ⟨p, 1, none⟩ (.int .i64 r'.number)).setCell ⟨p, 2, none⟩ t').setCell ⟨p, 3, none⟩ (.string ⟨r'.data.toArray⟩)) := set_four h _ _ _ _
theorem RD.grown4 {w w' : World} {p q n : Nat} {s : Pack.St} {e : TypeId} {v : Value} {xs : List Value} (h : RD w p s) (ho : w.ownsRow q e 1 v n xs) (hg : w.grownBy w' v.ownBlock) (hpq : p < q) : RD w' p s :=
  h.keep fun k hk => hg.block k (by have := h.lt; omega) (fun e => by have := (ho.lt k e.symm).1; omega)
theorem RD.set4 {w : World} {p q o : Nat} {s : Pack.St} {v : Value} (h : RD w p s) (hpq : p < q) : RD (w.setCell ⟨q, o, none⟩ v) p s :=
  h.keep fun k hk => Below.heap_setCell _ _ _ k (by show k ≠ q; omega)
theorem row_but4 {w w' : World} {p base n : Nat} {e : TypeId} {v : Value} {xs : List Value} (ho : w.ownsRow base e 1 v n xs) (hne : some p ≠ v.ownBlock) (hb : But p w w') : w'.ownsRow base e 1 v n xs :=
  ho.kept (row := some p) ⟨hb.os, hb.tape, hb.output, hb.size, fun k hk hkp => hb.block k hk (fun e => hkp (by rw [e]))⟩ (.inr (Ne.symm hne))
theorem row_ext4 {w w' : World} {base n : Nat} {e : TypeId} {v : Value} {xs : List Value} (ho : w.ownsRow base e 1 v n xs) (hE : Ext w w') : w'.ownsRow base e 1 v n xs :=
  ho.kept (row := none) ⟨hE.os, hE.tape, hE.output, hE.size, fun k hk _ => hE.block k hk⟩ (by
    rcases ho.2 with ⟨rfl, _⟩ | ⟨g, cap, cur, rfl, _⟩
    · exact .inl rfl
    · exact .inr (by simp [Value.ownBlock]))
theorem RecAt.grown4 {w w' : World} {p : Nat} {t : Value} {r : Rec.R} {o : Option Nat} (h : RecAt w p t r) (hg : w.grownBy w' o) (hne : some p ≠ o) : RecAt w' p t r := (hg.block p h.lt hne).trans h
theorem grownBy_but4 (W : World) (b o : Nat) (v : Value) : But b W (W.setCell ⟨b, o, none⟩ v) := (But.refl _ _).setCell o none v
theorem RecAt.tags {w : World} {p : Nat} {t t' : Value} {c n : Int} {ts ts' : List Int} {d : List UInt8} (h : RecAt w p t ⟨c, n, ts, d⟩) : RecAt (w.setCell ⟨p, 2, none⟩ t') p t' ⟨c, n, ts', d⟩ := by
  have := heap_setCell h 2 t'
  unfold RecAt
  simpa using this
theorem own_slice4 {w : World} {base n : Nat} {e : TypeId} {v : Value} {xs : List Value} (h : w.ownsRow base e 1 v n xs) : ∃ a n c, v = .slice a n c := by
  obtain ⟨a, c, rfl, _⟩ := Sl.ofOwn h
  exact ⟨_, _, _, rfl⟩
theorem RecAt.later {w : World} {p : Nat} {t : Value} {r : Rec.R} {o : Obj} (h : RecAt w p t r) : p ≤ (w.alloc o).heap.size := by
  have := h.lt
  rw [World.size_alloc]
  omega
theorem RecAt.data {w : World} {p : Nat} {t : Value} {c n : Int} {ts : List Int} {d : List UInt8} (h : RecAt w p t ⟨c, n, ts, d⟩) (d' : List UInt8) : RecAt (w.setCell ⟨p, 3, none⟩ (.string ⟨d'.toArray⟩)) p t ⟨c, n, ts, d'⟩ := by
  have := heap_setCell h 3 (.string ⟨d'.toArray⟩)
  unfold RecAt
  simpa using this
theorem RD.heap {w : World} {p : Nat} {s : Pack.St} (h : RD w p s) : ∃ a n c, w.heap[p]? = some (.cells #[.slice a n c, .int .i64 s.err] 285 (0, 0)) := by
  obtain ⟨a, n, c, h, _⟩ := h
  exact ⟨a, n, c, h⟩
theorem RecAt.name {w : World} {p : Nat} {t : Value} {c n : Int} {ts ts' : List Int} {d : List UInt8} (h : RecAt w p t ⟨c, n, ts, d⟩) : RecAt w p t ⟨c, n, ts', d⟩ := h
theorem num_most4 (s : Pack.St) (most : Int) (h : 0 ≤ most) : ((s.num most).2 : Int) ≤ most := by
  unfold Pack.St.num
  split
  · exact h
  · split
    · exact h
    · split
      · exact h
      · rename_i h3
        unfold Pack.wrong at h3
        simp only
        omega

set_option maxHeartbeats 8000000 in
theorem decode4_fresh (v : Value) (l : List UInt8) (w : World) (hv : Bytes w v l) (hl : l.length ≤ 200000) :
    Calls Tryz.prog 182 #[v] w (GivesFresh4 w (Crc.cutOf l)) := by
  have hb0 := build_rec0
  have hb1 := build_rec1
  have hb2 := build_id
  have HV := Lib.hid hv
  obtain ⟨a, cap, rfl, hcap, hmax, hn, hc⟩ := hv.open
  unfold maxLen at hmax
  clear hv hc
  obtain ⟨C, hC⟩ : ∃ C, Crc.cutOf l = C := ⟨_, rfl⟩
  rw [hC]
  have HC := Lib.hid hC
  clear hC
  unfold GivesFresh4
  have hE0 : Ext w (w.alloc (.cells #[.int .i64 0, .int .i64 0, .slice none 0 0, .string ⟨#[]⟩] 27)) := Ext.alloc _ _
  have HR0 := Lib.hid (RecAt.zero w)
  go_enter Tryz.func182, Tryz.ntmps182
  go_wp2_with fail
  refine (new_any _).mono ?_
  rintro e w1 ⟨rfl, ht1, hE1⟩
  rw [World.size_alloc] at ht1 ⊢
  have r1 := Lib.hid (HR0.out.ext hE1)
  have e1 := hE0.trans hE1
  go_wp2_with fail
  have hcall := cut_any _ 0 0 _ l _ ht1 (.inl rfl) (HV.out.below e1) hl
  rw [HC.out] at hcall
  refine hcall.mono ?_
  clear hcall
  intro e w2 hq
  obtain ⟨-, hB2, hcut⟩ := hq
  have e2 : Ext w w2 := Below.trans (B := w.heap.size) e1 (hB2.below (Nat.le_succ _) e1.size)
  have r2 := Lib.hid (r1.out.but hB2 (by simp))
  obtain ⟨c0, c1, c2, c3⟩ := r2.out.cells
  have fr : ∀ i, w2.frozen? ⟨w.heap.size, i, none⟩ = false := fun i => frozen_of_heap r2.out i
  cases C with
  | none =>
    subst hcut
    go_wp2_with fail
    have hs := r2.out.set (.slice none 0 0) noRec
    exact bodyPost_ret (v := .tuple #[recV (.slice none 0 0) noRec, .int .i64 41]) (by simp [results, Tryz.results182, go_sem, c0, c1, c2, c3, fr, noRec, recV]) rfl ⟨_, rfl, ⟨_, rfl, RowF.nil _ _⟩, Below.trans (B := w.heap.size) e2 (hs.2.below (Nat.le_refl _) e2.size)⟩
  | some t =>
    obtain ⟨v2, rfl, hb2⟩ := hcut
    have htl : t.length ≤ l.length := by
      have := HC.out
      unfold Crc.cutOf at this
      split at this
      · cases this
      · split at this
        · injection this with this
          rw [← this, List.length_take]
          omega
        · cases this
    obtain ⟨A, hA⟩ : ∃ A, Pack.St.num ⟨t, 0⟩ 1099511627776 = A := ⟨_, rfl⟩
    obtain ⟨B, hB⟩ : ∃ B, A.1.num 1099511627776 = B := ⟨_, rfl⟩
    obtain ⟨C, hC⟩ : ∃ C, B.1.num 8 = C := ⟨_, rfl⟩
    have sA : Rec.stA t = A := hA
    have sB : Rec.stB t = B := by unfold Rec.stB; rw [sA]; exact hB
    have sC : Rec.stC t = C := by unfold Rec.stC; rw [sB]; exact hC
    have hC8 : C.2 ≤ 8 := by
      have := num_most4 B.1 8 (by omega)
      rw [hC] at this
      omega
    have HA := Lib.hid hA
    have HB := Lib.hid hB
    have HCC := Lib.hid hC
    have HS := Lib.hid (And.intro sA (And.intro sB sC))
    clear hA hB hC sA sB sC c0 c1 c2 c3 fr
    obtain ⟨a2, n2, k2, rfl⟩ := hb2.isSlice
    go_wp2_with fail
    refine (newReader_any _ t _ hb2 (by omega)).mono ?_
    rintro e w3 ⟨p, rfl, hp, hr3, hE3⟩
    have e3 := e2.trans hE3
    have r3 := Lib.hid (r2.out.ext hE3)
    have hq0 : w.heap.size ≠ p := by have := r2.out.lt; omega
    have hwp : w.heap.size ≤ p := Nat.le_trans e2.size hp
    go_wp2_with fail
    refine (num_any p _ 1099511627776 _ hr3).mono ?_
    rw [HA.out]
    rintro e w4 ⟨rfl, hB4, hr4⟩
    have r4 := Lib.hid (r3.out.but hB4 hq0)
    have e4 : Ext w w4 := Below.trans (B := w.heap.size) e3 (hB4.below hwp e3.size)
    go_wp2_with fail
    refine (num_any p _ 1099511627776 _ hr4).mono ?_
    rw [HB.out]
    rintro e w5 ⟨rfl, hB5, hr5⟩
    have r5 := Lib.hid (r4.out.but hB5 hq0)
    have e5 : Ext w w5 := Below.trans (B := w.heap.size) e4 (hB5.below hwp e4.size)
    go_wp2_with fail
    have hpq : p < w5.heap.size := hr5.lt
    have r6 := Lib.hid (r5.out.ext (Ext.alloc w5 (.cells #[.int .i64 (A.2 : Int), .int .i64 (B.2 : Int), .slice none 0 0, .string ⟨#[]⟩] 27)))
    have x6 : RecAt (w5.alloc (.cells #[.int .i64 (A.2 : Int), .int .i64 (B.2 : Int), .slice none 0 0, .string ⟨#[]⟩] 27)) w5.heap.size (.slice none 0 0) ⟨(A.2 : Int), (B.2 : Int), [], []⟩ := by
      unfold RecAt
      exact heap_alloc_new _ _
    have X6 := Lib.hid x6
    have e6 : Ext w (w5.alloc (.cells #[.int .i64 (A.2 : Int), .int .i64 (B.2 : Int), .slice none 0 0, .string ⟨#[]⟩] 27)) := e5.trans (Ext.alloc _ _)
    have hwq : w.heap.size < w5.heap.size := by have := r5.out.lt; omega
    clear x6
    refine (num_any p _ 8 _ (hr5.ext (Ext.alloc _ _))).mono ?_
    rw [HCC.out]
    rintro e w7 ⟨rfl, hB7, hr7⟩
    have r7 := Lib.hid (r6.out.but hB7 hq0)
    have x7 := Lib.hid (X6.out.but hB7 (by omega))
    have e7 : Ext w w7 := Below.trans (B := w.heap.size) e6 (hB7.below hwp e6.size)
    obtain ⟨q, hq⟩ : ∃ q, w5.heap.size = q := ⟨_, rfl⟩
    have hq7 : q < w7.heap.size := by
      have := hB7.size
      rw [World.size_alloc, hq] at this
      omega
    rw [hq] at x7 hpq hwq ⊢
    obtain ⟨m, hm⟩ : ∃ m, C.2 = m := ⟨_, rfl⟩
    rw [hm] at hC8 ⊢
    have HM := Lib.hid hm
    clear hq hm
    have ti := tI
    go_wp2_with fail
    go_loopw [27] (fun i wr => ∃ k : Nat, k ≤ m ∧ i = .int .i64 k ∧ ∃ tv, Hid (RecAt wr q tv ⟨(A.2 : Int), (B.2 : Int), (Rec.readsM 1073741824 C.1 k).2, []⟩) ∧ wr.ownsRow q 3 1 tv k (i64s (Rec.readsM 1073741824 C.1 k).2) ∧ RD wr p (Rec.readsM 1073741824 C.1 k).1 ∧ Hid (RecAt wr w.heap.size (.slice none 0 0) noRec) ∧ Ext w wr) (fun i _ => m - (intOf i).toNat)
    case atStart => exact ⟨0, by omega, rfl, _, x7, World.ownsRow_nil _ _ _ _, hr7, r7, e7⟩
    case round =>
      obtain ⟨k, hk, rfl, tv, x, ho, hr, r, hE⟩ := hrel
      by_cases hlt : k < m
      · obtain ⟨N, hN⟩ : ∃ N, (Rec.readsM 1073741824 C.1 k).1.num 1073741824 = N := ⟨_, rfl⟩
        have hnx : Rec.readsM 1073741824 C.1 (k + 1) = (N.1, (Rec.readsM 1073741824 C.1 k).2 ++ [(N.2 : Int)]) := by
          show ((((Rec.readsM 1073741824 C.1 k).1.num 1073741824).1, (Rec.readsM 1073741824 C.1 k).2 ++ [(((Rec.readsM 1073741824 C.1 k).1.num 1073741824).2 : Int)])) = _
          rw [hN]
        have HN := Lib.hid hN
        have HNX := Lib.hid hnx
        have hqr : q < wr.heap.size := x.out.lt
        have hbs := row_beside4 ho x.out (by decide)
        have hr' := hr
        obtain ⟨pa, pn, pc, hpp, _, _⟩ := hr'
        have hbp := Lib.hid (row_beside4 ho hpp (by decide))
        have HBS := Lib.hid hbs
        have hone := i64s_one [(N.2 : Int)]
        have hlen : (i64s (Rec.readsM 1073741824 C.1 k).2).length = k := by rw [i64s_length, Rec.readsM_len]
        obtain ⟨y, hy⟩ : ∃ y : Int, (N.2 : Int) = y := ⟨_, rfl⟩
        rw [hy] at hone hnx
        have HNX := Lib.hid hnx
        have HY := Lib.hid hy
        have hc1 := x.out.cells.2.2.1
        have HO := Lib.hid ho
        have HR := Lib.hid hr
        have hcl : ∀ w' : World, RecAt w' q tv ⟨(A.2 : Int), (B.2 : Int), (Rec.readsM 1073741824 C.1 k).2, []⟩ → w'.cell? ⟨q, 2, none⟩ = some tv := fun w' h => h.cells.2.2.1
        have hk1 : k + (i64s [y]).length ≤ maxLen := by simp [maxLen]; omega
        have hk2 : (k + (i64s [y]).length) * 8 ≤ 140737488355328 := by simp; omega
        have hown1 : ∀ w6 : World, But p wr.drew w6 → (w6.alloc (.cells #[.int .i64 y] 3)).ownsRow q 3 1 tv k (i64s (Rec.readsM 1073741824 C.1 k).2) := fun w6 hB => (row_but4 HO.out.drew hbp.out hB).alloc _
        have hins : ∀ w6 : World, Sl (w6.alloc (.cells #[.int .i64 y] 3)) (.slice (some ⟨w6.heap.size, 0, none⟩) 1 1) (i64s [y]) := fun w6 => Ints.one w6 y
        have HOWN1 := Lib.hid hown1
        have HINS := Lib.hid hins
        have HCL := Lib.hid hcl
        clear hN hnx hy hpp ho hr hbs hown1 hins hcl
        go_wp2_with fail
        go_region_law
          (first
            | (go_simp; go_at_call 154; refine (num_any p _ 1073741824 _ (HR.out.ext (Ext.drew wr))).mono ?_; rw [HN.out, HY.out]; rintro e w8 ⟨rfl, hB8, hr8⟩; have x8 := Lib.hid (RecAt.but (x.out.ext (Ext.drew wr)) hB8 (by omega)); have hc8 := HCL.out w8 x8.out; have hc8a := HCL.out (w8.alloc (.cells #[.int .i64 y] 3)) (x8.out.ext (Ext.alloc _ _)); have hq8 := RecAt.later (o := .cells #[.int .i64 y] 3) x8.out)
            | (rw [if_pos (by rfl)]; refine wp_app (.tmp 30) (.tmp 33) ti rfl rfl rfl (HOWN1.out _ hB8) (HINS.out w8) hone hk1 hk2 hq8 ?_; intro v9 w9 hown9 hg9; have hg9 : (w8.alloc (.cells #[.int .i64 y] 3)).grownBy w9 tv.ownBlock := hg9; obtain ⟨a9, n9, c9, rfl⟩ := own_slice4 hown9; have x9 := Lib.hid (RecAt.grown4 (x8.out.ext (Ext.alloc _ _)) hg9 HBS.out); have hc9 := HCL.out w9 x9.out; have hf9 := frozen_of_heap x9.out 2))
        all_goals
          have hx10 := Lib.hid (x9.out.tags (t' := .slice a9 n9 c9) (ts' := (Rec.readsM 1073741824 C.1 (k + 1)).2))
          have hb9 := row_beside4 hown9 x9.out (by decide)
          have ho10 := (hown9.kept (grownBy_set4 w9 q 2 (.slice a9 n9 c9)) (.inr (Ne.symm hb9)))
          have hrow1 := HOWN1.out _ hB8
          have hr10 := ((hr8.ext (Ext.alloc w8 (.cells #[.int .i64 y] 3))).grown4 hrow1 hg9 hpq).set4 (o := 2) (v := .slice a9 n9 c9) hpq
          have hq0q : some w.heap.size ≠ tv.ownBlock := fun e => by have := (hrow1.lt _ e.symm).1; omega
          have hr0 := (RecAt.grown4 ((RecAt.but (r.out.ext (Ext.drew wr)) hB8 hq0).ext (Ext.alloc w8 (.cells #[.int .i64 y] 3))) hg9 hq0q)
          have hr0' := hr0.but (grownBy_but4 w9 q 2 (.slice a9 n9 c9)) (by omega)
          have hE8 : Ext w w8 := Below.trans (B := w.heap.size) (hE.trans (Ext.drew wr)) (hB8.below hwp (hE.trans (Ext.drew wr)).size)
          have hE9 : Ext w w9 := Below.grown (hE8.trans (Ext.alloc w8 (.cells #[.int .i64 y] 3))) hg9 (hE8.trans (Ext.alloc w8 (.cells #[.int .i64 y] 3))).size (fun j hj => by have := (hrow1.lt j hj).1; omega)
          have hE10 : Ext w (w9.setCell ⟨q, 2, none⟩ (.slice a9 n9 c9)) := Below.setCell hE9 (p := ⟨q, 2, none⟩) (Nat.le_of_lt hwq) _
          have ho11 : (w9.setCell ⟨q, 2, none⟩ (.slice a9 n9 c9)).ownsRow q 3 1 (.slice a9 n9 c9) (k + 1) (i64s (Rec.readsM 1073741824 C.1 (k + 1)).2) := by
            rw [HNX.out, i64s_append]
            exact ho10
          have hr11 : RD (w9.setCell ⟨q, 2, none⟩ (.slice a9 n9 c9)) p (Rec.readsM 1073741824 C.1 (k + 1)).1 := by
            rw [HNX.out]
            exact hr10
          have HO11 := Lib.hid ho11
          have HR0 := Lib.hid hr0'
          clear ho10 hr10 hr0 hr0' ho11 hrow1 hb9
          go_wp2
          go_roundw
          case rel => exact ⟨k + 1, by omega, by go_num, _, hx10, HO11.out, hr11, HR0, hE10⟩
          case measure => simp [intOf]; omega
      · obtain rfl : k = m := by omega
        have hD : Rec.stD t = Rec.readsM 1073741824 C.1 k := by unfold Rec.stD; rw [HS.out.2.2, HM.out]
        obtain ⟨D, hDD⟩ : ∃ D, Rec.readsM 1073741824 C.1 k = D := ⟨_, rfl⟩
        obtain ⟨F, hF⟩ : ∃ F, D.1.text 1024 = F := ⟨_, rfl⟩
        rw [hDD] at hD x ho hr
        have hEq : Rec.stE t = F := by unfold Rec.stE; rw [hD, hF]
        have hread : Rec.read t = ⟨(A.2 : Int), (B.2 : Int), D.2, F.2⟩ := by unfold Rec.read; rw [HS.out.1, HS.out.2.1, hD, hEq]
        have hok : Rec.readOk t = ((F.1.done == 0) && Rec.right ⟨(A.2 : Int), (B.2 : Int), D.2, F.2⟩) := by unfold Rec.readOk; rw [hEq, hread]
        have HF := Lib.hid hF
        have HRD := Lib.hid hread
        have HOK := Lib.hid hok
        obtain ⟨a9, n9, c9, rfl⟩ := own_slice4 ho
        have HI := Lib.hid (show Ints wr (.slice a9 n9 c9) D.2 from Sl.ofOwn ho)
        have hrowlow := Lib.hid (fun j hj => (ho.lt j hj).1)
        obtain ⟨_, _, _, hhp⟩ := hr.heap
        have hbp := Lib.hid (row_beside4 ho hhp (by decide))
        have hbq := Lib.hid (row_beside4 ho x.out (by decide))
        have HO := Lib.hid ho
        have HR := Lib.hid hr
        clear hD hDD hF hEq hread hok ho hr hhp
        go_wp2_with fail
        refine (text_any p _ 1024 _ HR.out).mono ?_
        rw [HF.out]
        rintro e w8 ⟨rfl, hB8, hr8⟩
        have x8 := Lib.hid (RecAt.but x.out hB8 (by omega))
        have r8 := Lib.hid (RecAt.but r.out hB8 hq0)
        have o8 := Lib.hid (row_but4 HO.out hbp.out hB8)
        have hE8 : Ext w w8 := Below.trans (B := w.heap.size) hE (hB8.below hwp hE.size)
        obtain ⟨c0, c1, c2, c3⟩ := x8.out.cells
        have f3 := frozen_of_heap x8.out 3
        have x9 := Lib.hid (RecAt.data x8.out F.2)
        have hB9 := grownBy_but4 w8 q 3 (.string ⟨F.2.toArray⟩)
        have r9 := Lib.hid (RecAt.but r8.out hB9 (by omega))
        have hr9 := Lib.hid (hr8.set4 (q := q) (o := 3) (v := .string ⟨F.2.toArray⟩) hpq)
        have o9 := Lib.hid (row_but4 o8.out hbq.out hB9)
        have hE9 : Ext w (w8.setCell ⟨q, 3, none⟩ (.string ⟨F.2.toArray⟩)) := Below.setCell hE8 (p := ⟨q, 3, none⟩) (Nat.le_of_lt hwq) _
        clear hB9
        go_wp2_with fail
        generalize hw9 : w8.setCell ⟨q, 3, none⟩ (.string ⟨F.2.toArray⟩) = w9 at *
        have HI9 := Lib.hid (show Ints w9 (.slice a9 n9 c9) D.2 from Sl.ofOwn o9.out)
        clear hw9 c0 c1 c2 c3 f3
        refine (end_any p _ _ hr9.out).mono ?_
        obtain ⟨d, hdd⟩ : ∃ d, F.1.done = d := ⟨_, rfl⟩
        rw [hdd] at HOK ⊢
        clear hdd
        rintro e w10 ⟨rfl, rfl⟩
        by_cases hd : d = 0
        · subst hd
          have hd' : ((0 : Int) == 0) = true := rfl
          have hok2 : Rec.readOk t = Rec.right ⟨(A.2 : Int), (B.2 : Int), D.2, F.2⟩ := by rw [HOK.out, hd']; rfl
          have HOK2 := Lib.hid hok2
          obtain ⟨d0, d1, d2, d3⟩ := x9.out.cells
          clear hok2 hd'
          go_wp2_with fail
          refine (right4_any _ ⟨(A.2 : Int), (B.2 : Int), D.2, F.2⟩ _ ⟨_, rfl, HI9.out⟩).mono ?_
          rintro e w11 ⟨rfl, hE11⟩
          have r11 := Lib.hid (r9.out.ext hE11)
          have x11 := Lib.hid (x9.out.ext hE11)
          have e11 := hE9.trans hE11
          clear d0 d1 d2 d3
          obtain ⟨c0, c1, c2, c3⟩ := r11.out.cells
          obtain ⟨d0, d1, d2, d3⟩ := x11.out.cells
          have fr : ∀ i, w11.frozen? ⟨w.heap.size, i, none⟩ = false := fun i => frozen_of_heap r11.out i
          cases hrr : Rec.right ⟨(A.2 : Int), (B.2 : Int), D.2, F.2⟩ with
          | false =>
            rw [hrr] at HOK2
            clear hrr
            go_wp2_with fail
            have hs := r11.out.set (.slice none 0 0) noRec
            exact bodyPost_ret (v := .tuple #[recV (.slice none 0 0) noRec, .int .i64 40]) (by simp [results, Tryz.results182, go_sem, c0, c1, c2, c3, fr, noRec, recV]) rfl
              ⟨_, by rw [decErr4_some, HOK2.out]; rfl, by rw [decRec4_some, HOK2.out]; exact ⟨_, rfl, RowF.nil _ _⟩, Below.trans (B := w.heap.size) e11 (hs.2.below (Nat.le_refl _) e11.size)⟩
          | true =>
            rw [hrr] at HOK2
            clear hrr
            go_wp2_with fail
            have hs := r11.out.set (.slice a9 n9 c9) ⟨(A.2 : Int), (B.2 : Int), D.2, F.2⟩
            have hbr : some w.heap.size ≠ (Value.slice a9 n9 c9).ownBlock := fun e => by have := (o9.out.lt _ e.symm).1; omega
            have hi11 : RowF w.heap.size _ (.slice a9 n9 c9) D.2 := ⟨_, _, by omega, row_but4 (row_ext4 o9.out hE11) hbr hs.2⟩
            exact bodyPost_ret (v := .tuple #[recV (.slice a9 n9 c9) ⟨(A.2 : Int), (B.2 : Int), D.2, F.2⟩, .int .i64 0]) (by simp [results, Tryz.results182, go_sem, c0, c1, c2, c3, d0, d1, d2, d3, fr, recV]) rfl
              ⟨_, by rw [decErr4_some, HOK2.out]; rfl, by rw [decRec4_some, HOK2.out, HRD.out]; exact ⟨_, rfl, hi11⟩, Below.trans (B := w.heap.size) e11 (hs.2.below (Nat.le_refl _) e11.size)⟩
        · have hd' : (d == 0) = false := by rw [beq_eq_false_iff_ne]; exact hd
          have hok2 : Rec.readOk t = false := by rw [HOK.out, hd']; rfl
          have HOK2 := Lib.hid hok2
          obtain ⟨c0, c1, c2, c3⟩ := r9.out.cells
          have fr : ∀ i, w9.frozen? ⟨w.heap.size, i, none⟩ = false := fun i => frozen_of_heap r9.out i
          clear hok2 hd'
          go_wp2_with fail
          have hs := r9.out.set (.slice none 0 0) noRec
          exact bodyPost_ret (v := .tuple #[recV (.slice none 0 0) noRec, .int .i64 40]) (by simp [results, Tryz.results182, go_sem, c0, c1, c2, c3, fr, noRec, recV]) rfl
            ⟨_, by rw [decErr4_some, HOK2.out]; rfl, by rw [decRec4_some, HOK2.out]; exact ⟨_, rfl, RowF.nil _ _⟩, Below.trans (B := w.heap.size) hE9 (hs.2.below (Nat.le_refl _) hE9.size)⟩
/- Layer 4, the program: tags, sameness, places. -/
/- Layer 4, the program: one record, or two. -/
theorem bytes_eq (a b : List UInt8) : ((⟨a.toArray⟩ : ByteArray) = ⟨b.toArray⟩) ↔ a = b := by
  constructor
  · intro h
    have := congrArg (fun x => x.data.toList) h
    simpa using this
  · rintro rfl; rfl
set_option maxHeartbeats 2000000 in
theorem same4_any (v u : Value) (a b : Rec.R) (w : World) (hv : IsRec w v a) (hu : IsRec w u b) :
    Calls Tryz.prog 57 #[v, u] w fun e w' => e = .returned (.bool (Rec.same a b)) ∧ Ext w w' := by
  have hbx := box_rec
  obtain ⟨t, rfl, ht⟩ := hv
  obtain ⟨t2, rfl, ht2⟩ := hu
  obtain ⟨c, n, ts, d⟩ := a
  obtain ⟨c2, n2, ts2, d2⟩ := b
  unfold recV at *
  simp only at ht ht2 ⊢
  obtain ⟨a1, cap1, rfl, hcap1, hmax1, _, _⟩ := ht.open
  obtain ⟨a2, cap2, rfl, hcap2, hmax2, _, _⟩ := ht2.open
  unfold maxLen at hmax1 hmax2
  have HT := Lib.hid ht
  have HT2 := Lib.hid ht2
  clear ht ht2
  have hE : Ext w ((w.alloc (.cells #[.int .i64 c, .int .i64 n, .slice a1 ts.length cap1, .string ⟨d.toArray⟩] 27)).alloc (.cells #[.int .i64 c2, .int .i64 n2, .slice a2 ts2.length cap2, .string ⟨d2.toArray⟩] 27)) := ext_two _ _ _
  have HH := Lib.hid (heap_two w (.cells #[.int .i64 c, .int .i64 n, .slice a1 ts.length cap1, .string ⟨d.toArray⟩] 27) (.cells #[.int .i64 c2, .int .i64 n2, .slice a2 ts2.length cap2, .string ⟨d2.toArray⟩] 27))
  by_cases h1 : c = c2
  · subst h1
    by_cases h2 : n = n2
    · subst h2
      have e0 := Lib.hid (show Rec.same ⟨c, n, ts, d⟩ ⟨c, n, ts2, d2⟩ = ((ts == ts2) && (d == d2)) by unfold Rec.same; simp)
      cases h3 : (ts == ts2) with
      | false =>
        rw [h3] at e0
        have H3 := Lib.hid h3
        clear h3
        go_enter Tryz.func57, Tryz.ntmps57
        go_wp2_with fail
        refine (equalS_any _ _ ts ts2 _ (HT.out.below hE) (HT2.out.below hE)).mono ?_
        rw [H3.out]
        rintro e w3 ⟨rfl, hE3⟩
        go_wp2_with fail
        go_ret
        exact ⟨by rw [e0.out]; rfl, hE.trans hE3⟩
      | true =>
        rw [h3] at e0
        have H3 := Lib.hid h3
        have hd := bytes_eq d d2
        clear h3
        go_enter Tryz.func57, Tryz.ntmps57
        go_wp2_with fail
        refine (equalS_any _ _ ts ts2 _ (HT.out.below hE) (HT2.out.below hE)).mono ?_
        rw [H3.out]
        rintro e w3 ⟨rfl, hE3⟩
        have z1 := cell_of_heap (heap_ext HH.out.1 hE3) 3
        have z2 := cell_of_heap (heap_ext HH.out.2 hE3) 3
        simp at z1 z2
        go_wp2_with fail
        go_ret
        exact ⟨by rw [e0.out]; rfl, hE.trans hE3⟩
    · have e := Lib.hid (show Rec.same ⟨c, n, ts, d⟩ ⟨c, n2, ts2, d2⟩ = false by unfold Rec.same; simp [h2])
      go_enter Tryz.func57, Tryz.ntmps57
      go_wp2_with fail
      go_ret
      exact ⟨by rw [e.out]; rfl, hE⟩
  · have e := Lib.hid (show Rec.same ⟨c, n, ts, d⟩ ⟨c2, n2, ts2, d2⟩ = false by unfold Rec.same; simp [h1])
    go_enter Tryz.func57, Tryz.ntmps57
    go_wp2_with fail
    go_ret
    exact ⟨by rw [e.out]; rfl, hE⟩

set_option maxHeartbeats 4000000 in
theorem refSame4_any (v u : Value) (a b : Rec.R) (w : World) (hv : IsRec w v a) (hu : IsRec w u b) :
    Calls Tryz.prog 21 #[v, u] w fun e w' => e = .returned (.bool (Rec.same a b)) ∧ Ext w w' := by
  have hbx := box_rec
  obtain ⟨t, rfl, ht⟩ := hv
  obtain ⟨t2, rfl, ht2⟩ := hu
  obtain ⟨c, n, ts, d⟩ := a
  obtain ⟨c2, n2, ts2, d2⟩ := b
  unfold recV at *
  simp only at ht ht2 ⊢
  obtain ⟨a1, cap1, rfl, hcap1, hmax1, _, _⟩ := ht.open
  obtain ⟨a2, cap2, rfl, hcap2, hmax2, _, _⟩ := ht2.open
  unfold maxLen at hmax1 hmax2
  have HT := Lib.hid ht
  have HT2 := Lib.hid ht2
  clear ht ht2
  have hE : Ext w ((w.alloc (.cells #[.int .i64 c, .int .i64 n, .slice a1 ts.length cap1, .string ⟨d.toArray⟩] 27)).alloc (.cells #[.int .i64 c2, .int .i64 n2, .slice a2 ts2.length cap2, .string ⟨d2.toArray⟩] 27)) := ext_two _ _ _
  have HH := Lib.hid (heap_two w (.cells #[.int .i64 c, .int .i64 n, .slice a1 ts.length cap1, .string ⟨d.toArray⟩] 27) (.cells #[.int .i64 c2, .int .i64 n2, .slice a2 ts2.length cap2, .string ⟨d2.toArray⟩] 27))
  by_cases h1 : c = c2
  · subst h1
    by_cases h2 : n = n2
    · subst h2
      by_cases h3 : d = d2
      · subst h3
        by_cases h4 : ts.length = ts2.length
        · have e0 := Lib.hid (show Rec.same ⟨c, n, ts, d⟩ ⟨c, n, ts2, d⟩ = (ts == ts2) by unfold Rec.same; simp)
          have h4' : ((ts.length : Int) == (ts2.length : Int)) = true := by rw [h4]; simp
          have HL := Lib.hid h4
          clear h4
          go_enter Tryz.func21, Tryz.ntmps21
          go_wp2_with fail
          go_loopw [5] (fun i wr => ∃ k : Nat, k ≤ ts.length ∧ i = .int .i64 k ∧ Hid (∀ i, i < k → ∀ (h1 : i < ts.length) (h2 : i < ts2.length), ts[i] = ts2[i]) ∧ Ext ((w.alloc (.cells #[.int .i64 c, .int .i64 n, .slice a1 ts.length cap1, .string ⟨d.toArray⟩] 27)).alloc (.cells #[.int .i64 c, .int .i64 n, .slice a2 ts2.length cap2, .string ⟨d.toArray⟩] 27)) wr) (fun i _ => ts.length - (intOf i).toNat)
          case atStart => exact ⟨0, by omega, rfl, fun i hi => absurd hi (by omega), Ext.refl _⟩
          case round =>
            obtain ⟨k, hk, rfl, hr, hE3⟩ := hrel
            have y1 := cell_of_heap (heap_ext HH.out.1 hE3) 2
            simp at y1
            by_cases hlt : k < ts.length
            · have hlt2 : k < ts2.length := by have := HL.out; omega
              obtain ⟨a', cap', e', _, _, _, hc⟩ := ((HT.out.below (hE.trans hE3)).below (Ext.drew wr)).open
              obtain ⟨b, off, rfl, hcell⟩ := hc k hlt
              injection e' with e1 e2 e3
              subst e1
              obtain ⟨a3, cap3, e', _, _, _, hc2⟩ := ((HT2.out.below (hE.trans hE3)).below (Ext.drew wr)).open
              obtain ⟨b2, off2, rfl, hcell2⟩ := hc2 k hlt2
              injection e' with e4 e5 e6
              subst e4
              clear hc hc2 e2 e3 e5 e6
              have z1 := cell_of_heap (heap_ext HH.out.1 (hE3.trans (Ext.drew wr))) 2
              have z2 := cell_of_heap (heap_ext HH.out.2 (hE3.trans (Ext.drew wr))) 2
              simp at z1 z2
              by_cases h0 : ts[k] = ts2[k]
              · have h0' : (ts[k] == ts2[k]) = true := by rw [h0]; simp
                have H0 := Lib.hid h0
                clear h0
                go_wp2_with fail
                go_region
                all_goals
                  go_wp2
                  go_roundw
                  case rel =>
                    refine ⟨k + 1, by omega, by go_num, fun i hi h1 h2 => ?_, hE3.trans (Ext.drew _)⟩
                    rcases Nat.lt_or_ge i k with h | h
                    · exact hr.out i h h1 h2
                    · obtain rfl : i = k := by omega
                      exact H0.out
                  case measure => simp [intOf]; omega
              · have h0' : (ts[k] == ts2[k]) = false := by rw [beq_eq_false_iff_ne]; exact h0
                have H0 := Lib.hid (list_ne k hlt hlt2 h0)
                clear h0
                go_wp2_with fail
                go_region
                all_goals
                  go_wp2
                  go_ret
                  exact ⟨by rw [e0.out, H0.out]; rfl, hE.trans (hE3.trans (Ext.drew _))⟩
            · have hs := Lib.hid (list_same HL.out (fun i h => hr.out i (by omega)))
              clear hr
              go_wp2
              go_ret
              exact ⟨by rw [e0.out, hs.out]; rfl, hE.trans hE3⟩
        · have e := Lib.hid (show Rec.same ⟨c, n, ts, d⟩ ⟨c, n, ts2, d⟩ = false by unfold Rec.same; rw [list_other h4]; simp)
          have h4' : ((ts.length : Int) == (ts2.length : Int)) = false := by rw [beq_eq_false_iff_ne]; omega
          go_enter Tryz.func21, Tryz.ntmps21
          go_wp2_with fail
          go_ret
          exact ⟨by rw [e.out]; rfl, hE⟩
      · have e := Lib.hid (show Rec.same ⟨c, n, ts, d⟩ ⟨c, n, ts2, d2⟩ = false by unfold Rec.same; simp [h3])
        have h3' : (d == d2) = false := beq_eq_false_iff_ne.2 h3
        go_enter Tryz.func21, Tryz.ntmps21
        go_wp2_with fail
        go_ret
        exact ⟨by rw [e.out]; rfl, hE⟩
    · have e := Lib.hid (show Rec.same ⟨c, n, ts, d⟩ ⟨c, n2, ts2, d2⟩ = false by unfold Rec.same; simp [h2])
      go_enter Tryz.func21, Tryz.ntmps21
      go_wp2_with fail
      go_ret
      exact ⟨by rw [e.out]; rfl, hE⟩
  · have e := Lib.hid (show Rec.same ⟨c, n, ts, d⟩ ⟨c2, n2, ts2, d2⟩ = false by unfold Rec.same; simp [h1])
    go_enter Tryz.func21, Tryz.ntmps21
    go_wp2_with fail
    go_ret
    exact ⟨by rw [e.out]; rfl, hE⟩
/- Layer 4: bytes as records: the document's own answer. -/
theorem set_two4 {w : World} {q : Nat} {x0 x1 : Value} {T : TypeId} (h : w.heap[q]? = some (.cells #[x0, x1] T (0, 0))) (v0 v1 : Value) :
    ((w.setCell ⟨q, 0, none⟩ v0).setCell ⟨q, 1, none⟩ v1).heap[q]? = some (.cells #[v0, v1] T (0, 0)) ∧ But q w ((w.setCell ⟨q, 0, none⟩ v0).setCell ⟨q, 1, none⟩ v1) := by
  refine ⟨?_, ((But.refl _ _).setCell 0 none v0).setCell 1 none v1⟩
  have := heap_setCell (heap_setCell h 0 v0) 1 v1
  simpa using this
/-- Block q is the document's reader in this state. -/
def RefAt (w : World) (q n : Nat) (s : Pack.St) : Prop := ∃ lk : List UInt8, w.heap[q]? = some (.cells #[.string ⟨lk.toArray⟩, .int .i64 s.err] 236 (0, 0)) ∧ Sim lk s ∧ lk.length ≤ n
theorem RefAt.lt {w : World} {q n : Nat} {s : Pack.St} (h : RefAt w q n s) : q < w.heap.size := by
  obtain ⟨lk, h, _⟩ := h
  exact (Array.getElem?_eq_some_iff.1 h).1
theorem RefAt.ext {w w' : World} {q n : Nat} {s : Pack.St} (h : RefAt w q n s) (hE : Ext w w') : RefAt w' q n s := by
  have hlt := h.lt
  obtain ⟨lk, h1, h2⟩ := h
  exact ⟨lk, (hE.block q hlt).trans h1, h2⟩
theorem RefAt.but {w w' : World} {q p n : Nat} {s : Pack.St} (h : RefAt w q n s) (hB : But p w w') (hne : q ≠ p) : RefAt w' q n s := by
  have hlt := h.lt
  obtain ⟨lk, h1, h2⟩ := h
  exact ⟨lk, (hB.block q hlt hne).trans h1, h2⟩
theorem RefAt.grown {w w' : World} {q n : Nat} {s : Pack.St} {o : Option Nat} (h : RefAt w q n s) (hg : w.grownBy w' o) (hne : some q ≠ o) : RefAt w' q n s := by
  have hlt := h.lt
  obtain ⟨lk, h1, h2⟩ := h
  exact ⟨lk, (hg.block q hlt hne).trans h1, h2⟩
theorem RefAt.set {w : World} {q n : Nat} {s : Pack.St} (h : RefAt w q n s) {l : List UInt8} {s' : Pack.St} (hs : Sim l s') (hl : l.length ≤ n) :
    RefAt ((w.setCell ⟨q, 0, none⟩ (.string ⟨l.toArray⟩)).setCell ⟨q, 1, none⟩ (.int .i64 s'.err)) q n s' ∧ But q w ((w.setCell ⟨q, 0, none⟩ (.string ⟨l.toArray⟩)).setCell ⟨q, 1, none⟩ (.int .i64 s'.err)) := by
  obtain ⟨lk, h1, h2⟩ := h
  have := set_two4 h1 (.string ⟨l.toArray⟩) (.int .i64 s'.err)
  exact ⟨⟨l, this.1, hs, hl⟩, this.2⟩
theorem RecAt.client {w : World} {p : Nat} {t : Value} {c c' n : Int} {ts : List Int} {d : List UInt8} (h : RecAt w p t ⟨c, n, ts, d⟩) : RecAt (w.setCell ⟨p, 0, none⟩ (.int .i64 c')) p t ⟨c', n, ts, d⟩ := by
  have := heap_setCell h 0 (.int .i64 c')
  unfold RecAt
  simpa using this
theorem RecAt.number {w : World} {p : Nat} {t : Value} {c n n' : Int} {ts : List Int} {d : List UInt8} (h : RecAt w p t ⟨c, n, ts, d⟩) : RecAt (w.setCell ⟨p, 1, none⟩ (.int .i64 n')) p t ⟨c, n', ts, d⟩ := by
  have := heap_setCell h 1 (.int .i64 n')
  unfold RecAt
  simpa using this

/- Layer 4, the program: rows of records, and which of them have a tag. -/
/-- A record stands here. -/
def RecHere (w : World) (b o : Nat) (r : Rec.R) : Prop :=
  ∃ t, w.cell? ⟨b, o, none⟩ = some (.int .i64 r.client) ∧ w.cell? ⟨b, o + 1, none⟩ = some (.int .i64 r.number) ∧ w.cell? ⟨b, o + 2, none⟩ = some t ∧ w.cell? ⟨b, o + 3, none⟩ = some (.string ⟨r.data.toArray⟩) ∧ Ints w t r.tags
theorem RecHere.below {w w' : World} {b o : Nat} {r : Rec.R} (h : RecHere w b o r) (hb : Below w.heap.size w w') : RecHere w' b o r := by
  obtain ⟨t, h1, h2, h3, h4, h5⟩ := h
  have key : ∀ i, w'.cell? ⟨b, i, none⟩ = w.cell? ⟨b, i, none⟩ := fun i => World.cell?_of_block (w := w) (hb.block b (World.block_lt_of_cell? w _ h1))
  exact ⟨t, (key _).trans h1, (key _).trans h2, (key _).trans h3, (key _).trans h4, h5.below hb⟩
/-- A slice of records reads as these. -/
def Recs (w : World) (v : Value) (l : List Rec.R) : Prop :=
  ∃ (a : Option Addr) (cap : Nat), v = .slice a l.length cap ∧ l.length ≤ cap ∧ cap ≤ maxLen ∧ (a = none → cap = 0) ∧ ∀ i (h : i < l.length), ∃ b off, a = some ⟨b, off, none⟩ ∧ RecHere w b (off + i * 4) l[i]
theorem Recs.below {w w' : World} {v : Value} {l : List Rec.R} (h : Recs w v l) (hb : Below w.heap.size w w') : Recs w' v l := by
  obtain ⟨a, cap, rfl, h1, h2, h4, h3⟩ := h
  refine ⟨a, cap, rfl, h1, h2, h4, fun i hi => ?_⟩
  obtain ⟨b, off, e, hc⟩ := h3 i hi
  exact ⟨b, off, e, hc.below hb⟩
/- Layer 4: rows of records behind one another. -/
/-- The cells of records, each with its tags' slice. -/
def recFlat (ps : List (Value × Rec.R)) : List Value := ps.flatMap fun p => [.int .i64 p.2.client, .int .i64 p.2.number, p.1, .string ⟨p.2.data.toArray⟩]
theorem recFlat_append (ps qs : List (Value × Rec.R)) : recFlat (ps ++ qs) = recFlat ps ++ recFlat qs := by simp [recFlat]
theorem recFlat_length (ps : List (Value × Rec.R)) : (recFlat ps).length = ps.length * 4 := by
  induction ps with
  | nil => rfl
  | cons p ps ih =>
    simp only [recFlat, List.flatMap_cons, List.length_append, List.length_cons, List.length_nil] at ih ⊢
    omega
theorem recFlat_at : ∀ (ps : List (Value × Rec.R)) (i j : Nat) (hi : i < ps.length), j < 4 → (recFlat ps)[i * 4 + j]? = [Value.int .i64 ps[i].2.client, .int .i64 ps[i].2.number, ps[i].1, .string ⟨ps[i].2.data.toArray⟩][j]? := by
  intro ps
  induction ps with
  | nil => intro i j hi; exact absurd hi (by simp)
  | cons p ps ih =>
    intro i j hi hj
    unfold recFlat
    rw [List.flatMap_cons]
    cases i with
    | zero => rw [Nat.zero_mul, Nat.zero_add, List.getElem?_append_left (by simpa using hj)]; rfl
    | succ i =>
      rw [List.getElem?_append_right (by simp; omega)]
      have e : (i + 1) * 4 + j - [Value.int IntKind.i64 p.2.client, .int .i64 p.2.number, p.1, .string ⟨p.2.data.toArray⟩].length = i * 4 + j := by
        simp only [List.length_cons, List.length_nil]
        omega
      rw [e]
      exact ih i j (by simpa using hi) hj
theorem recs_of_flat {w : World} {v : Value} {ps : List (Value × Rec.R)} (h1 : ∀ p ∈ ps, Ints w p.1 p.2.tags) (h2 : SlN 4 w v ps.length (recFlat ps)) : Recs w v (ps.map (·.2)) := by
  obtain ⟨a, cap, rfl, q1, q2, q4, q5, q3⟩ := h2
  refine ⟨a, cap, by simp, by simpa using q1, q2, q4, fun i hi => ?_⟩
  have hi' : i < ps.length := by simpa using hi
  have hl := recFlat_length ps
  have cell : ∀ j, j < 4 → ∃ b off, a = some ⟨b, off, none⟩ ∧ w.cell? ⟨b, off + (i * 4 + j), none⟩ = [Value.int .i64 ps[i].2.client, .int .i64 ps[i].2.number, ps[i].1, .string ⟨ps[i].2.data.toArray⟩][j]? := by
    intro j hj
    obtain ⟨b, off, e, hc⟩ := q3 (i * 4 + j) (by omega)
    have hx := recFlat_at ps i j hi' hj
    rw [List.getElem?_eq_getElem (by omega)] at hx
    exact ⟨b, off, e, hc.trans hx⟩
  obtain ⟨b, off, rfl, k0⟩ := cell 0 (by omega)
  have same : ∀ j, j < 4 → w.cell? ⟨b, off + (i * 4 + j), none⟩ = [Value.int .i64 ps[i].2.client, .int .i64 ps[i].2.number, ps[i].1, .string ⟨ps[i].2.data.toArray⟩][j]? := by
    intro j hj
    obtain ⟨b', off', e, hc⟩ := cell j hj
    injection e with e
    injection e with e1 e2
    subst e1 e2
    exact hc
  refine ⟨b, off, rfl, ps[i].1, ?_⟩
  simp only [List.getElem_map]
  exact ⟨same 0 (by omega), same 1 (by omega), same 2 (by omega), same 3 (by omega), h1 _ (List.getElem_mem _)⟩
theorem recFlat_one {w : World} {ps : List (Value × Rec.R)} (h : ∀ p ∈ ps, Ints w p.1 p.2.tags) : ∀ y ∈ recFlat ps, y.oneCell' = true := by
  intro y hy
  unfold recFlat at hy
  rw [List.mem_flatMap] at hy
  obtain ⟨p, hp, hy⟩ := hy
  obtain ⟨a, n, c, e⟩ := Ints.isSlice (h p hp)
  simp only [List.mem_cons, List.not_mem_nil, or_false] at hy
  rcases hy with rfl | rfl | rfl | rfl
  · rfl
  · rfl
  · rw [e]; rfl
  · rfl
theorem tR : ElemN Tryz.prog 175 27 (.agg #[.int .i64 0, .int .i64 0, .slice none 0 0, .string ⟨#[]⟩]) 4 56 := ⟨Tryz.underlying175, by kernel_rfl, rfl, by omega⟩
end Go.Proofs.YtaijgpdlgcgfaaaGreat

namespace Go.Proofs.YtaijgpdlgcgfaaaGreat
set_option linter.unusedSimpArgs false
set_option linter.unusedVariables false
set_option maxRecDepth 100000
open Go.ChangeShapes Go.WideShapes Go.ChangeAt Go.RowKit
/- Layer 4: a record out of what comes in. -/
section
variable {H : Type} {enc : TypeId × Value → H} {w : World} {base : Nat} {spare : Nat → Bool} {held : Bool}

theorem four_of {α : Type} {l : List α} (h : l.length = 4) : ∃ a b c d, l = [a, b, c, d] := by
  match l, h with
  | [a, b, c, d], _ => exact ⟨a, b, c, d, rfl⟩
theorem three_of {α : Type} {l : List α} (h : l.length = 3) : ∃ a b c, l = [a, b, c] := by
  match l, h with
  | [a, b, c], _ => exact ⟨a, b, c, rfl⟩
theorem two_ofR {α : Type} {l : List α} (h : l.length = 2) : ∃ a b, l = [a, b] := by
  match l, h with
  | [a, b], _ => exact ⟨a, b, rfl⟩
set_option maxRecDepth 100000 in
theorem id_of_raw {fuel : Nat} {cs : List Value} {x : DataW H × List MemPlace} (h : DataW.trod enc Tryz.prog w base spare held fuel 24 cs = some x) : ∃ c n : Int, cs = [.int .i64 c, .int .i64 n] := by
  obtain ⟨xs, n, _, rfl, hl, hlen, hf⟩ := DataW.trod_struct Tryz.underlying24 h
  have hc : Tryz.prog.cellsOf 24 = 2 := by kernel_rfl
  have hi : Tryz.prog.cellsOf 3 = 1 := by kernel_rfl
  rw [hc] at hl
  obtain ⟨c0, c1, rfl⟩ := two_ofR hl
  obtain ⟨y0, y1, rfl⟩ := two_ofR hlen
  have f0 := hf 0 _ rfl
  have f1 := hf 1 _ rfl
  simp only [hi, List.drop_zero, List.drop_succ_cons, List.take_succ_cons, List.take_zero, List.getElem?_cons_zero, List.getElem?_cons_succ] at f0 f1
  obtain ⟨n0, e0, _, _⟩ := DataW.trod_int Tryz.underlying3 f0
  obtain ⟨n1, e1, _, _⟩ := DataW.trod_int Tryz.underlying3 f1
  injection e0 with e0 _
  injection e1 with e1 _
  subst e0 e1
  exact ⟨n0, n1, rfl⟩
set_option maxRecDepth 100000 in
theorem rec_of_raw {fuel : Nat} {cs : List Value} {x : DataW H × List MemPlace} (h : DataW.trod enc Tryz.prog w base spare held fuel 27 cs = some x) :
    ∃ (t : Value) (r : Rec.R), cs = [.int .i64 r.client, .int .i64 r.number, t, .string ⟨r.data.toArray⟩] ∧ Ints w t r.tags := by
  obtain ⟨xs, n, _, rfl, hl, hlen, hf⟩ := DataW.trod_struct Tryz.underlying27 h
  have hc : Tryz.prog.cellsOf 27 = 4 := by kernel_rfl
  have hd : Tryz.prog.cellsOf 24 = 2 := by kernel_rfl
  have hi : Tryz.prog.cellsOf 3 = 1 := by kernel_rfl
  have hii : Tryz.prog.cellsOf 25 = 1 := by kernel_rfl
  have hs : Tryz.prog.cellsOf 9 = 1 := by kernel_rfl
  rw [hc] at hl
  obtain ⟨c0, c1, c2, c3, rfl⟩ := four_of hl
  obtain ⟨y0, y1, y2, rfl⟩ := three_of hlen
  have f0 := hf 0 _ rfl
  have f1 := hf 1 _ rfl
  have f2 := hf 2 _ rfl
  simp only [hd, hii, hs, List.drop_zero, List.drop_succ_cons, List.take_succ_cons, List.take_zero, List.getElem?_cons_zero, List.getElem?_cons_succ] at f0 f1 f2
  obtain ⟨n0, n1, e0⟩ := id_of_raw f0
  obtain ⟨v, l, e1, hv⟩ := ints_of_raw Tryz.underlying25 Tryz.underlying3 hi f1
  obtain ⟨s, e2, _, _⟩ := DataW.trod_string Tryz.underlying9 f2
  injection e0 with e00 e0
  injection e0 with e01 _
  injection e1 with e1 _
  injection e2 with e2 _
  subst e00 e01 e1 e2
  exact ⟨_, ⟨n0, n1, l, s.data.toList⟩, by simp, hv⟩
end
end Go.Proofs.YtaijgpdlgcgfaaaGreat

namespace Go.Proofs.YtaijgpdlgcgfaaaGreat
set_option maxRecDepth 100000
open Go.RowKit
/- Layer 4: what Decode leaves of what was encoded. -/
/-- A record's value, opened. -/
theorem IsRec.shape {w : World} {v : Value} {r : Rec.R} (h : IsRec w v r) : ∃ a n c, v = .agg #[.int .i64 r.client, .int .i64 r.number, .slice a n c, .string ⟨r.data.toArray⟩] := by
  obtain ⟨t, rfl, ht⟩ := h
  obtain ⟨a, c, rfl, _⟩ := ht.open
  exact ⟨_, _, _, rfl⟩
theorem cells4 {w : World} {p : Nat} {x0 x1 x2 x3 : Value} {T : TypeId} {fr : Nat × Nat} (h : w.heap[p]? = some (.cells #[x0, x1, x2, x3] T fr)) : w.cell? ⟨p, 0, none⟩ = some x0 ∧ w.cell? ⟨p, 1, none⟩ = some x1 ∧ w.cell? ⟨p, 2, none⟩ = some x2 ∧ w.cell? ⟨p, 3, none⟩ = some x3 :=
  ⟨cell_of_heap h 0, cell_of_heap h 1, cell_of_heap h 2, cell_of_heap h 3⟩
/- Layer 4: the statements' own small call. -/
end Go.Proofs.YtaijgpdlgcgfaaaGreat

namespace Go.Proofs.YtaijgpdlgcgfaaaGreat
set_option linter.unusedSimpArgs false
set_option linter.unusedVariables false
set_option maxRecDepth 100000
open Go.ChangeShapes Go.WideShapes Go.ChangeAt Go.RowKit
/- Layer 4: records, rows of records and places, out of what comes in. -/
section
variable {H : Type} {enc : TypeId × Value → H} {w : World} {base : Nat} {spare : Nat → Bool} {held : Bool}

end
end Go.Proofs.YtaijgpdlgcgfaaaGreat
