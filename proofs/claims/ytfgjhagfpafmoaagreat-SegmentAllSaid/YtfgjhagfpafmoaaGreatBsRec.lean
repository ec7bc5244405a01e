/-
  Merged: Layer 4, the program: which records may be; Layer 4, the program: records as bytes; Layer 4, the program: bytes as records; Layer 4, the program: tags, sameness, places; Layer 4, the program: one record, or two; Layer 4: bytes as records: the document's own answer; Layer 4, the program: rows of records, and which of them have a tag; Layer 4: rows of records behind one another; Layer 4: what Decode leaves of what was encoded; Layer 4: a record out of what comes in; Layer 4: the statements' own small call; Layer 4: records, rows of records and places, out of what comes in.
-/
import Derived.Lib.ConvBytes
import Derived.Deep.RegionLaw
import Derived.Deep.RegionHeld3
import Derived.Test.YtfgjhagfpafmoaaGreatRows
import Derived.Test.YtfgjhagfpafmoaaGreatChecked
import Derived.SizedLaws
import Derived.Test.YtfgjhagfpafmoaaGreatBsLib
import Derived.Test.YtfgjhagfpafmoaaGreatBsMath
import Derived.Test.YtfgjhagfpafmoaaGreatBsPack
import Derived.Test.YtfgjhagfpafmoaaGreatBsPack2
import Derived.Test.YtfgjhagfpafmoaaGreatBsVec
import Derived.Test.YtfgjhagfpafmoaaGreatCrcPut
import Derived.Test.YtfgjhagfpafmoaaGreatCrcRef
import Derived.Test.YtfgjhagfpafmoaaGreatLibW

set_option linter.unusedSimpArgs false
set_option linter.unusedVariables false

namespace Go.Proofs.YtfgjhagfpafmoaaGreat
set_option maxRecDepth 100000
open Go.RowKit
/- Layer 4, the program: which records may be. -/
/-- A record, by value: its tags' slice, and what it holds. -/
def recV (t : Value) (r : Rec.R) : Value := .agg #[.int .i64 r.client, .int .i64 r.number, t, .string ⟨r.data.toArray⟩]
def IsRec (w : World) (v : Value) (r : Rec.R) : Prop := ∃ t, v = recV t r ∧ Ints w t r.tags
theorem IsRec.below {w w' : World} {v : Value} {r : Rec.R} (h : IsRec w v r) (hb : Below w.heap.size w w') : IsRec w' v r := by
  obtain ⟨t, rfl, h⟩ := h
  exact ⟨t, rfl, h.below hb⟩
theorem box_rec (w : World) (c n : Int) (t : Value) (s : ByteArray) : (Instr.box 44 (.agg #[.int .i64 c, .int .i64 n, t, .string s])).run Tryz.prog w = .ok (.pointer (some ⟨w.heap.size, 0, none⟩)) (w.alloc (.cells #[.int .i64 c, .int .i64 n, t, .string s] 44)) := by kernel_rfl

def Rec.tagsOk (ns : List Int) : Bool := decide (ns.length ≤ 8) && Rec.rising 0 ns
theorem Rec.right_eq (r : Rec.R) : Rec.right r = (Rec.okId r.client && (Rec.okId r.number && (Rec.tagsOk r.tags && decide (r.data.length ≤ 1024)))) := by
  unfold Rec.right Rec.tagsOk
  have e : decide (r.tags.length ≤ 8 ∧ r.data.length ≤ 1024) = (decide (r.tags.length ≤ 8) && decide (r.data.length ≤ 1024)) := by rw [Bool.decide_and]
  rw [e]
  cases Rec.okId r.client <;> cases Rec.okId r.number <;> cases Rec.rising 0 r.tags <;> cases decide (r.tags.length ≤ 8) <;> cases decide (r.data.length ≤ 1024) <;> rfl

set_option maxHeartbeats 1000000 in
theorem isCount4_any (n : Int) (w : World) : Calls Tryz.prog 119 #[.int .i64 n] w fun e w' => e = .returned (.bool (Rec.okId n)) ∧ w = w' := by
  by_cases h0 : 0 ≤ n
  · by_cases h1 : n ≤ 1099511627776
    · have e : Rec.okId n = true := by unfold Rec.okId; simp; omega
      rw [e]
      clear e
      go_enter Tryz.func119, Tryz.ntmps119
      go_wp2
      go_ret
      exact ⟨rfl, rfl⟩
    · have e : Rec.okId n = false := by unfold Rec.okId; simp; omega
      rw [e]
      clear e
      go_enter Tryz.func119, Tryz.ntmps119
      go_wp2
      go_ret
      exact ⟨rfl, rfl⟩
  · have e : Rec.okId n = false := by unfold Rec.okId; simp; omega
    rw [e]
    clear e
    go_enter Tryz.func119, Tryz.ntmps119
    go_wp2
    go_ret
    exact ⟨rfl, rfl⟩

/-- The last of the first k, or 0. -/
def Rec.lastOf (l : List Int) : Int := l.getLast?.getD 0
theorem Rec.rising_snoc (last : Int) (l : List Int) (x : Int) : Rec.rising last (l ++ [x]) = (Rec.rising last l && decide ((if l = [] then last else Rec.lastOf l) < x ∧ x ≤ 1073741824)) := by
  induction l generalizing last with
  | nil => simp [Rec.rising]
  | cons t l ih =>
    have e : (if l = [] then t else Rec.lastOf l) = Rec.lastOf (t :: l) := by
      cases l with
      | nil => rfl
      | cons a l => simp [Rec.lastOf, List.getLast?_cons]
    simp only [List.cons_append, Rec.rising, ih, e, Bool.and_assoc, if_neg (List.cons_ne_nil t l)]
theorem Rec.rising_snoc0 (l : List Int) (x : Int) : Rec.rising 0 (l ++ [x]) = (Rec.rising 0 l && decide (Rec.lastOf l < x ∧ x ≤ 1073741824)) := by
  rw [Rec.rising_snoc]
  cases l with
  | nil => rfl
  | cons a l => rw [if_neg (List.cons_ne_nil a l)]
theorem Rec.lastOf_snoc (l : List Int) (x : Int) : Rec.lastOf (l ++ [x]) = x := by
  simp [Rec.lastOf]
theorem Rec.rising_take {l : List Int} (k : Nat) (h : Rec.rising 0 (l.take k) = false) : Rec.rising 0 l = false := by
  have key : ∀ (l : List Int) (last : Int) (k : Nat), Rec.rising last (l.take k) = false → Rec.rising last l = false := by
    intro l
    induction l with
    | nil => intro last k h; simpa using h
    | cons t l ih =>
      intro last k h
      cases k with
      | zero => simp [Rec.rising] at h
      | succ k =>
        simp only [List.take_succ_cons, Rec.rising, Bool.and_eq_false_iff] at h ⊢
        rcases h with h | h
        · exact .inl h
        · exact .inr (ih t k h)
  exact key l 0 k h

set_option maxHeartbeats 2000000 in
theorem areTags_any (v : Value) (ns : List Int) (w : World) (hv : Ints w v ns) :
    Calls Tryz.prog 120 #[v] w fun e w' => e = .returned (.bool (Rec.tagsOk ns)) ∧ w = w' := by
  obtain ⟨a, cap, rfl, hcap, hmax, _, hc⟩ := hv.open
  unfold maxLen at hmax
  by_cases h8 : (8 : Int) < (ns.length : Int)
  · have e : Rec.tagsOk ns = false := by unfold Rec.tagsOk; rw [decide_eq_false (by omega)]; rfl
    rw [e]
    clear e hc hv
    go_enter Tryz.func120, Tryz.ntmps120
    go_wp2
    go_ret
    exact ⟨rfl, rfl⟩
  · have e : Rec.tagsOk ns = Rec.rising 0 ns := by unfold Rec.tagsOk; rw [decide_eq_true (by omega)]; rfl
    rw [e]
    clear e hv
    go_enter Tryz.func120, Tryz.ntmps120
    go_wp2
    go_loop [3, 5, 11] (fun s _ i => ∃ k : Nat, k ≤ ns.length ∧ i = .int .i64 k ∧ (∃ m : Int, s = .int .i64 m ∧ Hid (m = Rec.lastOf (ns.take k))) ∧ Hid (Rec.rising 0 (ns.take k) = true)) (fun _ _ i => ns.length - (intOf i).toNat)
    case atStart => exact ⟨0, by omega, rfl, ⟨0, rfl, rfl⟩, rfl⟩
    case round =>
      obtain ⟨k, hk, rfl, ⟨m, rfl, hm⟩, hr⟩ := hrel
      by_cases hlt : k < ns.length
      · obtain ⟨b, off, rfl, hcell⟩ := hc k hlt
        clear hc
        have hnext : Rec.rising 0 (ns.take (k + 1)) = decide (m < ns[k] ∧ ns[k] ≤ 1073741824) := by
          rw [take_succ_getD ns k hlt, Rec.rising_snoc0, hr.out, hm.out]
          rfl
        have hlast : Rec.lastOf (ns.take (k + 1)) = ns[k] := by rw [take_succ_getD ns k hlt, Rec.lastOf_snoc]
        by_cases h0 : ns[k] ≤ m
        · have e := Lib.hid (Rec.rising_take (l := ns) (k + 1) (by rw [hnext]; simp; omega))
          clear hnext hlast
          go_wp2
          go_ret
          exact ⟨by rw [e.out]; rfl, rfl⟩
        · by_cases h1 : (1073741824 : Int) < ns[k]
          · have e := Lib.hid (Rec.rising_take (l := ns) (k + 1) (by rw [hnext]; simp; omega))
            clear hnext hlast
            go_wp2
            go_ret
            exact ⟨by rw [e.out]; rfl, rfl⟩
          · have ok := Lib.hid (show Rec.rising 0 (ns.take (k + 1)) = true by rw [hnext]; simp; omega)
            have HL := Lib.hid hlast
            clear hnext hlast
            go_wp2
            go_round
            case rel => exact ⟨k + 1, by omega, by go_num, ⟨_, rfl, HL.out.symm⟩, ok⟩
            case measure => simp [intOf]; omega
      · have hs : Hid (Rec.rising 0 ns = true) := by
          have := hr.out; rw [List.take_of_length_le (by omega)] at this; exact this
        clear hr hc hm
        go_wp2
        go_ret
        exact ⟨by rw [hs.out]; rfl, rfl⟩

set_option maxHeartbeats 2000000 in
theorem right4_any (v : Value) (r : Rec.R) (w : World) (hv : IsRec w v r) :
    Calls Tryz.prog 74 #[v] w fun e w' => e = .returned (.bool (Rec.right r)) ∧ Ext w w' := by
  obtain ⟨t, rfl, ht⟩ := hv
  have hbx := box_rec
  unfold recV
  rw [Rec.right_eq]
  have HT := Lib.hid ht
  obtain ⟨a, cap, rfl, hcap, hmax, _, _⟩ := ht.open
  unfold maxLen at hmax
  have hs := str_len r.data
  clear ht
  cases h1 : Rec.okId r.client with
  | false =>
    have H1 := Lib.hid h1
    clear h1
    go_enter Tryz.func74, Tryz.ntmps74
    go_wp2_with fail
    refine (isCount4_any _ _).mono ?_
    rintro e w1 ⟨rfl, rfl⟩
    rw [H1.out]
    go_wp2_with fail
    go_ret
    exact ⟨rfl, Ext.alloc _ _⟩
  | true =>
    cases h2 : Rec.okId r.number with
    | false =>
      have H1 := Lib.hid h1
      have H2 := Lib.hid h2
      clear h1 h2
      go_enter Tryz.func74, Tryz.ntmps74
      go_wp2_with fail
      refine (isCount4_any _ _).mono ?_
      rintro e w1 ⟨rfl, rfl⟩
      rw [H1.out]
      go_wp2_with fail
      refine (isCount4_any _ _).mono ?_
      rintro e w1 ⟨rfl, rfl⟩
      rw [H2.out]
      go_wp2_with fail
      go_ret
      exact ⟨rfl, Ext.alloc _ _⟩
    | true =>
      cases h3 : Rec.tagsOk r.tags with
      | false =>
        have H1 := Lib.hid h1
        have H2 := Lib.hid h2
        have H3 := Lib.hid h3
        clear h1 h2 h3
        go_enter Tryz.func74, Tryz.ntmps74
        go_wp2_with fail
        refine (isCount4_any _ _).mono ?_
        rintro e w1 ⟨rfl, rfl⟩
        rw [H1.out]
        go_wp2_with fail
        refine (isCount4_any _ _).mono ?_
        rintro e w1 ⟨rfl, rfl⟩
        rw [H2.out]
        go_wp2_with fail
        refine (areTags_any _ r.tags _ (HT.out.below (Ext.alloc _ _))).mono ?_
        rintro e w1 ⟨rfl, rfl⟩
        rw [H3.out]
        go_wp2_with fail
        go_ret
        exact ⟨rfl, Ext.alloc _ _⟩
      | true =>
        have H1 := Lib.hid h1
        have H2 := Lib.hid h2
        have H3 := Lib.hid h3
        clear h1 h2 h3
        have hd : decide (r.data.length ≤ 1024) = decide ((r.data.length : Int) ≤ 1024) := by
          rw [Bool.eq_iff_iff, decide_eq_true_eq, decide_eq_true_eq]
          omega
        have hd' := Lib.hid hd
        clear hd
        go_enter Tryz.func74, Tryz.ntmps74
        go_wp2_with fail
        refine (isCount4_any _ _).mono ?_
        rintro e w1 ⟨rfl, rfl⟩
        rw [H1.out]
        go_wp2_with fail
        refine (isCount4_any _ _).mono ?_
        rintro e w1 ⟨rfl, rfl⟩
        rw [H2.out]
        go_wp2_with fail
        refine (areTags_any _ r.tags _ (HT.out.below (Ext.alloc _ _))).mono ?_
        rintro e w1 ⟨rfl, rfl⟩
        rw [H3.out]
        go_wp2_with fail
        go_ret
        exact ⟨by rw [hd'.out]; rfl, Ext.alloc _ _⟩

set_option maxHeartbeats 4000000 in
theorem refRight4_any (v : Value) (r : Rec.R) (w : World) (hv : IsRec w v r) :
    Calls Tryz.prog 86 #[v] w fun e w' => e = .returned (.bool (Rec.right r)) ∧ Ext w w' := by
  obtain ⟨t, rfl, ht⟩ := hv
  have hbx := box_rec
  unfold recV
  obtain ⟨a, cap, rfl, hcap, hmax, _, hc⟩ := ht.open
  unfold maxLen at hmax
  have hs := str_len r.data
  have HT := Lib.hid ht
  clear ht hc
  by_cases c0 : r.client < 0
  · have e := Lib.hid (show Rec.right r = false by rw [Rec.right_eq]; unfold Rec.okId; simp; omega)
    go_enter Tryz.func86, Tryz.ntmps86
    go_wp2
    go_ret
    exact ⟨by rw [e.out]; rfl, Ext.alloc _ _⟩
  by_cases c1 : (1099511627776 : Int) < r.client
  · have e := Lib.hid (show Rec.right r = false by rw [Rec.right_eq]; unfold Rec.okId; simp; omega)
    go_enter Tryz.func86, Tryz.ntmps86
    go_wp2
    go_ret
    exact ⟨by rw [e.out]; rfl, Ext.alloc _ _⟩
  by_cases c2 : r.number < 0
  · have e := Lib.hid (show Rec.right r = false by rw [Rec.right_eq]; unfold Rec.okId; simp; omega)
    go_enter Tryz.func86, Tryz.ntmps86
    go_wp2
    go_ret
    exact ⟨by rw [e.out]; rfl, Ext.alloc _ _⟩
  by_cases c3 : (1099511627776 : Int) < r.number
  · have e := Lib.hid (show Rec.right r = false by rw [Rec.right_eq]; unfold Rec.okId; simp; omega)
    go_enter Tryz.func86, Tryz.ntmps86
    go_wp2
    go_ret
    exact ⟨by rw [e.out]; rfl, Ext.alloc _ _⟩
  have hid : Rec.right r = (Rec.tagsOk r.tags && decide (r.data.length ≤ 1024)) := by
    rw [Rec.right_eq]
    rw [show Rec.okId r.client = true from by unfold Rec.okId; simp; omega, show Rec.okId r.number = true from by unfold Rec.okId; simp; omega]
    rfl
  have HID := Lib.hid hid
  clear hid
  go_enter Tryz.func86, Tryz.ntmps86
  go_wp2
  have HT2 := Lib.hid (HT.out.below (Ext.alloc w (.cells #[.int .i64 r.client, .int .i64 r.number, .slice a r.tags.length cap, .string ⟨r.data.toArray⟩] 44)))
  go_loop [3, 4] (fun s i => ∃ k : Nat, k ≤ r.tags.length ∧ i = .int .i64 k ∧ (∃ m : Int, s = .int .i64 m ∧ Hid (m = Rec.lastOf (r.tags.take k))) ∧ Hid (Rec.rising 0 (r.tags.take k) = true)) (fun _ i => r.tags.length - (intOf i).toNat)
  case atStart => exact ⟨0, by omega, rfl, ⟨0, rfl, rfl⟩, rfl⟩
  case round =>
    obtain ⟨k, hk, rfl, ⟨m, rfl, hm⟩, hr⟩ := hrel
    by_cases hlt : k < r.tags.length
    · obtain ⟨a', cap', e', _, _, _, hc⟩ := HT2.out.open
      obtain ⟨b, off, rfl, hcell⟩ := hc k hlt
      injection e' with e1 e2 e3
      subst e1
      clear hc e2 e3
      have hnext : Rec.rising 0 (r.tags.take (k + 1)) = decide (m < r.tags[k] ∧ r.tags[k] ≤ 1073741824) := by
        rw [take_succ_getD r.tags k hlt, Rec.rising_snoc0, hr.out, hm.out]
        rfl
      have hlast : Rec.lastOf (r.tags.take (k + 1)) = r.tags[k] := by rw [take_succ_getD r.tags k hlt, Rec.lastOf_snoc]
      have bad : Rec.rising 0 (r.tags.take (k + 1)) = false → Rec.right r = false := by
        intro h
        rw [HID.out]
        unfold Rec.tagsOk
        rw [Rec.rising_take (k + 1) h]
        simp
      by_cases h0 : r.tags[k] ≤ m
      · have e := Lib.hid (bad (by rw [hnext]; simp; omega))
        clear hnext hlast bad
        go_wp2
        go_ret
        exact ⟨by rw [e.out]; rfl, Ext.alloc _ _⟩
      · by_cases h1 : (1073741824 : Int) < r.tags[k]
        · have e := Lib.hid (bad (by rw [hnext]; simp; omega))
          clear hnext hlast bad
          go_wp2
          go_ret
          exact ⟨by rw [e.out]; rfl, Ext.alloc _ _⟩
        · have ok := Lib.hid (show Rec.rising 0 (r.tags.take (k + 1)) = true by rw [hnext]; simp; omega)
          have HL := Lib.hid hlast
          clear hnext hlast bad
          go_wp2
          go_round
          case rel => exact ⟨k + 1, by omega, by go_num, ⟨_, rfl, HL.out.symm⟩, ok⟩
          case measure => simp [intOf]; omega
    · have hs2 : Hid (Rec.rising 0 r.tags = true) := by
        have := hr.out; rw [List.take_of_length_le (by omega)] at this; exact this
      clear hr hm
      by_cases g8 : (r.tags.length : Int) ≤ 8
      · have e := Lib.hid (show Rec.right r = decide ((r.data.length : Int) ≤ 1024) by
          rw [HID.out]; unfold Rec.tagsOk
          rw [hs2.out, decide_eq_true (by omega), Bool.eq_iff_iff]
          simp
          omega)
        go_wp2
        go_ret
        exact ⟨by rw [e.out]; rfl, Ext.alloc _ _⟩
      · have e := Lib.hid (show Rec.right r = false by
          rw [HID.out]; unfold Rec.tagsOk
          rw [decide_eq_false (by omega)]
          rfl)
        go_wp2
        go_ret
        exact ⟨by rw [e.out]; rfl, Ext.alloc _ _⟩
set_option linter.unusedSimpArgs false
set_option linter.unusedVariables false
/- Layer 4, the program: records as bytes. -/
/-- Block p is a record. -/
def RecAt (w : World) (p : Nat) (t : Value) (r : Rec.R) : Prop := w.heap[p]? = some (.cells #[.int .i64 r.client, .int .i64 r.number, t, .string ⟨r.data.toArray⟩] 44 (0, 0))
theorem RecAt.new (w : World) (t : Value) (r : Rec.R) : RecAt (w.alloc (.cells #[.int .i64 r.client, .int .i64 r.number, t, .string ⟨r.data.toArray⟩] 44)) w.heap.size t r := heap_alloc_new w _
theorem RecAt.lt {w : World} {p : Nat} {t : Value} {r : Rec.R} (h : RecAt w p t r) : p < w.heap.size := (Array.getElem?_eq_some_iff.1 h).1
theorem RecAt.ext {w w' : World} {p : Nat} {t : Value} {r : Rec.R} (h : RecAt w p t r) (hE : Ext w w') : RecAt w' p t r := (hE.block p h.lt).trans h
theorem RecAt.but {w w' : World} {p q : Nat} {t : Value} {r : Rec.R} (h : RecAt w p t r) (hB : But q w w') (hne : p ≠ q) : RecAt w' p t r := (hB.block p h.lt hne).trans h
theorem RecAt.cells {w : World} {p : Nat} {t : Value} {r : Rec.R} (h : RecAt w p t r) : w.cell? ⟨p, 0, none⟩ = some (.int .i64 r.client) ∧ w.cell? ⟨p, 1, none⟩ = some (.int .i64 r.number) ∧ w.cell? ⟨p, 2, none⟩ = some t ∧ w.cell? ⟨p, 3, none⟩ = some (.string ⟨r.data.toArray⟩) :=
  ⟨cell_of_heap h 0, cell_of_heap h 1, cell_of_heap h 2, cell_of_heap h 3⟩

def recErr : Bool → Int
  | true => 0
  | false => 40
@[simp] theorem recErr_true : recErr true = 0 := rfl
@[simp] theorem recErr_false : recErr false = 40 := rfl
def GivesEnc4 (w : World) (r : Rec.R) (e : Ending) (w' : World) : Prop := ∃ u, e = .returned (.tuple #[u, .int .i64 (recErr (Rec.right r))]) ∧ Bytes w' u (bytesOr (Rec.right r) (Rec.enc r)) ∧ Ext w w'

theorem ints_lit3 (w : World) (x y z : Int) : Ints (w.alloc (.cells #[.int .i64 x, .int .i64 y, .int .i64 z] 3)) (.slice (some ⟨w.heap.size, 0, none⟩) 3 3) [x, y, z] :=
  Sl.made w (i64s [x, y, z]) 3 3 (by simp) (by simp [maxLen]) (fr := (0, 0))
theorem okNum_of {n : Int} (h : 0 ≤ n ∧ n ≤ 4611686018427387904) : okNum n = true := by
  unfold okNum
  rw [decide_eq_true_eq]
  omega
theorem text_nums (r : Rec.R) : Rec.text r = (nums [r.client, r.number, (r.tags.length : Int)] ++ nums r.tags) ++ (Pack.num r.data.length ++ r.data) := by
  have e : ∀ l : List Int, Rec.numsOf l = nums l := fun _ => rfl
  unfold Rec.text
  rw [e]
  simp [nums]

set_option maxHeartbeats 4000000 in
theorem encode4_any (v : Value) (r : Rec.R) (w : World) (hv : IsRec w v r) : Calls Tryz.prog 75 #[v] w (GivesEnc4 w r) := by
  have hbx := box_rec
  have hr4 := fun w1 hv => right4_any v r w1 hv
  have HV := Lib.hid hv
  obtain ⟨t, rfl, ht⟩ := hv
  unfold recV at *
  obtain ⟨a, cap, rfl, hcap, hmax, _, _⟩ := ht.open
  unfold maxLen at hmax
  have HT := Lib.hid ht
  clear ht
  have hE0 : Ext w (w.alloc (.cells #[.int .i64 r.client, .int .i64 r.number, .slice a r.tags.length cap, .string ⟨r.data.toArray⟩] 44)) := Ext.alloc _ _
  have HA0 := Lib.hid (RecAt.new w (.slice a r.tags.length cap) r)
  unfold GivesEnc4
  cases hr : Rec.right r with
  | false =>
    have HR := Lib.hid hr
    clear hr
    go_enter Tryz.func75, Tryz.ntmps75
    go_wp2_with fail
    refine (hr4 _ (HV.out.below hE0)).mono ?_
    rintro e w1 ⟨rfl, hE1⟩
    rw [HR.out]
    go_wp2_with fail
    go_ret2
    exact ⟨_, rfl, bytes_none _, hE0.trans hE1⟩
  | true =>
    have HR := Lib.hid hr
    obtain ⟨q1, q2, q3, q4, q5, q6⟩ := Rec.right_ok hr
    have hall1 : [r.client, r.number, (r.tags.length : Int)].all okNum = true := by
      simp only [List.all_cons, List.all_nil, Bool.and_true]
      rw [okNum_of (by omega), okNum_of (by omega), okNum_of (by omega)]
      rfl
    have hall2 : r.tags.all okNum = true := by
      rw [List.all_eq_true]
      intro x hx
      have := q4 x hx
      exact okNum_of (by omega)
    have hl1 := nums_le _ hall1
    have hl2 := nums_le _ hall2
    have hl3 := Pack.num_nine (n := r.data.length) (by omega)
    simp only [List.length_cons, List.length_nil] at hl1
    have HT1 := Lib.hid (text_nums r)
    have HA1 := Lib.hid hall1
    have HA2 := Lib.hid hall2
    have HQ := Lib.hid (And.intro q5 (And.intro q6 (And.intro hl1 (And.intro hl2 hl3))))
    have hlen63 : r.data.length ≤ 9223372036854775807 := by omega
    clear hr hall1 hall2 q1 q2 q3 q4 hl1 hl2 hl3
    go_enter Tryz.func75, Tryz.ntmps75
    go_wp2_with fail
    refine (hr4 _ (HV.out.below hE0)).mono ?_
    rintro e w1 ⟨rfl, hE1⟩
    rw [HR.out]
    have a1 := Lib.hid (HA0.out.ext hE1)
    obtain ⟨c0, c1, c2, c3⟩ := a1.out.cells
    have e1 := hE0.trans hE1
    go_wp2_with fail
    refine (packNum_any (.slice none 0 0) _ [] [r.client, r.number, (r.tags.length : Int)] _ (bytes_none _) (ints_lit3 w1 _ _ _) (by simp) (by simp)).mono ?_
    rw [HA1.out, if_pos rfl, List.nil_append]
    rintro e w2 ⟨v2, rfl, ho2, hE2⟩
    have hE2' : Ext w1 w2 := (Ext.alloc _ _).trans hE2
    have a2 := Lib.hid (a1.out.ext hE2')
    obtain ⟨c0', c1', c2', c3'⟩ := a2.out.cells
    have e2 := e1.trans hE2'
    clear c0 c1 c2 c3
    go_wp2_with fail
    refine (packNum_any v2 _ _ r.tags _ ho2.bytes (HT.out.below e2) (by have := HQ.out; omega) (by omega)).mono ?_
    rw [HA2.out, if_pos rfl]
    rintro e w3 ⟨v3, rfl, ho3, hE3⟩
    have a3 := Lib.hid (a2.out.ext hE3)
    obtain ⟨c0, c1, c2, c3⟩ := a3.out.cells
    have e3 := e2.trans hE3
    clear c0' c1' c2' c3'
    go_wp2_with fail
    refine (packText_any v3 _ r.data _ ho3.bytes (by have := HQ.out; rw [List.length_append]; omega) hlen63).mono ?_
    rw [if_pos (by omega), decide_eq_true (by omega), ← HT1.out]
    rintro e w4 ⟨v4, rfl, ho4, hE4⟩
    have e4 := e3.trans hE4
    clear c0 c1 c2 c3
    go_wp2_with fail
    refine (new_any _).mono ?_
    rintro e w5 ⟨rfl, ht5, hE5⟩
    have e5 := e4.trans hE5
    go_wp2_with fail
    refine (put_any _ 0 0 v4 (Rec.text r) _ ht5 (.inl rfl) (ho4.bytes.below hE5) (by have := HQ.out; rw [HT1.out]; simp only [List.length_append]; omega)).mono ?_
    rintro e w6 ⟨v6, d6, rfl, hb6, hB6, hd6, ht6⟩
    have e6 : Ext w w6 := Below.trans (B := w.heap.size) e5 (hB6.below e4.size (Nat.le_trans e4.size hE5.size))
    go_wp2_with fail
    go_ret2
    exact ⟨_, rfl, hb6, e6⟩

theorem nums_take_next (ns : List Int) (k : Nat) (hk : k < ns.length) (ho : okNum ns[k] = true) : nums (ns.take (k + 1)) = nums (ns.take k) ++ oneNum ns[k] := by
  rw [take_succ_getD ns k hk, nums_snoc]
  unfold oneNum
  rw [if_pos ho]
theorem Yield.ld {P : Program} {o : Oper} {ev : Operand → Value} {w : World} {R : Value → World → Prop} {t : TypeId} {x : Operand} {u v : Value} {w' : World} (ho : o.op = .load t x) (hx : ev x = u) (hr : (Instr.loadAt t u).run P w = .ok v w') (h : R v w') : Yield P o ev w R := by
  unfold Yield execOp
  simp only [ho, hx, Sem.run_bind, hr, Result.andThen_ok, Sem.run_pure]
  exact h
theorem ld_int {w : World} {q i : Nat} {n : Int} (h : w.cell? ⟨q, i, none⟩ = some (.int .i64 n)) : (Instr.loadAt 3 (.pointer (some ⟨q, i, none⟩))).run Tryz.prog w = .ok (.int .i64 n) w := by simp [go_sem, h]
theorem ld_ints {w : World} {q i : Nat} {a : Option Addr} {n c : Nat} (h : w.cell? ⟨q, i, none⟩ = some (.slice a n c)) : (Instr.loadAt 42 (.pointer (some ⟨q, i, none⟩))).run Tryz.prog w = .ok (.slice a n c) w := by simp [go_sem, h]
set_option maxHeartbeats 4000000 in
theorem textRef4_any (v : Value) (r : Rec.R) (w : World) (hv : IsRec w v r) (hr : Rec.right r = true) :
    Calls Tryz.prog 134 #[v] w fun e w' => e = .returned (.string ⟨(Rec.text r).toArray⟩) ∧ Ext w w' := by
  have hbx := box_rec
  obtain ⟨t, rfl, ht⟩ := hv
  unfold recV at *
  obtain ⟨a, cap, rfl, hcap, hmax, _, _⟩ := ht.open
  unfold maxLen at hmax
  have HT := Lib.hid ht
  clear ht
  obtain ⟨q1, q2, q3, q4, q5, q6⟩ := Rec.right_ok hr
  have o1 : oneNum r.client = Pack.num r.client.toNat := by unfold oneNum; rw [if_pos (okNum_of (by omega))]
  have o2 : oneNum r.number = Pack.num r.number.toNat := by unfold oneNum; rw [if_pos (okNum_of (by omega))]
  have o3 : oneNum (r.tags.length : Int) = Pack.num r.tags.length := by unfold oneNum; rw [if_pos (okNum_of (by omega))]; rfl
  have n1 := Pack.num_nine (n := r.client.toNat) (by omega)
  have n2 := Pack.num_nine (n := r.number.toNat) (by omega)
  have n3 := Pack.num_nine (n := r.tags.length) (by omega)
  have n4 := Pack.num_nine (n := r.data.length) (by omega)
  have hall : r.tags.all okNum = true := by
    rw [List.all_eq_true]
    intro x hx
    have := q4 x hx
    exact okNum_of (by omega)
  obtain ⟨A, hA⟩ : ∃ A, Pack.num r.client.toNat = A := ⟨_, rfl⟩
  obtain ⟨B, hB⟩ : ∃ B, Pack.num r.number.toNat = B := ⟨_, rfl⟩
  obtain ⟨C, hC⟩ : ∃ C, Pack.num r.tags.length = C := ⟨_, rfl⟩
  rw [hA] at o1 n1
  rw [hB] at o2 n2
  rw [hC] at o3 n3
  have HO1 := Lib.hid o1
  have HO2 := Lib.hid o2
  have HO3 := Lib.hid o3
  have HALL := Lib.hid hall
  have HABC := Lib.hid (And.intro hA (And.intro hB hC))
  have H4 := Lib.hid n4
  have hE0 : Ext w (w.alloc (.cells #[.int .i64 r.client, .int .i64 r.number, .slice a r.tags.length cap, .string ⟨r.data.toArray⟩] 44)) := Ext.alloc _ _
  have HA0 := Lib.hid (RecAt.new w (.slice a r.tags.length cap) r)
  clear o1 o2 o3 hA hB hC hall hr q1 q2 q3 q4 n4
  have hsA := str_len A
  have hsB := str_len B
  have hsC := str_len C
  obtain ⟨AB, hAB⟩ : ∃ AB, A ++ B = AB := ⟨_, rfl⟩
  obtain ⟨ABC, hABC⟩ : ∃ ABC, AB ++ C = ABC := ⟨_, rfl⟩
  have hsAB := str_len AB
  have hlAB : AB.length ≤ 18 := by rw [← hAB, List.length_append]; omega
  have hlABC : ABC.length ≤ 27 := by rw [← hABC, List.length_append]; omega
  have HAB := Lib.hid hAB
  have HCC := Lib.hid hABC
  clear hAB hABC
  go_enter Tryz.func134, Tryz.ntmps134
  go_wp2_with fail
  generalize hq : w.heap.size = q at *
  generalize hw0 : w.alloc (.cells #[.int .i64 r.client, .int .i64 r.number, .slice a r.tags.length cap, .string ⟨r.data.toArray⟩] 44) = w0 at *
  clear hw0
  refine wp_region_facts (by kernel_rfl) Ext (fun iop v w => match iop with
      | 0 => v = .pointer (some ⟨q, 0, none⟩)
      | 1 => v = .pointer (some ⟨q, 0, none⟩)
      | 2 => v = .int .i64 r.client
      | 3 => v = .string ⟨A.toArray⟩
      | 4 => v = .pointer (some ⟨q, 0, none⟩)
      | 5 => v = .pointer (some ⟨q, 1, none⟩)
      | 6 => v = .int .i64 r.number
      | 7 => v = .string ⟨B.toArray⟩
      | 8 => v = .string ⟨AB.toArray⟩
      | 9 => v = .pointer (some ⟨q, 2, none⟩)
      | 10 => v = .slice a r.tags.length cap
      | 11 => v = .int .i64 (r.tags.length : Int)
      | 12 => v = .string ⟨C.toArray⟩
      | 13 => v = .string ⟨ABC.toArray⟩
      | _ => v = .string ⟨ABC.toArray⟩
      ) (by kernel_rfl) (fun _ _ _ h k => Ext.trans h k) (fun a => Ext.refl a) (Ext.drew _) ?_ ?_ ?_
  · intro iop v wa wb hF hL
    iterate 14 (rcases iop with _ | iop; exact hF)
    exact hF
  · refine Obls.cons ?_ (Obls.cons ?_ (Obls.cons ?_ (Obls.cons ?_ (Obls.cons ?_ (Obls.cons ?_ (Obls.cons ?_ (Obls.cons ?_ (Obls.cons ?_ (Obls.cons ?_ (Obls.cons ?_ (Obls.cons ?_ (Obls.cons ?_ (Obls.cons ?_ (Obls.cons ?_ (Obls.nil)))))))))))))))
    · intro ev wy hp hl hk hd
      have e1 : ev (.tmp 1) = .pointer (some ⟨q, 0, none⟩) := hk 1 (by decide)
      clear hk hd
      exact Yield.op (v := .pointer (some ⟨q, 0, none⟩)) (w' := wy) (by simp [execOp, go_sem, e1]) ⟨Ext.refl _, rfl⟩
    · intro ev wy hp hl hk hd
      have e5 : ev (.tmp 5) = .pointer (some ⟨q, 0, none⟩) := hk 5 (by decide)
      clear hk hd
      exact Yield.op (v := .pointer (some ⟨q, 0, none⟩)) (w' := wy) (by simp [execOp, go_sem, e5]) ⟨Ext.refl _, rfl⟩
    · intro ev wy hp hl hk hd
      have e6 : ev (.tmp 6) = .pointer (some ⟨q, 0, none⟩) := hk 6 (by decide)
      clear hk hd
      exact Yield.ld rfl e6 (ld_int (HA0.out.ext hl).cells.1) ⟨Ext.refl _, rfl⟩
    · intro ev wy hp hl hk hd
      have e7 : ev (.tmp 7) = .int .i64 r.client := hk 7 (by decide)
      clear hk hd
      refine Yield.call rfl hp Tryz.func89 rfl (by kernel_rfl) ?_
      simp only [List.map_toArray, List.map_cons, List.map_nil, e7]
      exact ((HO1.out ▸ numRef_any r.client wy)).mono fun _ _ ⟨he, hb⟩ => ⟨_, he, hb, by first | rfl | simp⟩
    · intro ev wy hp hl hk hd
      have e1 : ev (.tmp 1) = .pointer (some ⟨q, 0, none⟩) := hk 1 (by decide)
      clear hk hd
      exact Yield.op (v := .pointer (some ⟨q, 0, none⟩)) (w' := wy) (by simp [execOp, go_sem, e1]) ⟨Ext.refl _, rfl⟩
    · intro ev wy hp hl hk hd
      have e9 : ev (.tmp 9) = .pointer (some ⟨q, 0, none⟩) := hk 9 (by decide)
      clear hk hd
      exact Yield.op (v := .pointer (some ⟨q, 1, none⟩)) (w' := wy) (by simp [execOp, go_sem, e9]) ⟨Ext.refl _, rfl⟩
    · intro ev wy hp hl hk hd
      have e10 : ev (.tmp 10) = .pointer (some ⟨q, 1, none⟩) := hk 10 (by decide)
      clear hk hd
      exact Yield.ld rfl e10 (ld_int (HA0.out.ext hl).cells.2.1) ⟨Ext.refl _, rfl⟩
    · intro ev wy hp hl hk hd
      have e11 : ev (.tmp 11) = .int .i64 r.number := hk 11 (by decide)
      clear hk hd
      refine Yield.call rfl hp Tryz.func89 rfl (by kernel_rfl) ?_
      simp only [List.map_toArray, List.map_cons, List.map_nil, e11]
      exact ((HO2.out ▸ numRef_any r.number wy)).mono fun _ _ ⟨he, hb⟩ => ⟨_, he, hb, by first | rfl | simp⟩
    · intro ev wy hp hl hk hd
      have e8 : ev (.tmp 8) = .string ⟨A.toArray⟩ := hk 8 (by decide)
      have e12 : ev (.tmp 12) = .string ⟨B.toArray⟩ := hk 12 (by decide)
      clear hk hd
      exact Yield.op (w' := wy) (by simp [execOp, go_sem, e8, e12]; rw [if_neg (by omega), mk_append, HAB.out]) ⟨Ext.refl _, rfl⟩
    · intro ev wy hp hl hk hd
      have e1 : ev (.tmp 1) = .pointer (some ⟨q, 0, none⟩) := hk 1 (by decide)
      clear hk hd
      exact Yield.op (v := .pointer (some ⟨q, 2, none⟩)) (w' := wy) (by simp [execOp, go_sem, e1]) ⟨Ext.refl _, rfl⟩
    · intro ev wy hp hl hk hd
      have e14 : ev (.tmp 14) = .pointer (some ⟨q, 2, none⟩) := hk 14 (by decide)
      clear hk hd
      exact Yield.ld rfl e14 (ld_ints (HA0.out.ext hl).cells.2.2.1) ⟨Ext.refl _, rfl⟩
    · intro ev wy hp hl hk hd
      have e15 : ev (.tmp 15) = .slice a r.tags.length cap := hk 15 (by decide)
      clear hk hd
      exact Yield.op (v := .int .i64 (r.tags.length : Int)) (w' := wy) (by simp [execOp, go_sem, e15]) ⟨Ext.refl _, rfl⟩
    · intro ev wy hp hl hk hd
      have e16 : ev (.tmp 16) = .int .i64 (r.tags.length : Int) := hk 16 (by decide)
      clear hk hd
      refine Yield.call rfl hp Tryz.func89 rfl (by kernel_rfl) ?_
      simp only [List.map_toArray, List.map_cons, List.map_nil, e16]
      exact ((HO3.out ▸ numRef_any (r.tags.length : Int) wy)).mono fun _ _ ⟨he, hb⟩ => ⟨_, he, hb, by first | rfl | simp⟩
    · intro ev wy hp hl hk hd
      have e13 : ev (.tmp 13) = .string ⟨AB.toArray⟩ := hk 13 (by decide)
      have e17 : ev (.tmp 17) = .string ⟨C.toArray⟩ := hk 17 (by decide)
      clear hk hd
      exact Yield.op (w' := wy) (by simp [execOp, go_sem, e13, e17]; rw [if_neg (by omega), mk_append, HCC.out]) ⟨Ext.refl _, rfl⟩
    · intro ev wy hp hl hk hd
      have e18 : ev (.tmp 18) = .string ⟨ABC.toArray⟩ := hk 18 (by decide)
      clear hk hd
      exact Yield.as rfl ⟨Ext.refl _, e18⟩
  · intro vals wz hz hv
    have g5 : vals 0 = .pointer (some ⟨q, 0, none⟩) := hv 0 (by decide)
    have g6 : vals 1 = .pointer (some ⟨q, 0, none⟩) := hv 1 (by decide)
    have g7 : vals 2 = .int .i64 r.client := hv 2 (by decide)
    have g8 : vals 3 = .string ⟨A.toArray⟩ := hv 3 (by decide)
    have g9 : vals 4 = .pointer (some ⟨q, 0, none⟩) := hv 4 (by decide)
    have g10 : vals 5 = .pointer (some ⟨q, 1, none⟩) := hv 5 (by decide)
    have g11 : vals 6 = .int .i64 r.number := hv 6 (by decide)
    have g12 : vals 7 = .string ⟨B.toArray⟩ := hv 7 (by decide)
    have g13 : vals 8 = .string ⟨AB.toArray⟩ := hv 8 (by decide)
    have g14 : vals 9 = .pointer (some ⟨q, 2, none⟩) := hv 9 (by decide)
    have g15 : vals 10 = .slice a r.tags.length cap := hv 10 (by decide)
    have g16 : vals 11 = .int .i64 (r.tags.length : Int) := hv 11 (by decide)
    have g17 : vals 12 = .string ⟨C.toArray⟩ := hv 12 (by decide)
    have g18 : vals 13 = .string ⟨ABC.toArray⟩ := hv 13 (by decide)
    have g3 : vals 14 = .string ⟨ABC.toArray⟩ := hv 14 (by decide)
    clear hv
    simp only [putAll, Act.put, List.setIfInBounds_toArray, List.set_cons_zero, List.set_cons_succ, g5, g6, g7, g8, g9, g10, g11, g12, g13, g14, g15, g16, g17, g18, g3]
    clear g5
    clear g6
    clear g7
    clear g8
    clear g9
    clear g10
    clear g11
    clear g12
    clear g13
    clear g14
    clear g15
    clear g16
    clear g17
    clear g18
    clear g3
    have HZ := Lib.hid (hE0.trans hz)
    have hz0 := Lib.hid hz
    clear hz hE0
    go_wp2_with fail
    go_loopw [3, 4] (fun s i wr => ∃ k : Nat, k ≤ r.tags.length ∧ i = .int .i64 k ∧ (∃ l : List UInt8, s = .string ⟨l.toArray⟩ ∧ Hid (l = ABC ++ nums (r.tags.take k))) ∧ Ext wz wr) (fun _ i _ => r.tags.length - (intOf i).toNat)
    case atStart => exact ⟨0, by omega, rfl, ⟨_, rfl, by simp [Hid, nums]⟩, Ext.refl _⟩
    case round =>
      obtain ⟨k, hk, rfl, ⟨l, rfl, hl⟩, hE⟩ := hrel
      have hB := HZ.out.trans hE
      have hcs := RecAt.cells (HA0.out.ext (hz0.out.trans hE))
      obtain ⟨c0, c1, c2, c3⟩ := hcs
      by_cases hlt : k < r.tags.length
      · obtain ⟨a2, cap2, e2, _, _, _, hc⟩ := (HT.out.below hB).open
        obtain ⟨b, off, rfl, hcell⟩ := hc k hlt
        injection e2 with e2 e3 e4
        subst e2
        clear hc e3 e4
        have hok : okNum r.tags[k] = true := (List.all_eq_true.1 HALL.out) _ (List.getElem_mem hlt)
        have hs := nums_take_next r.tags k hlt hok
        have HN2 := Lib.hid (numRef_any r.tags[k] wr)
        obtain ⟨z, hzz⟩ : ∃ z, oneNum r.tags[k] = z := ⟨_, rfl⟩
        rw [hzz] at hs HN2
        have hadd := mk_append l z
        have HL := Lib.hid (show l ++ z = ABC ++ nums (r.tags.take (k + 1)) by rw [hs, hl.out, List.append_assoc])
        have hb9 : z.length ≤ 9 := by rw [← hzz]; exact oneNum_le _
        have hll : l.length ≤ 200 := by
          have h5 := congrArg List.length hl.out
          have h6 := nums_le (r.tags.take k) (by rw [List.all_eq_true]; intro x hx; exact (List.all_eq_true.1 HALL.out) x (List.mem_of_mem_take hx))
          have h8 : (r.tags.take k).length ≤ 8 := by simp; omega
          rw [List.length_append] at h5
          omega
        have hs1 := str_len l
        have hs2 := str_len z
        clear hs hzz hok
        go_wp2_with fail
        refine HN2.out.mono ?_
        rintro e w4 ⟨rfl, hE4⟩
        go_wp2_with fail
        go_roundw
        case rel => exact ⟨k + 1, by omega, by go_num, ⟨_, rfl, HL⟩, hE.trans hE4⟩
        case measure => simp [intOf]; omega
      · have hfin : l ++ (Pack.num r.data.length ++ r.data) = Rec.text r := by
          rw [hl.out, List.take_of_length_le (by omega), text_nums, ← HCC.out, ← HAB.out, ← HABC.out.1, ← HABC.out.2.1, ← HABC.out.2.2]
          simp [nums]
        have HF := Lib.hid hfin
        have hll : l.length ≤ 200 := by
          have h5 := congrArg List.length hl.out
          have h6 := nums_le (r.tags.take k) (by rw [List.all_eq_true]; intro x hx; exact (List.all_eq_true.1 HALL.out) x (List.mem_of_mem_take hx))
          have h8 : (r.tags.take k).length ≤ 8 := by simp; omega
          rw [List.length_append] at h5
          omega
        have HTX := Lib.hid (textRef_any r.data wr (by omega))
        obtain ⟨z, hzz⟩ : ∃ z, Pack.num r.data.length ++ r.data = z := ⟨_, rfl⟩
        have hzl : z.length ≤ 1033 := by
          rw [← hzz, List.length_append]
          have := H4.out
          omega
        rw [hzz] at HTX HF
        have hadd := mk_append l z
        have hs1 := str_len l
        have hs2 := str_len z
        clear hfin hl hzz
        go_wp2_with fail
        refine HTX.out.mono ?_
        rintro e w4 ⟨rfl, hE4⟩
        go_wp2_with fail
        go_ret
        exact ⟨by rw [HF.out]; rfl, hB.trans hE4⟩

/-- []byte(s), read back. -/
theorem bytes_of_str4 (w : World) (l : List UInt8) (e : TypeId) (hl : l.length ≤ maxLen) : Bytes (Lib.bytesWorld w e ⟨l.toArray⟩) (.slice (some ⟨w.heap.size, 0, none⟩) l.length (grownCap w l.length 0 e)) l := by
  refine ⟨some ⟨w.heap.size, 0, none⟩, grownCap w l.length 0 e, by rw [u8s_length], by rw [u8s_length]; exact grownCap_ge _ _ _ _, grownCap_le_maxLen _ _ _ _ hl, fun e => by simp at e, fun i hi => ⟨_, _, rfl, ?_⟩⟩
  have hi' : i < l.length := by simpa using hi
  rw [Nat.zero_add, Lib.bytesWorld_cell w e _ i (by simpa [ByteArray.size] using hi')]
  simp [u8s, hi']
theorem ext_bytesWorld4 (w : World) (e : TypeId) (s : ByteArray) : Ext w (Lib.bytesWorld w e s) :=
  ⟨rfl, rfl, rfl, by rw [Lib.bytesWorld_size]; omega, fun k hk => Lib.bytesWorld_at_old w e s k hk⟩
theorem run_conv4 (w : World) (l : List UInt8) : (convert 9 22 (.string ⟨l.toArray⟩)).run Tryz.prog w = .ok (.slice (some ⟨w.heap.size, 0, none⟩) l.length (grownCap w l.length 0 5)) (Lib.bytesWorld w 5 ⟨l.toArray⟩) := by
  have := Lib.run_convert_string_bytes (P := Tryz.prog) w 9 22 5 ⟨l.toArray⟩ Tryz.underlying9 Tryz.underlying22 Tryz.underlying5
  rwa [str_len] at this

theorem text_le {r : Rec.R} (h : Rec.right r = true) : (Rec.text r).length ≤ 1132 := by
  have := Rec.enc_le h
  unfold Rec.enc at this
  rw [List.length_append, Crc.low_length] at this
  omega

set_option maxHeartbeats 4000000 in
theorem refEncode4_any (v : Value) (r : Rec.R) (w : World) (hv : IsRec w v r) : Calls Tryz.prog 87 #[v] w (GivesEnc4 w r) := by
  have hbx := box_rec
  have hr4 := fun w1 hv => refRight4_any v r w1 hv
  have htx := fun w1 hv => textRef4_any v r w1 hv
  have HV := Lib.hid hv
  obtain ⟨t, rfl, ht⟩ := hv
  unfold recV at *
  obtain ⟨a, cap, rfl, hcap, hmax, _, _⟩ := ht.open
  unfold maxLen at hmax
  have HT := Lib.hid ht
  clear ht
  have hE0 : Ext w (w.alloc (.cells #[.int .i64 r.client, .int .i64 r.number, .slice a r.tags.length cap, .string ⟨r.data.toArray⟩] 44)) := Ext.alloc _ _
  have HA0 := Lib.hid (RecAt.new w (.slice a r.tags.length cap) r)
  unfold GivesEnc4
  cases hr : Rec.right r with
  | false =>
    have HR := Lib.hid hr
    clear hr
    go_enter Tryz.func87, Tryz.ntmps87
    go_wp2_with fail
    refine (hr4 _ (HV.out.below hE0)).mono ?_
    rintro e w1 ⟨rfl, hE1⟩
    rw [HR.out]
    go_wp2_with fail
    go_ret2
    exact ⟨_, rfl, bytes_none _, hE0.trans hE1⟩
  | true =>
    have HR := Lib.hid hr
    have hle := text_le hr
    obtain ⟨T, hT⟩ : ∃ T, Rec.text r = T := ⟨_, rfl⟩
    rw [hT] at htx hle
    have HTT := Lib.hid hT
    have HTX := Lib.hid htx
    clear hr hT htx
    go_enter Tryz.func87, Tryz.ntmps87
    go_wp2_with fail
    refine (hr4 _ (HV.out.below hE0)).mono ?_
    rintro e w1 ⟨rfl, hE1⟩
    rw [HR.out]
    have e1 := hE0.trans hE1
    obtain ⟨c0, c1, c2, c3⟩ := (HA0.out.ext hE1).cells
    go_wp2_with fail
    refine (HTX.out _ (HV.out.below e1) HR.out).mono ?_
    rintro e w2 ⟨rfl, hE2⟩
    have e2 := e1.trans hE2
    have hcv := run_conv4 w2 T
    have hby := Lib.hid (bytes_of_str4 w2 T 5 (by unfold maxLen; omega))
    clear c0 c1 c2 c3
    go_wp2_with fail
    refine (put_ref _ T _ hby.out (by omega)).mono ?_
    rintro e w3 ⟨v3, rfl, hb3, hE3⟩
    have e3 := (e2.trans (ext_bytesWorld4 _ _ _)).trans hE3
    go_wp2_with fail
    go_ret2
    refine ⟨_, rfl, ?_, e3⟩
    show Bytes w3 v3 (Rec.enc r)
    unfold Rec.enc
    rw [HTT.out]
    exact hb3
/- Layer 4, the program: bytes as records. -/
def noRec : Rec.R := ⟨0, 0, [], []⟩
def decErr4 : Option (List UInt8) → Int
  | none => 41
  | some t => recErr (Rec.readOk t)
def orRec : Bool → Rec.R → Rec.R
  | true, r => r
  | false, _ => noRec
def decRec4 : Option (List UInt8) → Rec.R
  | none => noRec
  | some t => orRec (Rec.readOk t) (Rec.read t)
theorem decErr4_some (t : List UInt8) : decErr4 (some t) = recErr (Rec.readOk t) := rfl
theorem decRec4_some (t : List UInt8) : decRec4 (some t) = orRec (Rec.readOk t) (Rec.read t) := rfl
def RowRec (w : World) (v : Value) (r : Rec.R) : Prop := ∃ t, v = recV t r ∧ RowI w t r.tags
theorem RowRec.is {w : World} {v : Value} {r : Rec.R} (h : RowRec w v r) : IsRec w v r := by
  obtain ⟨t, e, h⟩ := h
  exact ⟨t, e, h.ints⟩
def GivesRow4 (w : World) (o : Option (List UInt8)) (e : Ending) (w' : World) : Prop := ∃ u, e = .returned (.tuple #[u, .int .i64 (decErr4 o)]) ∧ RowRec w' u (decRec4 o) ∧ Ext w w'
/-- The same, of new blocks. -/
def RowF (B : Nat) (w : World) (v : Value) (l : List Int) : Prop := ∃ b n, B ≤ b ∧ w.ownsRow b 3 1 v n (i64s l)
theorem RowF.nil (B : Nat) (w : World) : RowF B w (.slice none 0 0) [] := ⟨B, 0, Nat.le_refl _, World.ownsRow_nil _ _ _ _⟩
theorem RowF.row {B : Nat} {w : World} {v : Value} {l : List Int} (h : RowF B w v l) : RowI w v l := by
  obtain ⟨b, n, _, h⟩ := h
  exact ⟨b, n, h⟩
def RowRecF (B : Nat) (w : World) (v : Value) (r : Rec.R) : Prop := ∃ t, v = recV t r ∧ RowF B w t r.tags
theorem RowRecF.row {B : Nat} {w : World} {v : Value} {r : Rec.R} (h : RowRecF B w v r) : RowRec w v r := by
  obtain ⟨t, e, h⟩ := h
  exact ⟨t, e, h.row⟩
def GivesFresh4 (w : World) (o : Option (List UInt8)) (e : Ending) (w' : World) : Prop := ∃ u, e = .returned (.tuple #[u, .int .i64 (decErr4 o)]) ∧ RowRecF w.heap.size w' u (decRec4 o) ∧ Ext w w'

theorem build_rec0 (w : World) : (Instr.build 44 #[]).run Tryz.prog w = .ok (.agg #[.int .i64 0, .int .i64 0, .slice none 0 0, .string ⟨#[]⟩]) w := by kernel_rfl
theorem build_id (w : World) (c n : Int) : (Instr.build 41 #[(0, .int .i64 c), (1, .int .i64 n)]).run Tryz.prog w = .ok (.agg #[.int .i64 c, .int .i64 n]) w := by kernel_rfl
theorem build_rec1 (w : World) (c n : Int) : (Instr.build 44 #[(0, .agg #[.int .i64 c, .int .i64 n])]).run Tryz.prog w = .ok (.agg #[.int .i64 c, .int .i64 n, .slice none 0 0, .string ⟨#[]⟩]) w := by kernel_rfl
/-- A row of the call's own lies beside a block of another type. -/
theorem row_beside4 {w : World} {base q n : Nat} {e t : TypeId} {v : Value} {xs : List Value} {cs : Array Value} {fr : Nat × Nat} (ho : w.ownsRow base e 1 v n xs) (hq : w.heap[q]? = some (.cells cs t fr)) (hte : t ≠ e) : some q ≠ v.ownBlock := by
  rcases ho.2 with ⟨rfl, _⟩ | ⟨g, cap, cur, rfl, _, hgb, _⟩
  · simp [Value.ownBlock]
  · intro e'
    obtain rfl : q = g := by simpa [Value.ownBlock] using e'
    rw [hq] at hgb
    simp at hgb
    exact hte hgb.2.1
theorem grownBy_set4 (W : World) (b o : Nat) (v : Value) : W.grownBy (W.setCell ⟨b, o, none⟩ v) (some b) :=
  ⟨rfl, rfl, rfl, by simp [World.setCell], fun k _ hk => Below.heap_setCell _ _ _ k (fun e => hk (by rw [e]))⟩

theorem RecAt.zero (w : World) : RecAt (w.alloc (.cells #[.int .i64 0, .int .i64 0, .slice none 0 0, .string ⟨#[]⟩] 44)) w.heap.size (.slice none 0 0) noRec := by
  unfold RecAt noRec
  exact heap_alloc_new w _

theorem set_four {w : World} {q : Nat} {x0 x1 x2 x3 : Value} {T : TypeId} (h : w.heap[q]? = some (.cells #[x0, x1, x2, x3] T (0, 0))) (v0 v1 v2 v3 : Value) :
    ((((w.setCell ⟨q, 0, none⟩ v0).setCell ⟨q, 1, none⟩ v1).setCell ⟨q, 2, none⟩ v2).setCell ⟨q, 3, none⟩ v3).heap[q]? = some (.cells #[v0, v1, v2, v3] T (0, 0)) ∧ But q w ((((w.setCell ⟨q, 0, none⟩ v0).setCell ⟨q, 1, none⟩ v1).setCell ⟨q, 2, none⟩ v2).setCell ⟨q, 3, none⟩ v3) := by
  refine ⟨?_, ((((But.refl _ _).setCell 0 none v0).setCell 1 none v1).setCell 2 none v2).setCell 3 none v3⟩
  have := heap_setCell (heap_setCell (heap_setCell (heap_setCell h 0 v0) 1 v1) 2 v2) 3 v3
  simpa using this
theorem RecAt.set {w : World} {p : Nat} {t : Value} {r : Rec.R} (h : RecAt w p t r) (t' : Value) (r' : Rec.R) :
    RecAt ((((w.setCell ⟨p, 0, none⟩ (.int .i64 r'.client)).setCell ⟨p, 1, none⟩ (.int .i64 r'.number)).setCell ⟨p, 2, none⟩ t').setCell ⟨p, 3, none⟩ (.string ⟨r'.data.toArray⟩)) p t' r' ∧
    But p w ((((w.setCell ⟨p, 0, none⟩ (.int .i64 r'.client)).setCell ⟨p, 1, none⟩ (.int .i64 r'.number)).setCell ⟨p, 2, none⟩ t').setCell ⟨p, 3, none⟩ (.string ⟨r'.data.toArray⟩)) := set_four h _ _ _ _
theorem RD.grown4 {w w' : World} {p q n : Nat} {s : Pack.St} {e : TypeId} {v : Value} {xs : List Value} (h : RD w p s) (ho : w.ownsRow q e 1 v n xs) (hg : w.grownBy w' v.ownBlock) (hpq : p < q) : RD w' p s :=
  h.keep fun k hk => hg.block k (by have := h.lt; omega) (fun e => by have := (ho.lt k e.symm).1; omega)
theorem RD.set4 {w : World} {p q o : Nat} {s : Pack.St} {v : Value} (h : RD w p s) (hpq : p < q) : RD (w.setCell ⟨q, o, none⟩ v) p s :=
  h.keep fun k hk => Below.heap_setCell _ _ _ k (by show k ≠ q; omega)
theorem row_but4 {w w' : World} {p base n : Nat} {e : TypeId} {v : Value} {xs : List Value} (ho : w.ownsRow base e 1 v n xs) (hne : some p ≠ v.ownBlock) (hb : But p w w') : w'.ownsRow base e 1 v n xs :=
  ho.kept (row := some p) ⟨hb.os, hb.tape, hb.output, hb.size, fun k hk hkp => hb.block k hk (fun e => hkp (by rw [e]))⟩ (.inr (Ne.symm hne))
theorem row_ext4 {w w' : World} {base n : Nat} {e : TypeId} {v : Value} {xs : List Value} (ho : w.ownsRow base e 1 v n xs) (hE : Ext w w') : w'.ownsRow base e 1 v n xs :=
  ho.kept (row := none) ⟨hE.os, hE.tape, hE.output, hE.size, fun k hk _ => hE.block k hk⟩ (by
    rcases ho.2 with ⟨rfl, _⟩ | ⟨g, cap, cur, rfl, _⟩
    · exact .inl rfl
    · exact .inr (by simp [Value.ownBlock]))
theorem RecAt.grown4 {w w' : World} {p : Nat} {t : Value} {r : Rec.R} {o : Option Nat} (h : RecAt w p t r) (hg : w.grownBy w' o) (hne : some p ≠ o) : RecAt w' p t r := (hg.block p h.lt hne).trans h
theorem grownBy_but4 (W : World) (b o : Nat) (v : Value) : But b W (W.setCell ⟨b, o, none⟩ v) := (But.refl _ _).setCell o none v
theorem RecAt.tags {w : World} {p : Nat} {t t' : Value} {c n : Int} {ts ts' : List Int} {d : List UInt8} (h : RecAt w p t ⟨c, n, ts, d⟩) : RecAt (w.setCell ⟨p, 2, none⟩ t') p t' ⟨c, n, ts', d⟩ := by
  have := heap_setCell h 2 t'
  unfold RecAt
  simpa using this
theorem own_slice4 {w : World} {base n : Nat} {e : TypeId} {v : Value} {xs : List Value} (h : w.ownsRow base e 1 v n xs) : ∃ a n c, v = .slice a n c := by
  obtain ⟨a, c, rfl, _⟩ := Sl.ofOwn h
  exact ⟨_, _, _, rfl⟩
theorem RecAt.later {w : World} {p : Nat} {t : Value} {r : Rec.R} {o : Obj} (h : RecAt w p t r) : p ≤ (w.alloc o).heap.size := by
  have := h.lt
  rw [World.size_alloc]
  omega
theorem RecAt.data {w : World} {p : Nat} {t : Value} {c n : Int} {ts : List Int} {d : List UInt8} (h : RecAt w p t ⟨c, n, ts, d⟩) (d' : List UInt8) : RecAt (w.setCell ⟨p, 3, none⟩ (.string ⟨d'.toArray⟩)) p t ⟨c, n, ts, d'⟩ := by
  have := heap_setCell h 3 (.string ⟨d'.toArray⟩)
  unfold RecAt
  simpa using this
theorem RD.heap {w : World} {p : Nat} {s : Pack.St} (h : RD w p s) : ∃ a n c, w.heap[p]? = some (.cells #[.slice a n c, .int .i64 s.err] 249 (0, 0)) := by
  obtain ⟨a, n, c, h, _⟩ := h
  exact ⟨a, n, c, h⟩
theorem RecAt.name {w : World} {p : Nat} {t : Value} {c n : Int} {ts ts' : List Int} {d : List UInt8} (h : RecAt w p t ⟨c, n, ts, d⟩) : RecAt w p t ⟨c, n, ts', d⟩ := h
theorem num_most4 (s : Pack.St) (most : Int) (h : 0 ≤ most) : ((s.num most).2 : Int) ≤ most := by
  unfold Pack.St.num
  split
  · exact h
  · split
    · exact h
    · split
      · exact h
      · rename_i h3
        unfold Pack.wrong at h3
        simp only
        omega

set_option maxHeartbeats 8000000 in
theorem decode4_fresh (v : Value) (l : List UInt8) (w : World) (hv : Bytes w v l) (hl : l.length ≤ 200000) :
    Calls Tryz.prog 145 #[v] w (GivesFresh4 w (Crc.cutOf l)) := by
  have hb0 := build_rec0
  have hb1 := build_rec1
  have hb2 := build_id
  have HV := Lib.hid hv
  obtain ⟨a, cap, rfl, hcap, hmax, hn, hc⟩ := hv.open
  unfold maxLen at hmax
  clear hv hc
  obtain ⟨C, hC⟩ : ∃ C, Crc.cutOf l = C := ⟨_, rfl⟩
  rw [hC]
  have HC := Lib.hid hC
  clear hC
  unfold GivesFresh4
  have hE0 : Ext w (w.alloc (.cells #[.int .i64 0, .int .i64 0, .slice none 0 0, .string ⟨#[]⟩] 44)) := Ext.alloc _ _
  have HR0 := Lib.hid (RecAt.zero w)
  go_enter Tryz.func145, Tryz.ntmps145
  go_wp2_with fail
  refine (new_any _).mono ?_
  rintro e w1 ⟨rfl, ht1, hE1⟩
  rw [World.size_alloc] at ht1 ⊢
  have r1 := Lib.hid (HR0.out.ext hE1)
  have e1 := hE0.trans hE1
  go_wp2_with fail
  have hcall := cut_any _ 0 0 _ l _ ht1 (.inl rfl) (HV.out.below e1) hl
  rw [HC.out] at hcall
  refine hcall.mono ?_
  clear hcall
  intro e w2 hq
  obtain ⟨-, hB2, hcut⟩ := hq
  have e2 : Ext w w2 := Below.trans (B := w.heap.size) e1 (hB2.below (Nat.le_succ _) e1.size)
  have r2 := Lib.hid (r1.out.but hB2 (by simp))
  obtain ⟨c0, c1, c2, c3⟩ := r2.out.cells
  have fr : ∀ i, w2.frozen? ⟨w.heap.size, i, none⟩ = false := fun i => frozen_of_heap r2.out i
  cases C with
  | none =>
    subst hcut
    go_wp2_with fail
    have hs := r2.out.set (.slice none 0 0) noRec
    exact bodyPost_ret (v := .tuple #[recV (.slice none 0 0) noRec, .int .i64 41]) (by simp [results, Tryz.results145, go_sem, c0, c1, c2, c3, fr, noRec, recV]) rfl ⟨_, rfl, ⟨_, rfl, RowF.nil _ _⟩, Below.trans (B := w.heap.size) e2 (hs.2.below (Nat.le_refl _) e2.size)⟩
  | some t =>
    obtain ⟨v2, rfl, hb2⟩ := hcut
    have htl : t.length ≤ l.length := by
      have := HC.out
      unfold Crc.cutOf at this
      split at this
      · cases this
      · split at this
        · injection this with this
          rw [← this, List.length_take]
          omega
        · cases this
    obtain ⟨A, hA⟩ : ∃ A, Pack.St.num ⟨t, 0⟩ 1099511627776 = A := ⟨_, rfl⟩
    obtain ⟨B, hB⟩ : ∃ B, A.1.num 1099511627776 = B := ⟨_, rfl⟩
    obtain ⟨C, hC⟩ : ∃ C, B.1.num 8 = C := ⟨_, rfl⟩
    have sA : Rec.stA t = A := hA
    have sB : Rec.stB t = B := by unfold Rec.stB; rw [sA]; exact hB
    have sC : Rec.stC t = C := by unfold Rec.stC; rw [sB]; exact hC
    have hC8 : C.2 ≤ 8 := by
      have := num_most4 B.1 8 (by omega)
      rw [hC] at this
      omega
    have HA := Lib.hid hA
    have HB := Lib.hid hB
    have HCC := Lib.hid hC
    have HS := Lib.hid (And.intro sA (And.intro sB sC))
    clear hA hB hC sA sB sC c0 c1 c2 c3 fr
    obtain ⟨a2, n2, k2, rfl⟩ := hb2.isSlice
    go_wp2_with fail
    refine (newReader_any _ t _ hb2 (by omega)).mono ?_
    rintro e w3 ⟨p, rfl, hp, hr3, hE3⟩
    have e3 := e2.trans hE3
    have r3 := Lib.hid (r2.out.ext hE3)
    have hq0 : w.heap.size ≠ p := by have := r2.out.lt; omega
    have hwp : w.heap.size ≤ p := Nat.le_trans e2.size hp
    go_wp2_with fail
    refine (num_any p _ 1099511627776 _ hr3).mono ?_
    rw [HA.out]
    rintro e w4 ⟨rfl, hB4, hr4⟩
    have r4 := Lib.hid (r3.out.but hB4 hq0)
    have e4 : Ext w w4 := Below.trans (B := w.heap.size) e3 (hB4.below hwp e3.size)
    go_wp2_with fail
    refine (num_any p _ 1099511627776 _ hr4).mono ?_
    rw [HB.out]
    rintro e w5 ⟨rfl, hB5, hr5⟩
    have r5 := Lib.hid (r4.out.but hB5 hq0)
    have e5 : Ext w w5 := Below.trans (B := w.heap.size) e4 (hB5.below hwp e4.size)
    go_wp2_with fail
    have hpq : p < w5.heap.size := hr5.lt
    have r6 := Lib.hid (r5.out.ext (Ext.alloc w5 (.cells #[.int .i64 (A.2 : Int), .int .i64 (B.2 : Int), .slice none 0 0, .string ⟨#[]⟩] 44)))
    have x6 : RecAt (w5.alloc (.cells #[.int .i64 (A.2 : Int), .int .i64 (B.2 : Int), .slice none 0 0, .string ⟨#[]⟩] 44)) w5.heap.size (.slice none 0 0) ⟨(A.2 : Int), (B.2 : Int), [], []⟩ := by
      unfold RecAt
      exact heap_alloc_new _ _
    have X6 := Lib.hid x6
    have e6 : Ext w (w5.alloc (.cells #[.int .i64 (A.2 : Int), .int .i64 (B.2 : Int), .slice none 0 0, .string ⟨#[]⟩] 44)) := e5.trans (Ext.alloc _ _)
    have hwq : w.heap.size < w5.heap.size := by have := r5.out.lt; omega
    clear x6
    refine (num_any p _ 8 _ (hr5.ext (Ext.alloc _ _))).mono ?_
    rw [HCC.out]
    rintro e w7 ⟨rfl, hB7, hr7⟩
    have r7 := Lib.hid (r6.out.but hB7 hq0)
    have x7 := Lib.hid (X6.out.but hB7 (by omega))
    have e7 : Ext w w7 := Below.trans (B := w.heap.size) e6 (hB7.below hwp e6.size)
    obtain ⟨q, hq⟩ : ∃ q, w5.heap.size = q := ⟨_, rfl⟩
    have hq7 : q < w7.heap.size := by
      have := hB7.size
      rw [World.size_alloc, hq] at this
      omega
    rw [hq] at x7 hpq hwq ⊢
    obtain ⟨m, hm⟩ : ∃ m, C.2 = m := ⟨_, rfl⟩
    rw [hm] at hC8 ⊢
    have HM := Lib.hid hm
    clear hq hm
    have ti := tI
    go_wp2_with fail
    go_loopw [27] (fun i wr => ∃ k : Nat, k ≤ m ∧ i = .int .i64 k ∧ ∃ tv, Hid (RecAt wr q tv ⟨(A.2 : Int), (B.2 : Int), (Rec.readsM 1073741824 C.1 k).2, []⟩) ∧ wr.ownsRow q 3 1 tv k (i64s (Rec.readsM 1073741824 C.1 k).2) ∧ RD wr p (Rec.readsM 1073741824 C.1 k).1 ∧ Hid (RecAt wr w.heap.size (.slice none 0 0) noRec) ∧ Ext w wr) (fun i _ => m - (intOf i).toNat)
    case atStart => exact ⟨0, by omega, rfl, _, x7, World.ownsRow_nil _ _ _ _, hr7, r7, e7⟩
    case round =>
      obtain ⟨k, hk, rfl, tv, x, ho, hr, r, hE⟩ := hrel
      by_cases hlt : k < m
      · obtain ⟨N, hN⟩ : ∃ N, (Rec.readsM 1073741824 C.1 k).1.num 1073741824 = N := ⟨_, rfl⟩
        have hnx : Rec.readsM 1073741824 C.1 (k + 1) = (N.1, (Rec.readsM 1073741824 C.1 k).2 ++ [(N.2 : Int)]) := by
          show ((((Rec.readsM 1073741824 C.1 k).1.num 1073741824).1, (Rec.readsM 1073741824 C.1 k).2 ++ [(((Rec.readsM 1073741824 C.1 k).1.num 1073741824).2 : Int)])) = _
          rw [hN]
        have HN := Lib.hid hN
        have HNX := Lib.hid hnx
        have hqr : q < wr.heap.size := x.out.lt
        have hbs := row_beside4 ho x.out (by decide)
        have hr' := hr
        obtain ⟨pa, pn, pc, hpp, _, _⟩ := hr'
        have hbp := Lib.hid (row_beside4 ho hpp (by decide))
        have HBS := Lib.hid hbs
        have hone := i64s_one [(N.2 : Int)]
        have hlen : (i64s (Rec.readsM 1073741824 C.1 k).2).length = k := by rw [i64s_length, Rec.readsM_len]
        obtain ⟨y, hy⟩ : ∃ y : Int, (N.2 : Int) = y := ⟨_, rfl⟩
        rw [hy] at hone hnx
        have HNX := Lib.hid hnx
        have HY := Lib.hid hy
        have hc1 := x.out.cells.2.2.1
        have HO := Lib.hid ho
        have HR := Lib.hid hr
        have hcl : ∀ w' : World, RecAt w' q tv ⟨(A.2 : Int), (B.2 : Int), (Rec.readsM 1073741824 C.1 k).2, []⟩ → w'.cell? ⟨q, 2, none⟩ = some tv := fun w' h => h.cells.2.2.1
        have hk1 : k + (i64s [y]).length ≤ maxLen := by simp [maxLen]; omega
        have hk2 : (k + (i64s [y]).length) * 8 ≤ 140737488355328 := by simp; omega
        have hown1 : ∀ w6 : World, But p wr.drew w6 → (w6.alloc (.cells #[.int .i64 y] 3)).ownsRow q 3 1 tv k (i64s (Rec.readsM 1073741824 C.1 k).2) := fun w6 hB => (row_but4 HO.out.drew hbp.out hB).alloc _
        have hins : ∀ w6 : World, Sl (w6.alloc (.cells #[.int .i64 y] 3)) (.slice (some ⟨w6.heap.size, 0, none⟩) 1 1) (i64s [y]) := fun w6 => Ints.one w6 y
        have HOWN1 := Lib.hid hown1
        have HINS := Lib.hid hins
        have HCL := Lib.hid hcl
        clear hN hnx hy hpp ho hr hbs hown1 hins hcl
        go_wp2_with fail
        go_region_law
          (first
            | (go_simp; go_at_call 147; refine (num_any p _ 1073741824 _ (HR.out.ext (Ext.drew wr))).mono ?_; rw [HN.out, HY.out]; rintro e w8 ⟨rfl, hB8, hr8⟩; have x8 := Lib.hid (RecAt.but (x.out.ext (Ext.drew wr)) hB8 (by omega)); have hc8 := HCL.out w8 x8.out; have hc8a := HCL.out (w8.alloc (.cells #[.int .i64 y] 3)) (x8.out.ext (Ext.alloc _ _)); have hq8 := RecAt.later (o := .cells #[.int .i64 y] 3) x8.out)
            | (rw [if_pos (by rfl)]; refine wp_app (.tmp 30) (.tmp 33) ti rfl rfl rfl (HOWN1.out _ hB8) (HINS.out w8) hone hk1 hk2 hq8 ?_; intro v9 w9 hown9 hg9; have hg9 : (w8.alloc (.cells #[.int .i64 y] 3)).grownBy w9 tv.ownBlock := hg9; obtain ⟨a9, n9, c9, rfl⟩ := own_slice4 hown9; have x9 := Lib.hid (RecAt.grown4 (x8.out.ext (Ext.alloc _ _)) hg9 HBS.out); have hc9 := HCL.out w9 x9.out; have hf9 := frozen_of_heap x9.out 2))
        all_goals
          have hx10 := Lib.hid (x9.out.tags (t' := .slice a9 n9 c9) (ts' := (Rec.readsM 1073741824 C.1 (k + 1)).2))
          have hb9 := row_beside4 hown9 x9.out (by decide)
          have ho10 := (hown9.kept (grownBy_set4 w9 q 2 (.slice a9 n9 c9)) (.inr (Ne.symm hb9)))
          have hrow1 := HOWN1.out _ hB8
          have hr10 := ((hr8.ext (Ext.alloc w8 (.cells #[.int .i64 y] 3))).grown4 hrow1 hg9 hpq).set4 (o := 2) (v := .slice a9 n9 c9) hpq
          have hq0q : some w.heap.size ≠ tv.ownBlock := fun e => by have := (hrow1.lt _ e.symm).1; omega
          have hr0 := (RecAt.grown4 ((RecAt.but (r.out.ext (Ext.drew wr)) hB8 hq0).ext (Ext.alloc w8 (.cells #[.int .i64 y] 3))) hg9 hq0q)
          have hr0' := hr0.but (grownBy_but4 w9 q 2 (.slice a9 n9 c9)) (by omega)
          have hE8 : Ext w w8 := Below.trans (B := w.heap.size) (hE.trans (Ext.drew wr)) (hB8.below hwp (hE.trans (Ext.drew wr)).size)
          have hE9 : Ext w w9 := Below.grown (hE8.trans (Ext.alloc w8 (.cells #[.int .i64 y] 3))) hg9 (hE8.trans (Ext.alloc w8 (.cells #[.int .i64 y] 3))).size (fun j hj => by have := (hrow1.lt j hj).1; omega)
          have hE10 : Ext w (w9.setCell ⟨q, 2, none⟩ (.slice a9 n9 c9)) := Below.setCell hE9 (p := ⟨q, 2, none⟩) (Nat.le_of_lt hwq) _
          have ho11 : (w9.setCell ⟨q, 2, none⟩ (.slice a9 n9 c9)).ownsRow q 3 1 (.slice a9 n9 c9) (k + 1) (i64s (Rec.readsM 1073741824 C.1 (k + 1)).2) := by
            rw [HNX.out, i64s_append]
            exact ho10
          have hr11 : RD (w9.setCell ⟨q, 2, none⟩ (.slice a9 n9 c9)) p (Rec.readsM 1073741824 C.1 (k + 1)).1 := by
            rw [HNX.out]
            exact hr10
          have HO11 := Lib.hid ho11
          have HR0 := Lib.hid hr0'
          clear ho10 hr10 hr0 hr0' ho11 hrow1 hb9
          go_wp2
          go_roundw
          case rel => exact ⟨k + 1, by omega, by go_num, _, hx10, HO11.out, hr11, HR0, hE10⟩
          case measure => simp [intOf]; omega
      · obtain rfl : k = m := by omega
        have hD : Rec.stD t = Rec.readsM 1073741824 C.1 k := by unfold Rec.stD; rw [HS.out.2.2, HM.out]
        obtain ⟨D, hDD⟩ : ∃ D, Rec.readsM 1073741824 C.1 k = D := ⟨_, rfl⟩
        obtain ⟨F, hF⟩ : ∃ F, D.1.text 1024 = F := ⟨_, rfl⟩
        rw [hDD] at hD x ho hr
        have hEq : Rec.stE t = F := by unfold Rec.stE; rw [hD, hF]
        have hread : Rec.read t = ⟨(A.2 : Int), (B.2 : Int), D.2, F.2⟩ := by unfold Rec.read; rw [HS.out.1, HS.out.2.1, hD, hEq]
        have hok : Rec.readOk t = ((F.1.done == 0) && Rec.right ⟨(A.2 : Int), (B.2 : Int), D.2, F.2⟩) := by unfold Rec.readOk; rw [hEq, hread]
        have HF := Lib.hid hF
        have HRD := Lib.hid hread
        have HOK := Lib.hid hok
        obtain ⟨a9, n9, c9, rfl⟩ := own_slice4 ho
        have HI := Lib.hid (show Ints wr (.slice a9 n9 c9) D.2 from Sl.ofOwn ho)
        have hrowlow := Lib.hid (fun j hj => (ho.lt j hj).1)
        obtain ⟨_, _, _, hhp⟩ := hr.heap
        have hbp := Lib.hid (row_beside4 ho hhp (by decide))
        have hbq := Lib.hid (row_beside4 ho x.out (by decide))
        have HO := Lib.hid ho
        have HR := Lib.hid hr
        clear hD hDD hF hEq hread hok ho hr hhp
        go_wp2_with fail
        refine (text_any p _ 1024 _ HR.out).mono ?_
        rw [HF.out]
        rintro e w8 ⟨rfl, hB8, hr8⟩
        have x8 := Lib.hid (RecAt.but x.out hB8 (by omega))
        have r8 := Lib.hid (RecAt.but r.out hB8 hq0)
        have o8 := Lib.hid (row_but4 HO.out hbp.out hB8)
        have hE8 : Ext w w8 := Below.trans (B := w.heap.size) hE (hB8.below hwp hE.size)
        obtain ⟨c0, c1, c2, c3⟩ := x8.out.cells
        have f3 := frozen_of_heap x8.out 3
        have x9 := Lib.hid (RecAt.data x8.out F.2)
        have hB9 := grownBy_but4 w8 q 3 (.string ⟨F.2.toArray⟩)
        have r9 := Lib.hid (RecAt.but r8.out hB9 (by omega))
        have hr9 := Lib.hid (hr8.set4 (q := q) (o := 3) (v := .string ⟨F.2.toArray⟩) hpq)
        have o9 := Lib.hid (row_but4 o8.out hbq.out hB9)
        have hE9 : Ext w (w8.setCell ⟨q, 3, none⟩ (.string ⟨F.2.toArray⟩)) := Below.setCell hE8 (p := ⟨q, 3, none⟩) (Nat.le_of_lt hwq) _
        clear hB9
        go_wp2_with fail
        generalize hw9 : w8.setCell ⟨q, 3, none⟩ (.string ⟨F.2.toArray⟩) = w9 at *
        have HI9 := Lib.hid (show Ints w9 (.slice a9 n9 c9) D.2 from Sl.ofOwn o9.out)
        clear hw9 c0 c1 c2 c3 f3
        refine (end_any p _ _ hr9.out).mono ?_
        obtain ⟨d, hdd⟩ : ∃ d, F.1.done = d := ⟨_, rfl⟩
        rw [hdd] at HOK ⊢
        clear hdd
        rintro e w10 ⟨rfl, rfl⟩
        by_cases hd : d = 0
        · subst hd
          have hd' : ((0 : Int) == 0) = true := rfl
          have hok2 : Rec.readOk t = Rec.right ⟨(A.2 : Int), (B.2 : Int), D.2, F.2⟩ := by rw [HOK.out, hd']; rfl
          have HOK2 := Lib.hid hok2
          obtain ⟨d0, d1, d2, d3⟩ := x9.out.cells
          clear hok2 hd'
          go_wp2_with fail
          refine (right4_any _ ⟨(A.2 : Int), (B.2 : Int), D.2, F.2⟩ _ ⟨_, rfl, HI9.out⟩).mono ?_
          rintro e w11 ⟨rfl, hE11⟩
          have r11 := Lib.hid (r9.out.ext hE11)
          have x11 := Lib.hid (x9.out.ext hE11)
          have e11 := hE9.trans hE11
          clear d0 d1 d2 d3
          obtain ⟨c0, c1, c2, c3⟩ := r11.out.cells
          obtain ⟨d0, d1, d2, d3⟩ := x11.out.cells
          have fr : ∀ i, w11.frozen? ⟨w.heap.size, i, none⟩ = false := fun i => frozen_of_heap r11.out i
          cases hrr : Rec.right ⟨(A.2 : Int), (B.2 : Int), D.2, F.2⟩ with
          | false =>
            rw [hrr] at HOK2
            clear hrr
            go_wp2_with fail
            have hs := r11.out.set (.slice none 0 0) noRec
            exact bodyPost_ret (v := .tuple #[recV (.slice none 0 0) noRec, .int .i64 40]) (by simp [results, Tryz.results145, go_sem, c0, c1, c2, c3, fr, noRec, recV]) rfl
              ⟨_, by rw [decErr4_some, HOK2.out]; rfl, by rw [decRec4_some, HOK2.out]; exact ⟨_, rfl, RowF.nil _ _⟩, Below.trans (B := w.heap.size) e11 (hs.2.below (Nat.le_refl _) e11.size)⟩
          | true =>
            rw [hrr] at HOK2
            clear hrr
            go_wp2_with fail
            have hs := r11.out.set (.slice a9 n9 c9) ⟨(A.2 : Int), (B.2 : Int), D.2, F.2⟩
            have hbr : some w.heap.size ≠ (Value.slice a9 n9 c9).ownBlock := fun e => by have := (o9.out.lt _ e.symm).1; omega
            have hi11 : RowF w.heap.size _ (.slice a9 n9 c9) D.2 := ⟨_, _, by omega, row_but4 (row_ext4 o9.out hE11) hbr hs.2⟩
            exact bodyPost_ret (v := .tuple #[recV (.slice a9 n9 c9) ⟨(A.2 : Int), (B.2 : Int), D.2, F.2⟩, .int .i64 0]) (by simp [results, Tryz.results145, go_sem, c0, c1, c2, c3, d0, d1, d2, d3, fr, recV]) rfl
              ⟨_, by rw [decErr4_some, HOK2.out]; rfl, by rw [decRec4_some, HOK2.out, HRD.out]; exact ⟨_, rfl, hi11⟩, Below.trans (B := w.heap.size) e11 (hs.2.below (Nat.le_refl _) e11.size)⟩
        · have hd' : (d == 0) = false := by rw [beq_eq_false_iff_ne]; exact hd
          have hok2 : Rec.readOk t = false := by rw [HOK.out, hd']; rfl
          have HOK2 := Lib.hid hok2
          obtain ⟨c0, c1, c2, c3⟩ := r9.out.cells
          have fr : ∀ i, w9.frozen? ⟨w.heap.size, i, none⟩ = false := fun i => frozen_of_heap r9.out i
          clear hok2 hd'
          go_wp2_with fail
          have hs := r9.out.set (.slice none 0 0) noRec
          exact bodyPost_ret (v := .tuple #[recV (.slice none 0 0) noRec, .int .i64 40]) (by simp [results, Tryz.results145, go_sem, c0, c1, c2, c3, fr, noRec, recV]) rfl
            ⟨_, by rw [decErr4_some, HOK2.out]; rfl, by rw [decRec4_some, HOK2.out]; exact ⟨_, rfl, RowF.nil _ _⟩, Below.trans (B := w.heap.size) hE9 (hs.2.below (Nat.le_refl _) hE9.size)⟩
/- Layer 4, the program: tags, sameness, places. -/
/- Layer 4, the program: one record, or two. -/
theorem bytes_eq (a b : List UInt8) : ((⟨a.toArray⟩ : ByteArray) = ⟨b.toArray⟩) ↔ a = b := by
  constructor
  · intro h
    have := congrArg (fun x => x.data.toList) h
    simpa using this
  · rintro rfl; rfl
set_option maxHeartbeats 2000000 in
theorem same4_any (v u : Value) (a b : Rec.R) (w : World) (hv : IsRec w v a) (hu : IsRec w u b) :
    Calls Tryz.prog 59 #[v, u] w fun e w' => e = .returned (.bool (Rec.same a b)) ∧ Ext w w' := by
  have hbx := box_rec
  obtain ⟨t, rfl, ht⟩ := hv
  obtain ⟨t2, rfl, ht2⟩ := hu
  obtain ⟨c, n, ts, d⟩ := a
  obtain ⟨c2, n2, ts2, d2⟩ := b
  unfold recV at *
  simp only at ht ht2 ⊢
  obtain ⟨a1, cap1, rfl, hcap1, hmax1, _, _⟩ := ht.open
  obtain ⟨a2, cap2, rfl, hcap2, hmax2, _, _⟩ := ht2.open
  unfold maxLen at hmax1 hmax2
  have HT := Lib.hid ht
  have HT2 := Lib.hid ht2
  clear ht ht2
  have hE : Ext w ((w.alloc (.cells #[.int .i64 c, .int .i64 n, .slice a1 ts.length cap1, .string ⟨d.toArray⟩] 44)).alloc (.cells #[.int .i64 c2, .int .i64 n2, .slice a2 ts2.length cap2, .string ⟨d2.toArray⟩] 44)) := ext_two _ _ _
  have HH := Lib.hid (heap_two w (.cells #[.int .i64 c, .int .i64 n, .slice a1 ts.length cap1, .string ⟨d.toArray⟩] 44) (.cells #[.int .i64 c2, .int .i64 n2, .slice a2 ts2.length cap2, .string ⟨d2.toArray⟩] 44))
  by_cases h1 : c = c2
  · subst h1
    by_cases h2 : n = n2
    · subst h2
      have e0 := Lib.hid (show Rec.same ⟨c, n, ts, d⟩ ⟨c, n, ts2, d2⟩ = ((ts == ts2) && (d == d2)) by unfold Rec.same; simp)
      cases h3 : (ts == ts2) with
      | false =>
        rw [h3] at e0
        have H3 := Lib.hid h3
        clear h3
        go_enter Tryz.func59, Tryz.ntmps59
        go_wp2_with fail
        refine (equalS_any _ _ ts ts2 _ (HT.out.below hE) (HT2.out.below hE)).mono ?_
        rw [H3.out]
        rintro e w3 ⟨rfl, hE3⟩
        go_wp2_with fail
        go_ret
        exact ⟨by rw [e0.out]; rfl, hE.trans hE3⟩
      | true =>
        rw [h3] at e0
        have H3 := Lib.hid h3
        have hd := bytes_eq d d2
        clear h3
        go_enter Tryz.func59, Tryz.ntmps59
        go_wp2_with fail
        refine (equalS_any _ _ ts ts2 _ (HT.out.below hE) (HT2.out.below hE)).mono ?_
        rw [H3.out]
        rintro e w3 ⟨rfl, hE3⟩
        have z1 := cell_of_heap (heap_ext HH.out.1 hE3) 3
        have z2 := cell_of_heap (heap_ext HH.out.2 hE3) 3
        simp at z1 z2
        go_wp2_with fail
        go_ret
        exact ⟨by rw [e0.out]; rfl, hE.trans hE3⟩
    · have e := Lib.hid (show Rec.same ⟨c, n, ts, d⟩ ⟨c, n2, ts2, d2⟩ = false by unfold Rec.same; simp [h2])
      go_enter Tryz.func59, Tryz.ntmps59
      go_wp2_with fail
      go_ret
      exact ⟨by rw [e.out]; rfl, hE⟩
  · have e := Lib.hid (show Rec.same ⟨c, n, ts, d⟩ ⟨c2, n2, ts2, d2⟩ = false by unfold Rec.same; simp [h1])
    go_enter Tryz.func59, Tryz.ntmps59
    go_wp2_with fail
    go_ret
    exact ⟨by rw [e.out]; rfl, hE⟩

set_option maxHeartbeats 4000000 in
theorem refSame4_any (v u : Value) (a b : Rec.R) (w : World) (hv : IsRec w v a) (hu : IsRec w u b) :
    Calls Tryz.prog 16 #[v, u] w fun e w' => e = .returned (.bool (Rec.same a b)) ∧ Ext w w' := by
  have hbx := box_rec
  obtain ⟨t, rfl, ht⟩ := hv
  obtain ⟨t2, rfl, ht2⟩ := hu
  obtain ⟨c, n, ts, d⟩ := a
  obtain ⟨c2, n2, ts2, d2⟩ := b
  unfold recV at *
  simp only at ht ht2 ⊢
  obtain ⟨a1, cap1, rfl, hcap1, hmax1, _, _⟩ := ht.open
  obtain ⟨a2, cap2, rfl, hcap2, hmax2, _, _⟩ := ht2.open
  unfold maxLen at hmax1 hmax2
  have HT := Lib.hid ht
  have HT2 := Lib.hid ht2
  clear ht ht2
  have hE : Ext w ((w.alloc (.cells #[.int .i64 c, .int .i64 n, .slice a1 ts.length cap1, .string ⟨d.toArray⟩] 44)).alloc (.cells #[.int .i64 c2, .int .i64 n2, .slice a2 ts2.length cap2, .string ⟨d2.toArray⟩] 44)) := ext_two _ _ _
  have HH := Lib.hid (heap_two w (.cells #[.int .i64 c, .int .i64 n, .slice a1 ts.length cap1, .string ⟨d.toArray⟩] 44) (.cells #[.int .i64 c2, .int .i64 n2, .slice a2 ts2.length cap2, .string ⟨d2.toArray⟩] 44))
  by_cases h1 : c = c2
  · subst h1
    by_cases h2 : n = n2
    · subst h2
      by_cases h3 : d = d2
      · subst h3
        by_cases h4 : ts.length = ts2.length
        · have e0 := Lib.hid (show Rec.same ⟨c, n, ts, d⟩ ⟨c, n, ts2, d⟩ = (ts == ts2) by unfold Rec.same; simp)
          have h4' : ((ts.length : Int) == (ts2.length : Int)) = true := by rw [h4]; simp
          have HL := Lib.hid h4
          clear h4
          go_enter Tryz.func16, Tryz.ntmps16
          go_wp2_with fail
          go_loopw [5] (fun i wr => ∃ k : Nat, k ≤ ts.length ∧ i = .int .i64 k ∧ Hid (∀ i, i < k → ∀ (h1 : i < ts.length) (h2 : i < ts2.length), ts[i] = ts2[i]) ∧ Ext ((w.alloc (.cells #[.int .i64 c, .int .i64 n, .slice a1 ts.length cap1, .string ⟨d.toArray⟩] 44)).alloc (.cells #[.int .i64 c, .int .i64 n, .slice a2 ts2.length cap2, .string ⟨d.toArray⟩] 44)) wr) (fun i _ => ts.length - (intOf i).toNat)
          case atStart => exact ⟨0, by omega, rfl, fun i hi => absurd hi (by omega), Ext.refl _⟩
          case round =>
            obtain ⟨k, hk, rfl, hr, hE3⟩ := hrel
            have y1 := cell_of_heap (heap_ext HH.out.1 hE3) 2
            simp at y1
            by_cases hlt : k < ts.length
            · have hlt2 : k < ts2.length := by have := HL.out; omega
              obtain ⟨a', cap', e', _, _, _, hc⟩ := ((HT.out.below (hE.trans hE3)).below (Ext.drew wr)).open
              obtain ⟨b, off, rfl, hcell⟩ := hc k hlt
              injection e' with e1 e2 e3
              subst e1
              obtain ⟨a3, cap3, e', _, _, _, hc2⟩ := ((HT2.out.below (hE.trans hE3)).below (Ext.drew wr)).open
              obtain ⟨b2, off2, rfl, hcell2⟩ := hc2 k hlt2
              injection e' with e4 e5 e6
              subst e4
              clear hc hc2 e2 e3 e5 e6
              have z1 := cell_of_heap (heap_ext HH.out.1 (hE3.trans (Ext.drew wr))) 2
              have z2 := cell_of_heap (heap_ext HH.out.2 (hE3.trans (Ext.drew wr))) 2
              simp at z1 z2
              by_cases h0 : ts[k] = ts2[k]
              · have h0' : (ts[k] == ts2[k]) = true := by rw [h0]; simp
                have H0 := Lib.hid h0
                clear h0
                go_wp2_with fail
                go_region
                all_goals
                  go_wp2
                  go_roundw
                  case rel =>
                    refine ⟨k + 1, by omega, by go_num, fun i hi h1 h2 => ?_, hE3.trans (Ext.drew _)⟩
                    rcases Nat.lt_or_ge i k with h | h
                    · exact hr.out i h h1 h2
                    · obtain rfl : i = k := by omega
                      exact H0.out
                  case measure => simp [intOf]; omega
              · have h0' : (ts[k] == ts2[k]) = false := by rw [beq_eq_false_iff_ne]; exact h0
                have H0 := Lib.hid (list_ne k hlt hlt2 h0)
                clear h0
                go_wp2_with fail
                go_region
                all_goals
                  go_wp2
                  go_ret
                  exact ⟨by rw [e0.out, H0.out]; rfl, hE.trans (hE3.trans (Ext.drew _))⟩
            · have hs := Lib.hid (list_same HL.out (fun i h => hr.out i (by omega)))
              clear hr
              go_wp2
              go_ret
              exact ⟨by rw [e0.out, hs.out]; rfl, hE.trans hE3⟩
        · have e := Lib.hid (show Rec.same ⟨c, n, ts, d⟩ ⟨c, n, ts2, d⟩ = false by unfold Rec.same; rw [list_other h4]; simp)
          have h4' : ((ts.length : Int) == (ts2.length : Int)) = false := by rw [beq_eq_false_iff_ne]; omega
          go_enter Tryz.func16, Tryz.ntmps16
          go_wp2_with fail
          go_ret
          exact ⟨by rw [e.out]; rfl, hE⟩
      · have e := Lib.hid (show Rec.same ⟨c, n, ts, d⟩ ⟨c, n, ts2, d2⟩ = false by unfold Rec.same; simp [h3])
        have h3' : (d == d2) = false := beq_eq_false_iff_ne.2 h3
        go_enter Tryz.func16, Tryz.ntmps16
        go_wp2_with fail
        go_ret
        exact ⟨by rw [e.out]; rfl, hE⟩
    · have e := Lib.hid (show Rec.same ⟨c, n, ts, d⟩ ⟨c, n2, ts2, d2⟩ = false by unfold Rec.same; simp [h2])
      go_enter Tryz.func16, Tryz.ntmps16
      go_wp2_with fail
      go_ret
      exact ⟨by rw [e.out]; rfl, hE⟩
  · have e := Lib.hid (show Rec.same ⟨c, n, ts, d⟩ ⟨c2, n2, ts2, d2⟩ = false by unfold Rec.same; simp [h1])
    go_enter Tryz.func16, Tryz.ntmps16
    go_wp2_with fail
    go_ret
    exact ⟨by rw [e.out]; rfl, hE⟩
/- Layer 4: bytes as records: the document's own answer. -/
theorem build_ref4 (w : World) (s : ByteArray) : (Instr.build 158 #[(0, .string s)]).run Tryz.prog w = .ok (.agg #[.string s, .int .i64 0]) w := by kernel_rfl
theorem set_two4 {w : World} {q : Nat} {x0 x1 : Value} {T : TypeId} (h : w.heap[q]? = some (.cells #[x0, x1] T (0, 0))) (v0 v1 : Value) :
    ((w.setCell ⟨q, 0, none⟩ v0).setCell ⟨q, 1, none⟩ v1).heap[q]? = some (.cells #[v0, v1] T (0, 0)) ∧ But q w ((w.setCell ⟨q, 0, none⟩ v0).setCell ⟨q, 1, none⟩ v1) := by
  refine ⟨?_, ((But.refl _ _).setCell 0 none v0).setCell 1 none v1⟩
  have := heap_setCell (heap_setCell h 0 v0) 1 v1
  simpa using this
/-- Block q is the document's reader in this state. -/
def RefAt (w : World) (q n : Nat) (s : Pack.St) : Prop := ∃ lk : List UInt8, w.heap[q]? = some (.cells #[.string ⟨lk.toArray⟩, .int .i64 s.err] 158 (0, 0)) ∧ Sim lk s ∧ lk.length ≤ n
theorem RefAt.lt {w : World} {q n : Nat} {s : Pack.St} (h : RefAt w q n s) : q < w.heap.size := by
  obtain ⟨lk, h, _⟩ := h
  exact (Array.getElem?_eq_some_iff.1 h).1
theorem RefAt.ext {w w' : World} {q n : Nat} {s : Pack.St} (h : RefAt w q n s) (hE : Ext w w') : RefAt w' q n s := by
  have hlt := h.lt
  obtain ⟨lk, h1, h2⟩ := h
  exact ⟨lk, (hE.block q hlt).trans h1, h2⟩
theorem RefAt.but {w w' : World} {q p n : Nat} {s : Pack.St} (h : RefAt w q n s) (hB : But p w w') (hne : q ≠ p) : RefAt w' q n s := by
  have hlt := h.lt
  obtain ⟨lk, h1, h2⟩ := h
  exact ⟨lk, (hB.block q hlt hne).trans h1, h2⟩
theorem RefAt.grown {w w' : World} {q n : Nat} {s : Pack.St} {o : Option Nat} (h : RefAt w q n s) (hg : w.grownBy w' o) (hne : some q ≠ o) : RefAt w' q n s := by
  have hlt := h.lt
  obtain ⟨lk, h1, h2⟩ := h
  exact ⟨lk, (hg.block q hlt hne).trans h1, h2⟩
theorem RefAt.set {w : World} {q n : Nat} {s : Pack.St} (h : RefAt w q n s) {l : List UInt8} {s' : Pack.St} (hs : Sim l s') (hl : l.length ≤ n) :
    RefAt ((w.setCell ⟨q, 0, none⟩ (.string ⟨l.toArray⟩)).setCell ⟨q, 1, none⟩ (.int .i64 s'.err)) q n s' ∧ But q w ((w.setCell ⟨q, 0, none⟩ (.string ⟨l.toArray⟩)).setCell ⟨q, 1, none⟩ (.int .i64 s'.err)) := by
  obtain ⟨lk, h1, h2⟩ := h
  have := set_two4 h1 (.string ⟨l.toArray⟩) (.int .i64 s'.err)
  exact ⟨⟨l, this.1, hs, hl⟩, this.2⟩
theorem RefAt.beside {w : World} {q m n base : Nat} {s : Pack.St} {v : Value} {xs : List Value} (h : RefAt w q m s) (ho : w.ownsRow base 3 1 v n xs) : some q ≠ v.ownBlock := by
  obtain ⟨lk, h, _⟩ := h
  exact row_beside4 ho h (by decide)
theorem RecAt.client {w : World} {p : Nat} {t : Value} {c c' n : Int} {ts : List Int} {d : List UInt8} (h : RecAt w p t ⟨c, n, ts, d⟩) : RecAt (w.setCell ⟨p, 0, none⟩ (.int .i64 c')) p t ⟨c', n, ts, d⟩ := by
  have := heap_setCell h 0 (.int .i64 c')
  unfold RecAt
  simpa using this
theorem RecAt.number {w : World} {p : Nat} {t : Value} {c n n' : Int} {ts : List Int} {d : List UInt8} (h : RecAt w p t ⟨c, n, ts, d⟩) : RecAt (w.setCell ⟨p, 1, none⟩ (.int .i64 n')) p t ⟨c, n', ts, d⟩ := by
  have := heap_setCell h 1 (.int .i64 n')
  unfold RecAt
  simpa using this

set_option maxHeartbeats 8000000 in
theorem refDecode4_row (v : Value) (l : List UInt8) (w : World) (hv : Bytes w v l) (hl : l.length ≤ 100000) :
    Calls Tryz.prog 80 #[v] w (GivesRow4 w (Crc.cutOf l)) := by
  have hb0 := build_rec0
  have hbr := build_ref4
  have HV := Lib.hid hv
  obtain ⟨a, cap, rfl, hcap, hmax, hn, hc⟩ := hv.open
  unfold maxLen at hmax
  clear hv hc
  obtain ⟨C, hC⟩ : ∃ C, Crc.cutOf l = C := ⟨_, rfl⟩
  rw [hC]
  have HC := Lib.hid hC
  clear hC
  unfold GivesRow4
  have hE0 : Ext w (w.alloc (.cells #[.int .i64 0, .int .i64 0, .slice none 0 0, .string ⟨#[]⟩] 44)) := Ext.alloc _ _
  have HR0 := Lib.hid (RecAt.zero w)
  go_enter Tryz.func80, Tryz.ntmps80
  go_wp2_with fail
  have hcall := cut_ref _ l _ (HV.out.below hE0) (by omega)
  rw [HC.out] at hcall
  refine hcall.mono ?_
  clear hcall
  intro e w1 hq
  obtain ⟨hE1, hcut⟩ := hq
  have r1 := Lib.hid (HR0.out.ext hE1)
  have e1 := hE0.trans hE1
  cases C with
  | none =>
    subst hcut
    obtain ⟨c0, c1, c2, c3⟩ := r1.out.cells
    have fr : ∀ i, w1.frozen? ⟨w.heap.size, i, none⟩ = false := fun i => frozen_of_heap r1.out i
    go_wp2_with fail
    have hs := r1.out.set (.slice none 0 0) noRec
    exact bodyPost_ret (v := .tuple #[recV (.slice none 0 0) noRec, .int .i64 41]) (by simp [results, Tryz.results80, go_sem, c0, c1, c2, c3, noRec, recV]) rfl ⟨_, rfl, ⟨_, rfl, RowI.nil _⟩, Below.trans (B := w.heap.size) e1 (hs.2.below (Nat.le_refl _) e1.size)⟩
  | some t =>
    obtain ⟨v2, rfl, hb2⟩ := hcut
    have htl : t.length ≤ l.length := by
      have := HC.out
      unfold Crc.cutOf at this
      split at this
      · cases this
      · split at this
        · injection this with this
          rw [← this, List.length_take]
          omega
        · cases this
    have hst := run_str (P := Tryz.prog) 22 9 5 Tryz.underlying22 Tryz.underlying5 Tryz.underlying9 hb2
    obtain ⟨a2, n2, k2, rfl⟩ := hb2.isSlice
    obtain ⟨A, hA⟩ : ∃ A, Pack.St.num ⟨t, 0⟩ 1099511627776 = A := ⟨_, rfl⟩
    obtain ⟨B, hB⟩ : ∃ B, A.1.num 1099511627776 = B := ⟨_, rfl⟩
    obtain ⟨C, hC⟩ : ∃ C, B.1.num 8 = C := ⟨_, rfl⟩
    have sA : Rec.stA t = A := hA
    have sB : Rec.stB t = B := by unfold Rec.stB; rw [sA]; exact hB
    have sC : Rec.stC t = C := by unfold Rec.stC; rw [sB]; exact hC
    have hC8 : C.2 ≤ 8 := by
      have := num_most4 B.1 8 (by omega)
      rw [hC] at this
      omega
    have h1 := readNumRef_any t 1099511627776 ⟨t, 0⟩ ((w1.alloc (.cells #[.string ⟨t.toArray⟩, .int .i64 0] 158)).alloc (.cells #[.int .i64 0, .int .i64 0, .slice none 0 0, .string ⟨#[]⟩] 44)) ⟨fun _ => rfl, fun h => absurd rfl h⟩ (by omega)
    rw [hA] at h1
    unfold refVal at h1
    have H1 := Lib.hid h1
    have HB := Lib.hid hB
    have HCC := Lib.hid hC
    have HS := Lib.hid (And.intro sA (And.intro sB sC))
    have hE2 : Ext w1 ((w1.alloc (.cells #[.string ⟨t.toArray⟩, .int .i64 0] 158)).alloc (.cells #[.int .i64 0, .int .i64 0, .slice none 0 0, .string ⟨#[]⟩] 44)) := ext_two _ _ _
    have hh := heap_two w1 (.cells #[.string ⟨t.toArray⟩, .int .i64 0] 158) (.cells #[.int .i64 0, .int .i64 0, .slice none 0 0, .string ⟨#[]⟩] 44)
    have HH := Lib.hid hh
    clear hA hB hC sA sB sC h1 hb2 hh
    go_wp2_with fail
    refine H1.out.mono ?_
    rintro e w2 ⟨l2, rfl, hs2, hl2, hE3⟩
    have e2 := e1.trans (hE2.trans hE3)
    have d2 : RefAt w2 w1.heap.size t.length ⟨t, 0⟩ := ⟨t, heap_ext HH.out.1 hE3, ⟨fun _ => rfl, fun h => absurd rfl h⟩, Nat.le_refl _⟩
    have x2 : RecAt w2 (w1.heap.size + 1) (.slice none 0 0) ⟨0, 0, [], []⟩ := by
      have := heap_ext HH.out.2 hE3
      exact this
    have r2 : RecAt w2 w.heap.size (.slice none 0 0) noRec := r1.out.ext (hE2.trans hE3)
    have h01 : w.heap.size < w1.heap.size := r1.out.lt
    obtain ⟨qr, hqr⟩ : ∃ qr, w1.heap.size = qr := ⟨_, rfl⟩
    rw [hqr] at d2 x2 h01 ⊢
    clear hqr HH H1 hst
    -- the first number is kept
    have hlt2 := d2.lt
    obtain ⟨lk, hk, _, _⟩ := d2
    have d2 : RefAt w2 qr t.length ⟨t, 0⟩ := ⟨lk, hk, by assumption, by assumption⟩
    have z0 := cell_of_heap hk 0
    have z1 := cell_of_heap hk 1
    have fz := fun i => frozen_of_heap hk i
    simp at z0 z1
    obtain ⟨c0, c1, c2, c3⟩ := x2.cells
    have fx := fun i => frozen_of_heap x2 i
    have D2 := Lib.hid (d2.set hs2 hl2)
    have X2 := Lib.hid x2
    have R2 := Lib.hid r2
    clear hk x2 r2 d2
    go_wp2_with fail
    have E3 : Ext w (((w2.setCell ⟨qr, 0, none⟩ (.string ⟨l2.toArray⟩)).setCell ⟨qr, 1, none⟩ (.int .i64 A.1.err)).setCell ⟨qr + 1, 0, none⟩ (.int .i64 (A.2 : Int))) :=
      Below.setCell (Below.trans (B := w.heap.size) e2 (D2.out.2.below (by omega) e2.size)) (p := ⟨qr + 1, 0, none⟩) (by show w.heap.size ≤ qr + 1; omega) _
    have X3 := Lib.hid (RecAt.client (c' := (A.2 : Int)) (X2.out.but D2.out.2 (by omega)))
    have D3 := Lib.hid (D2.out.1.but (grownBy_but4 _ (qr + 1) 0 (.int .i64 (A.2 : Int))) (by omega))
    have R3 := Lib.hid ((R2.out.but D2.out.2 (by omega)).but (grownBy_but4 _ (qr + 1) 0 (.int .i64 (A.2 : Int))) (by omega))
    generalize hw3 : (((w2.setCell ⟨qr, 0, none⟩ (.string ⟨l2.toArray⟩)).setCell ⟨qr, 1, none⟩ (.int .i64 A.1.err)).setCell ⟨qr + 1, 0, none⟩ (.int .i64 (A.2 : Int))) = w3 at *
    clear hw3 D2 X2 R2 z0 z1 fz c0 c1 c2 c3 fx
    have h3 := readNumRef_any l2 1099511627776 A.1 w3 hs2 (by omega)
    rw [HB.out] at h3
    unfold refVal at h3
    refine h3.mono ?_
    clear h3
    rintro e w4 ⟨l4, rfl, hs4, hl4, hE4⟩
    have e4 := E3.trans hE4
    -- the second number is kept
    have d4 : RefAt w4 qr t.length A.1 := D3.out.ext hE4
    have x4 := X3.out.ext hE4
    have hl4' : l4.length ≤ t.length := by omega
    obtain ⟨lk4, hk4, _, _⟩ := d4
    have d4 : RefAt w4 qr t.length A.1 := ⟨lk4, hk4, by assumption, by assumption⟩
    have z0 := cell_of_heap hk4 0
    have z1 := cell_of_heap hk4 1
    have fz := fun i => frozen_of_heap hk4 i
    simp at z0 z1
    obtain ⟨c0, c1, c2, c3⟩ := x4.cells
    have fx := fun i => frozen_of_heap x4 i
    have D4 := Lib.hid (d4.set hs4 hl4')
    have X4 := Lib.hid x4
    have R4 := Lib.hid (R3.out.ext hE4)
    clear hk4 x4 d4 X3 D3 R3
    go_wp2_with fail
    have E5 : Ext w (((w4.setCell ⟨qr, 0, none⟩ (.string ⟨l4.toArray⟩)).setCell ⟨qr, 1, none⟩ (.int .i64 B.1.err)).setCell ⟨qr + 1, 1, none⟩ (.int .i64 (B.2 : Int))) :=
      Below.setCell (Below.trans (B := w.heap.size) e4 (D4.out.2.below (by omega) e4.size)) (p := ⟨qr + 1, 1, none⟩) (by show w.heap.size ≤ qr + 1; omega) _
    have X5 := Lib.hid (RecAt.number (n' := (B.2 : Int)) (X4.out.but D4.out.2 (by omega)))
    have D5 := Lib.hid (D4.out.1.but (grownBy_but4 _ (qr + 1) 1 (.int .i64 (B.2 : Int))) (by omega))
    have R5 := Lib.hid ((R4.out.but D4.out.2 (by omega)).but (grownBy_but4 _ (qr + 1) 1 (.int .i64 (B.2 : Int))) (by omega))
    generalize hw5 : (((w4.setCell ⟨qr, 0, none⟩ (.string ⟨l4.toArray⟩)).setCell ⟨qr, 1, none⟩ (.int .i64 B.1.err)).setCell ⟨qr + 1, 1, none⟩ (.int .i64 (B.2 : Int))) = w5 at *
    clear hw5 D4 X4 R4 z0 z1 fz c0 c1 c2 c3 fx
    have h5 := readNumRef_any l4 8 B.1 w5 hs4 (by omega)
    rw [HCC.out] at h5
    unfold refVal at h5
    refine h5.mono ?_
    clear h5
    rintro e w6 ⟨l6, rfl, hs6, hl6, hE6⟩
    have e6 := E5.trans hE6
    -- how many tags
    have d6 : RefAt w6 qr t.length B.1 := D5.out.ext hE6
    have x6 := X5.out.ext hE6
    have hl6' : l6.length ≤ t.length := by omega
    obtain ⟨lk6, hk6, _, _⟩ := d6
    have d6 : RefAt w6 qr t.length B.1 := ⟨lk6, hk6, by assumption, by assumption⟩
    have z0 := cell_of_heap hk6 0
    have z1 := cell_of_heap hk6 1
    have fz := fun i => frozen_of_heap hk6 i
    simp at z0 z1
    have D6 := Lib.hid (d6.set hs6 hl6')
    have X6 := Lib.hid x6
    have R6 := Lib.hid (R5.out.ext hE6)
    obtain ⟨m, hm⟩ : ∃ m, C.2 = m := ⟨_, rfl⟩
    rw [hm] at hC8 ⊢
    have HM := Lib.hid hm
    clear hk6 x6 d6 X5 D5 R5 hm
    go_wp2_with fail
    have ti := tI
    have E7 : Ext w ((w6.setCell ⟨qr, 0, none⟩ (.string ⟨l6.toArray⟩)).setCell ⟨qr, 1, none⟩ (.int .i64 C.1.err)) := Below.trans (B := w.heap.size) e6 (D6.out.2.below (by omega) e6.size)
    have X7 := Lib.hid (RecAt.but X6.out D6.out.2 (by omega))
    have R7 := Lib.hid (RecAt.but R6.out D6.out.2 (by omega))
    have D7 := Lib.hid D6.out.1
    generalize hw7 : ((w6.setCell ⟨qr, 0, none⟩ (.string ⟨l6.toArray⟩)).setCell ⟨qr, 1, none⟩ (.int .i64 C.1.err)) = w7 at *
    clear hw7 D6 X6 R6 z0 z1 fz
    go_loopw [9, 10, 11] (fun i _ _ wr => ∃ k : Nat, k ≤ m ∧ i = .int .i64 k ∧ ∃ tv, Hid (RecAt wr (qr + 1) tv ⟨(A.2 : Int), (B.2 : Int), (Rec.readsM 1073741824 C.1 k).2, []⟩) ∧ wr.ownsRow w.heap.size 3 1 tv k (i64s (Rec.readsM 1073741824 C.1 k).2) ∧ Hid (RefAt wr qr t.length (Rec.readsM 1073741824 C.1 k).1) ∧ Hid (RecAt wr w.heap.size (.slice none 0 0) noRec) ∧ Ext w wr) (fun i _ _ _ => m - (intOf i).toNat)
    case atStart => exact ⟨0, by omega, rfl, _, X7, World.ownsRow_nil _ _ _ _, D7, R7, E7⟩
    case round =>
      obtain ⟨k, hk, rfl, tv, x, ho, d, r, hE⟩ := hrel
      by_cases hlt : k < m
      · obtain ⟨lk8, hk8, hsim, hlk⟩ := d.out
        have dd : RefAt wr qr t.length (Rec.readsM 1073741824 C.1 k).1 := d.out
        have z0 := cell_of_heap hk8 0
        have z1 := cell_of_heap hk8 1
        simp at z0 z1
        obtain ⟨N, hN⟩ : ∃ N, (Rec.readsM 1073741824 C.1 k).1.num 1073741824 = N := ⟨_, rfl⟩
        have hnx : Rec.readsM 1073741824 C.1 (k + 1) = (N.1, (Rec.readsM 1073741824 C.1 k).2 ++ [(N.2 : Int)]) := by
          show ((((Rec.readsM 1073741824 C.1 k).1.num 1073741824).1, (Rec.readsM 1073741824 C.1 k).2 ++ [(((Rec.readsM 1073741824 C.1 k).1.num 1073741824).2 : Int)])) = _
          rw [hN]
        have h8 := readNumRef_any lk8 1073741824 (Rec.readsM 1073741824 C.1 k).1 wr hsim (by omega)
        rw [hN] at h8
        unfold refVal at h8
        obtain ⟨y, hy⟩ : ∃ y : Int, (N.2 : Int) = y := ⟨_, rfl⟩
        rw [hy] at hnx h8
        have H8 := Lib.hid h8
        have HNX := Lib.hid hnx
        have HO := Lib.hid ho
        have hone := i64s_one [y]
        have hlen : (i64s (Rec.readsM 1073741824 C.1 k).2).length = k := by rw [i64s_length, Rec.readsM_len]
        clear hk8 hN hnx hy h8 ho
        go_wp2_with fail
        refine H8.out.mono ?_
        rintro e w8 ⟨l8, rfl, hs8, hl8, hE8⟩
        have d8 : RefAt w8 qr t.length (Rec.readsM 1073741824 C.1 k).1 := dd.ext hE8
        obtain ⟨lk9, hk9, hsim9, hlk9⟩ := d8
        have d8 : RefAt w8 qr t.length (Rec.readsM 1073741824 C.1 k).1 := ⟨lk9, hk9, hsim9, hlk9⟩
        have hl8' : l8.length ≤ t.length := by omega
        have y0 := cell_of_heap hk9 0
        have y1 := cell_of_heap hk9 1
        have fz := fun i => frozen_of_heap hk9 i
        simp at y0 y1
        have D8 := Lib.hid (d8.set hs8 hl8')
        have x8 := x.out.ext hE8
        have X9 := Lib.hid (RecAt.but x8 D8.out.2 (by omega))
        have R9 := Lib.hid (RecAt.but (r.out.ext hE8) D8.out.2 (by omega))
        have O8 := Lib.hid (row_ext4 HO.out hE8)
        have hbr := row_beside4 O8.out hk9 (by decide)
        have O9 := Lib.hid (row_but4 O8.out hbr D8.out.2)
        have E8 : Ext w w8 := hE.trans hE8
        have hcq := (RecAt.ext X9.out (Ext.alloc _ (.cells #[.string ⟨l8.toArray⟩, .int .i64 N.1.err] 158))).cells.2.2.1
        have hfq := frozen_of_heap (RecAt.ext X9.out (Ext.alloc _ (.cells #[.string ⟨l8.toArray⟩, .int .i64 N.1.err] 158))) 2
        have HOA := Lib.hid ((O9.out.alloc (.cells #[.string ⟨l8.toArray⟩, .int .i64 N.1.err] 158)).alloc (.cells #[.int .i64 y] 3))
        have hsl : Sl ((((w8.setCell ⟨qr, 0, none⟩ (.string ⟨l8.toArray⟩)).setCell ⟨qr, 1, none⟩ (.int .i64 N.1.err)).alloc (.cells #[.string ⟨l8.toArray⟩, .int .i64 N.1.err] 158)).alloc (.cells #[.int .i64 y] 3)) (.slice (some ⟨w8.heap.size + 1, 0, none⟩) 1 1) (i64s [y]) := by
          have := Ints.one (((w8.setCell ⟨qr, 0, none⟩ (.string ⟨l8.toArray⟩)).setCell ⟨qr, 1, none⟩ (.int .i64 N.1.err)).alloc (.cells #[.string ⟨l8.toArray⟩, .int .i64 N.1.err] 158)) y
          unfold Ints at this
          simpa [World.setCell] using this
        have HSL := Lib.hid hsl
        clear hsl
        have hlt8 := d8.lt
        have hlt9 := x8.lt
        clear hk9 d8 dd x8 hbr
        go_wp2_with (at_builtin; refine wpList_app rfl (.tmp 54) (.tmp 56) ti rfl (base := w.heap.size) (n := k) (xs := i64s (Rec.readsM 1073741824 C.1 k).2) (ys := i64s [y]) rfl rfl HOA.out HSL.out hone ?c3 ?c4 ?c5 ?_; rotate_right; intro v9 w9 hown9 hg9; obtain ⟨a9, n9, c9, rfl⟩ := own_slice4 hown9; have hne9 : some (qr + 1) ≠ tv.ownBlock := row_beside4 O9.out X9.out (by decide); have x9 := Lib.hid (RecAt.grown4 (RecAt.ext (RecAt.ext X9.out (Ext.alloc _ (.cells #[.string ⟨l8.toArray⟩, .int .i64 N.1.err] 158))) (Ext.alloc _ (.cells #[.int .i64 y] 3))) hg9 hne9); have hc9 := (RecAt.cells x9.out).2.2.1; have hf9 := frozen_of_heap x9.out 2)
        case c3 => (try simp only [i64s_length, List.length_cons, List.length_nil]); (try unfold maxLen); omega
        case c4 => (try simp only [i64s_length, List.length_cons, List.length_nil]); omega
        case c5 => have := E8.size; simp only [World.size_alloc, World.size_setCell]; omega
        have hg9' := Lib.hid (show ((((w8.setCell ⟨qr, 0, none⟩ (.string ⟨l8.toArray⟩)).setCell ⟨qr, 1, none⟩ (.int .i64 N.1.err)).alloc (.cells #[.string ⟨l8.toArray⟩, .int .i64 N.1.err] 158)).alloc (.cells #[.int .i64 y] 3)).grownBy w9 tv.ownBlock from hg9)
        go_roundw
        case rel =>
          have hg9 := hg9'.out
          have hx10 := x9.out.tags (t' := .slice a9 n9 c9) (ts' := (Rec.readsM 1073741824 C.1 (k + 1)).2)
          have hb9 := row_beside4 hown9 x9.out (by decide)
          have ho10 := (hown9.kept (grownBy_set4 w9 (qr + 1) 2 (.slice a9 n9 c9)) (.inr (Ne.symm hb9)))
          have hneR := D8.out.1.beside O9.out
          have hd10 := ((((D8.out.1).ext (Ext.alloc _ _)).ext (Ext.alloc _ _)).grown hg9 hneR).but (grownBy_but4 w9 (qr + 1) 2 (.slice a9 n9 c9)) (by omega)
          have hne0 : some w.heap.size ≠ tv.ownBlock := row_beside4 O9.out R9.out (by decide)
          have hr10 := (RecAt.grown4 (RecAt.ext (RecAt.ext R9.out (Ext.alloc _ _)) (Ext.alloc _ _)) hg9 hne0).but (grownBy_but4 w9 (qr + 1) 2 (.slice a9 n9 c9)) (by omega)
          have E9 : Ext w ((((w8.setCell ⟨qr, 0, none⟩ (.string ⟨l8.toArray⟩)).setCell ⟨qr, 1, none⟩ (.int .i64 N.1.err)).alloc (.cells #[.string ⟨l8.toArray⟩, .int .i64 N.1.err] 158)).alloc (.cells #[.int .i64 y] 3)) := Ext.trans (Ext.trans (show Ext w _ from Below.trans (B := w.heap.size) E8 (D8.out.2.below (by omega) E8.size)) (Ext.alloc _ _)) (Ext.alloc _ _)
          have E10 : Ext w (w9.setCell ⟨qr + 1, 2, none⟩ (.slice a9 n9 c9)) := Below.setCell (Below.grown E9 hg9 E9.size (fun j hj => (O9.out.lt j hj).1)) (p := ⟨qr + 1, 2, none⟩) (by show w.heap.size ≤ qr + 1; omega) _
          refine ⟨k + 1, by omega, by go_num, _, hx10, ?_, ?_, hr10, E10⟩
          · rw [HNX.out, i64s_append]; exact ho10
          · rw [HNX.out]; exact hd10
        case measure => simp [intOf]; omega
      · obtain rfl : k = m := by omega
        have hD : Rec.stD t = Rec.readsM 1073741824 C.1 k := by unfold Rec.stD; rw [HS.out.2.2, HM.out]
        obtain ⟨D, hDD⟩ : ∃ D, Rec.readsM 1073741824 C.1 k = D := ⟨_, rfl⟩
        obtain ⟨F, hF⟩ : ∃ F, D.1.text 1024 = F := ⟨_, rfl⟩
        rw [hDD] at hD x ho d
        have hEq : Rec.stE t = F := by unfold Rec.stE; rw [hD, hF]
        have hread : Rec.read t = ⟨(A.2 : Int), (B.2 : Int), D.2, F.2⟩ := by unfold Rec.read; rw [HS.out.1, HS.out.2.1, hD, hEq]
        have hok : Rec.readOk t = ((F.1.done == 0) && Rec.right ⟨(A.2 : Int), (B.2 : Int), D.2, F.2⟩) := by unfold Rec.readOk; rw [hEq, hread]
        obtain ⟨lk8, hk8, hsim, hlk⟩ := d.out
        have dd : RefAt wr qr t.length D.1 := d.out
        have z0 := cell_of_heap hk8 0
        have z1 := cell_of_heap hk8 1
        simp at z0 z1
        have h8 := readTextRef_any lk8 1024 D.1 wr hsim (by omega)
        rw [hF] at h8
        unfold refVal at h8
        obtain ⟨a9, n9, c9, rfl⟩ := own_slice4 ho
        have HRD := Lib.hid hread
        have HOK := Lib.hid hok
        have H8 := Lib.hid h8
        have HO := Lib.hid ho
        clear hD hDD hF hEq hread hok h8 hk8 ho
        go_wp2_with fail
        refine H8.out.mono ?_
        rintro e w8 ⟨l8, rfl, hs8, hl8, hE8⟩
        have d8 : RefAt w8 qr t.length D.1 := dd.ext hE8
        obtain ⟨lk9, hk9, hsim9, hlk9⟩ := d8
        have d8 : RefAt w8 qr t.length D.1 := ⟨lk9, hk9, hsim9, hlk9⟩
        have hl8' : l8.length ≤ t.length := by omega
        have y0 := cell_of_heap hk9 0
        have y1 := cell_of_heap hk9 1
        have fz := fun i => frozen_of_heap hk9 i
        simp at y0 y1
        have D8 := Lib.hid (d8.set hs8 hl8')
        have X8 := Lib.hid (x.out.ext hE8)
        obtain ⟨c0, c1, c2, c3⟩ := X8.out.cells
        have fx := fun i => frozen_of_heap X8.out i
        have R8 := Lib.hid (r.out.ext hE8)
        have O8 := Lib.hid (row_ext4 HO.out hE8)
        have E8 : Ext w w8 := hE.trans hE8
        have X9 := Lib.hid (RecAt.data (X8.out.but D8.out.2 (by omega)) F.2)
        have D9 := Lib.hid (D8.out.1.but (grownBy_but4 _ (qr + 1) 3 (.string ⟨F.2.toArray⟩)) (by omega))
        have R9 := Lib.hid ((R8.out.but D8.out.2 (by omega)).but (grownBy_but4 _ (qr + 1) 3 (.string ⟨F.2.toArray⟩)) (by omega))
        have O9 := Lib.hid (row_but4 (row_but4 O8.out (row_beside4 O8.out hk9 (by decide)) D8.out.2) (row_beside4 O8.out X8.out (by decide)) (grownBy_but4 _ (qr + 1) 3 (.string ⟨F.2.toArray⟩)))
        have E9 : Ext w (((w8.setCell ⟨qr, 0, none⟩ (.string ⟨l8.toArray⟩)).setCell ⟨qr, 1, none⟩ (.int .i64 F.1.err)).setCell ⟨qr + 1, 3, none⟩ (.string ⟨F.2.toArray⟩)) :=
          Below.setCell (Below.trans (B := w.heap.size) E8 (D8.out.2.below (by omega) E8.size)) (p := ⟨qr + 1, 3, none⟩) (by show w.heap.size ≤ qr + 1; omega) _
        have HE9 := Lib.hid E9
        clear hk9 d8 dd E9 z0 z1
        go_wp2_with fail
        have hsim9' := hs8
        generalize hw9 : (((w8.setCell ⟨qr, 0, none⟩ (.string ⟨l8.toArray⟩)).setCell ⟨qr, 1, none⟩ (.int .i64 F.1.err)).setCell ⟨qr + 1, 3, none⟩ (.string ⟨F.2.toArray⟩)) = w9 at *
        have HI9 := Lib.hid (show Ints w9 (.slice a9 n9 c9) D.2 from Sl.ofOwn O9.out)
        have hE9 := HE9.out
        clear hw9 c0 c1 c2 c3 fx fz y0 y1 D8 X8 R8 O8
        have h9 := endRef_any l8 F.1 w9 hs8 (by omega)
        unfold refVal at h9
        refine h9.mono ?_
        clear h9
        obtain ⟨d, hdd⟩ : ∃ d, F.1.done = d := ⟨_, rfl⟩
        rw [hdd] at HOK ⊢
        clear hdd
        rintro e w10 ⟨rfl, hE10⟩
        have x9 := Lib.hid (X9.out.ext hE10)
        have r9 := Lib.hid (R9.out.ext hE10)
        have o9 := Lib.hid (row_ext4 O9.out hE10)
        have HI10 := Lib.hid (HI9.out.below hE10)
        have e10 := hE9.trans hE10
        by_cases hd : d = 0
        · subst hd
          have hd' : ((0 : Int) == 0) = true := rfl
          have hok2 : Rec.readOk t = Rec.right ⟨(A.2 : Int), (B.2 : Int), D.2, F.2⟩ := by rw [HOK.out, hd']; rfl
          have HOK2 := Lib.hid hok2
          obtain ⟨d0, d1, d2, d3⟩ := x9.out.cells
          clear hok2 hd'
          go_wp2_with fail
          refine (refRight4_any _ ⟨(A.2 : Int), (B.2 : Int), D.2, F.2⟩ _ ⟨_, rfl, HI10.out⟩).mono ?_
          rintro e w11 ⟨rfl, hE11⟩
          have r11 := Lib.hid (r9.out.ext hE11)
          have x11 := Lib.hid (x9.out.ext hE11)
          have e11 := e10.trans hE11
          clear d0 d1 d2 d3
          obtain ⟨c0, c1, c2, c3⟩ := r11.out.cells
          obtain ⟨d0, d1, d2, d3⟩ := x11.out.cells
          have fr : ∀ i, w11.frozen? ⟨w.heap.size, i, none⟩ = false := fun i => frozen_of_heap r11.out i
          cases hrr : Rec.right ⟨(A.2 : Int), (B.2 : Int), D.2, F.2⟩ with
          | false =>
            rw [hrr] at HOK2
            clear hrr
            go_wp2_with fail
            have hs := r11.out.set (.slice none 0 0) noRec
            exact bodyPost_ret (v := .tuple #[recV (.slice none 0 0) noRec, .int .i64 40]) (by simp [results, Tryz.results80, go_sem, c0, c1, c2, c3, fr, noRec, recV]) rfl
              ⟨_, by rw [decErr4_some, HOK2.out]; rfl, by rw [decRec4_some, HOK2.out]; exact ⟨_, rfl, RowI.nil _⟩, Below.trans (B := w.heap.size) e11 (hs.2.below (Nat.le_refl _) e11.size)⟩
          | true =>
            rw [hrr] at HOK2
            clear hrr
            go_wp2_with fail
            have hs := r11.out.set (.slice a9 n9 c9) ⟨(A.2 : Int), (B.2 : Int), D.2, F.2⟩
            have hbr : some w.heap.size ≠ (Value.slice a9 n9 c9).ownBlock := row_beside4 o9.out r9.out (by decide)
            have hi11 : RowI _ (.slice a9 n9 c9) D.2 := ⟨_, _, row_but4 (row_ext4 o9.out hE11) hbr hs.2⟩
            exact bodyPost_ret (v := .tuple #[recV (.slice a9 n9 c9) ⟨(A.2 : Int), (B.2 : Int), D.2, F.2⟩, .int .i64 0]) (by simp [results, Tryz.results80, go_sem, c0, c1, c2, c3, d0, d1, d2, d3, fr, recV]) rfl
              ⟨_, by rw [decErr4_some, HOK2.out]; rfl, by rw [decRec4_some, HOK2.out, HRD.out]; exact ⟨_, rfl, hi11⟩, Below.trans (B := w.heap.size) e11 (hs.2.below (Nat.le_refl _) e11.size)⟩
        · have hd' : (d == 0) = false := by rw [beq_eq_false_iff_ne]; exact hd
          have hok2 : Rec.readOk t = false := by rw [HOK.out, hd']; rfl
          have HOK2 := Lib.hid hok2
          obtain ⟨c0, c1, c2, c3⟩ := r9.out.cells
          have fr : ∀ i, w10.frozen? ⟨w.heap.size, i, none⟩ = false := fun i => frozen_of_heap r9.out i
          clear hok2 hd'
          go_wp2_with fail
          have hs := r9.out.set (.slice none 0 0) noRec
          exact bodyPost_ret (v := .tuple #[recV (.slice none 0 0) noRec, .int .i64 40]) (by simp [results, Tryz.results80, go_sem, c0, c1, c2, c3, fr, noRec, recV]) rfl
            ⟨_, by rw [decErr4_some, HOK2.out]; rfl, by rw [decRec4_some, HOK2.out]; exact ⟨_, rfl, RowI.nil _⟩, Below.trans (B := w.heap.size) e10 (hs.2.below (Nat.le_refl _) e10.size)⟩
/- Layer 4, the program: rows of records, and which of them have a tag. -/
/-- A record stands here. -/
def RecHere (w : World) (b o : Nat) (r : Rec.R) : Prop :=
  ∃ t, w.cell? ⟨b, o, none⟩ = some (.int .i64 r.client) ∧ w.cell? ⟨b, o + 1, none⟩ = some (.int .i64 r.number) ∧ w.cell? ⟨b, o + 2, none⟩ = some t ∧ w.cell? ⟨b, o + 3, none⟩ = some (.string ⟨r.data.toArray⟩) ∧ Ints w t r.tags
theorem RecHere.below {w w' : World} {b o : Nat} {r : Rec.R} (h : RecHere w b o r) (hb : Below w.heap.size w w') : RecHere w' b o r := by
  obtain ⟨t, h1, h2, h3, h4, h5⟩ := h
  have key : ∀ i, w'.cell? ⟨b, i, none⟩ = w.cell? ⟨b, i, none⟩ := fun i => World.cell?_of_block (w := w) (hb.block b (World.block_lt_of_cell? w _ h1))
  exact ⟨t, (key _).trans h1, (key _).trans h2, (key _).trans h3, (key _).trans h4, h5.below hb⟩
/-- A slice of records reads as these. -/
def Recs (w : World) (v : Value) (l : List Rec.R) : Prop :=
  ∃ (a : Option Addr) (cap : Nat), v = .slice a l.length cap ∧ l.length ≤ cap ∧ cap ≤ maxLen ∧ (a = none → cap = 0) ∧ ∀ i (h : i < l.length), ∃ b off, a = some ⟨b, off, none⟩ ∧ RecHere w b (off + i * 4) l[i]
theorem Recs.below {w w' : World} {v : Value} {l : List Rec.R} (h : Recs w v l) (hb : Below w.heap.size w w') : Recs w' v l := by
  obtain ⟨a, cap, rfl, h1, h2, h4, h3⟩ := h
  refine ⟨a, cap, rfl, h1, h2, h4, fun i hi => ?_⟩
  obtain ⟨b, off, e, hc⟩ := h3 i hi
  exact ⟨b, off, e, hc.below hb⟩
/- Layer 4: rows of records behind one another. -/
/-- The cells of records, each with its tags' slice. -/
def recFlat (ps : List (Value × Rec.R)) : List Value := ps.flatMap fun p => [.int .i64 p.2.client, .int .i64 p.2.number, p.1, .string ⟨p.2.data.toArray⟩]
theorem recFlat_append (ps qs : List (Value × Rec.R)) : recFlat (ps ++ qs) = recFlat ps ++ recFlat qs := by simp [recFlat]
theorem recFlat_length (ps : List (Value × Rec.R)) : (recFlat ps).length = ps.length * 4 := by
  induction ps with
  | nil => rfl
  | cons p ps ih =>
    simp only [recFlat, List.flatMap_cons, List.length_append, List.length_cons, List.length_nil] at ih ⊢
    omega
theorem recFlat_at : ∀ (ps : List (Value × Rec.R)) (i j : Nat) (hi : i < ps.length), j < 4 → (recFlat ps)[i * 4 + j]? = [Value.int .i64 ps[i].2.client, .int .i64 ps[i].2.number, ps[i].1, .string ⟨ps[i].2.data.toArray⟩][j]? := by
  intro ps
  induction ps with
  | nil => intro i j hi; exact absurd hi (by simp)
  | cons p ps ih =>
    intro i j hi hj
    unfold recFlat
    rw [List.flatMap_cons]
    cases i with
    | zero => rw [Nat.zero_mul, Nat.zero_add, List.getElem?_append_left (by simpa using hj)]; rfl
    | succ i =>
      rw [List.getElem?_append_right (by simp; omega)]
      have e : (i + 1) * 4 + j - [Value.int IntKind.i64 p.2.client, .int .i64 p.2.number, p.1, .string ⟨p.2.data.toArray⟩].length = i * 4 + j := by
        simp only [List.length_cons, List.length_nil]
        omega
      rw [e]
      exact ih i j (by simpa using hi) hj
theorem recs_of_flat {w : World} {v : Value} {ps : List (Value × Rec.R)} (h1 : ∀ p ∈ ps, Ints w p.1 p.2.tags) (h2 : SlN 4 w v ps.length (recFlat ps)) : Recs w v (ps.map (·.2)) := by
  obtain ⟨a, cap, rfl, q1, q2, q4, q5, q3⟩ := h2
  refine ⟨a, cap, by simp, by simpa using q1, q2, q4, fun i hi => ?_⟩
  have hi' : i < ps.length := by simpa using hi
  have hl := recFlat_length ps
  have cell : ∀ j, j < 4 → ∃ b off, a = some ⟨b, off, none⟩ ∧ w.cell? ⟨b, off + (i * 4 + j), none⟩ = [Value.int .i64 ps[i].2.client, .int .i64 ps[i].2.number, ps[i].1, .string ⟨ps[i].2.data.toArray⟩][j]? := by
    intro j hj
    obtain ⟨b, off, e, hc⟩ := q3 (i * 4 + j) (by omega)
    have hx := recFlat_at ps i j hi' hj
    rw [List.getElem?_eq_getElem (by omega)] at hx
    exact ⟨b, off, e, hc.trans hx⟩
  obtain ⟨b, off, rfl, k0⟩ := cell 0 (by omega)
  have same : ∀ j, j < 4 → w.cell? ⟨b, off + (i * 4 + j), none⟩ = [Value.int .i64 ps[i].2.client, .int .i64 ps[i].2.number, ps[i].1, .string ⟨ps[i].2.data.toArray⟩][j]? := by
    intro j hj
    obtain ⟨b', off', e, hc⟩ := cell j hj
    injection e with e
    injection e with e1 e2
    subst e1 e2
    exact hc
  refine ⟨b, off, rfl, ps[i].1, ?_⟩
  simp only [List.getElem_map]
  exact ⟨same 0 (by omega), same 1 (by omega), same 2 (by omega), same 3 (by omega), h1 _ (List.getElem_mem _)⟩
theorem recFlat_one {w : World} {ps : List (Value × Rec.R)} (h : ∀ p ∈ ps, Ints w p.1 p.2.tags) : ∀ y ∈ recFlat ps, y.oneCell' = true := by
  intro y hy
  unfold recFlat at hy
  rw [List.mem_flatMap] at hy
  obtain ⟨p, hp, hy⟩ := hy
  obtain ⟨a, n, c, e⟩ := Ints.isSlice (h p hp)
  simp only [List.mem_cons, List.not_mem_nil, or_false] at hy
  rcases hy with rfl | rfl | rfl | rfl
  · rfl
  · rfl
  · rw [e]; rfl
  · rfl
theorem tR : ElemN Tryz.prog 87 44 (.agg #[.int .i64 0, .int .i64 0, .slice none 0 0, .string ⟨#[]⟩]) 4 56 := ⟨Tryz.underlying87, by kernel_rfl, rfl, by omega⟩
/- Layer 4: what Decode leaves of what was encoded. -/
/-- A record's value, opened. -/
theorem IsRec.shape {w : World} {v : Value} {r : Rec.R} (h : IsRec w v r) : ∃ a n c, v = .agg #[.int .i64 r.client, .int .i64 r.number, .slice a n c, .string ⟨r.data.toArray⟩] := by
  obtain ⟨t, rfl, ht⟩ := h
  obtain ⟨a, c, rfl, _⟩ := ht.open
  exact ⟨_, _, _, rfl⟩
theorem cells4 {w : World} {p : Nat} {x0 x1 x2 x3 : Value} {T : TypeId} {fr : Nat × Nat} (h : w.heap[p]? = some (.cells #[x0, x1, x2, x3] T fr)) : w.cell? ⟨p, 0, none⟩ = some x0 ∧ w.cell? ⟨p, 1, none⟩ = some x1 ∧ w.cell? ⟨p, 2, none⟩ = some x2 ∧ w.cell? ⟨p, 3, none⟩ = some x3 :=
  ⟨cell_of_heap h 0, cell_of_heap h 1, cell_of_heap h 2, cell_of_heap h 3⟩
end Go.Proofs.YtfgjhagfpafmoaaGreat

namespace Go.Proofs.YtfgjhagfpafmoaaGreat
set_option linter.unusedSimpArgs false
set_option linter.unusedVariables false
set_option maxRecDepth 100000
open Go.ChangeShapes Go.WideShapes Go.ChangeAt Go.RowKit
/- Layer 4: a record out of what comes in. -/
section
variable {H : Type} {enc : TypeId × Value → H} {w : World} {base : Nat} {spare : Nat → Bool} {held : Bool}

theorem four_of {α : Type} {l : List α} (h : l.length = 4) : ∃ a b c d, l = [a, b, c, d] := by
  match l, h with
  | [a, b, c, d], _ => exact ⟨a, b, c, d, rfl⟩
theorem three_of {α : Type} {l : List α} (h : l.length = 3) : ∃ a b c, l = [a, b, c] := by
  match l, h with
  | [a, b, c], _ => exact ⟨a, b, c, rfl⟩
theorem two_ofR {α : Type} {l : List α} (h : l.length = 2) : ∃ a b, l = [a, b] := by
  match l, h with
  | [a, b], _ => exact ⟨a, b, rfl⟩
set_option maxRecDepth 100000 in
theorem id_of_raw {fuel : Nat} {cs : List Value} {x : DataW H × List MemPlace} (h : DataW.trod enc Tryz.prog w base spare held fuel 41 cs = some x) : ∃ c n : Int, cs = [.int .i64 c, .int .i64 n] := by
  obtain ⟨xs, n, _, rfl, hl, hlen, hf⟩ := DataW.trod_struct Tryz.underlying41 h
  have hc : Tryz.prog.cellsOf 41 = 2 := by kernel_rfl
  have hi : Tryz.prog.cellsOf 3 = 1 := by kernel_rfl
  rw [hc] at hl
  obtain ⟨c0, c1, rfl⟩ := two_ofR hl
  obtain ⟨y0, y1, rfl⟩ := two_ofR hlen
  have f0 := hf 0 _ rfl
  have f1 := hf 1 _ rfl
  simp only [hi, List.drop_zero, List.drop_succ_cons, List.take_succ_cons, List.take_zero, List.getElem?_cons_zero, List.getElem?_cons_succ] at f0 f1
  obtain ⟨n0, e0, _, _⟩ := DataW.trod_int Tryz.underlying3 f0
  obtain ⟨n1, e1, _, _⟩ := DataW.trod_int Tryz.underlying3 f1
  injection e0 with e0 _
  injection e1 with e1 _
  subst e0 e1
  exact ⟨n0, n1, rfl⟩
end
end Go.Proofs.YtfgjhagfpafmoaaGreat

namespace Go.Proofs.YtfgjhagfpafmoaaGreat
set_option maxRecDepth 100000
open Go.RowKit
/- Layer 4: the statements' own small call. -/
end Go.Proofs.YtfgjhagfpafmoaaGreat

namespace Go.Proofs.YtfgjhagfpafmoaaGreat
set_option linter.unusedSimpArgs false
set_option linter.unusedVariables false
set_option maxRecDepth 100000
open Go.ChangeShapes Go.WideShapes Go.ChangeAt Go.RowKit
/- Layer 4: records, rows of records and places, out of what comes in. -/
section
variable {H : Type} {enc : TypeId × Value → H} {w : World} {base : Nat} {spare : Nat → Bool} {held : Bool}

end
end Go.Proofs.YtfgjhagfpafmoaaGreat
