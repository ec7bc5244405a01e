/-
  Layer 4, the program: which records may be.
-/
import Derived.Test.YtjflbjlpibekhaaRecMath
import Derived.Test.YtjflbjlpibekhaaVecE
import Derived.Test.YtjflbjlpibekhaaPackAlive
namespace Go.Proofs.Ytjflbjlpibekhaa
set_option maxRecDepth 100000
open Go.RowKit

/-- A record, by value: its tags' slice, and what it holds. -/
def recV (t : Value) (r : Rec.R) : Value := .agg #[.int .i64 r.client, .int .i64 r.number, t, .string ⟨r.data.toArray⟩]
def IsRec (w : World) (v : Value) (r : Rec.R) : Prop := ∃ t, v = recV t r ∧ Ints w t r.tags
theorem IsRec.below {w w' : World} {v : Value} {r : Rec.R} (h : IsRec w v r) (hb : Below w.heap.size w w') : IsRec w' v r := by
  obtain ⟨t, rfl, h⟩ := h
  exact ⟨t, rfl, h.below hb⟩
theorem box_rec (w : World) (c n : Int) (t : Value) (s : ByteArray) : (Instr.box 26 (.agg #[.int .i64 c, .int .i64 n, t, .string s])).run Try.prog w = .ok (.pointer (some ⟨w.heap.size, 0, none⟩)) (w.alloc (.cells #[.int .i64 c, .int .i64 n, t, .string s] 26)) := by kernel_rfl

def Rec.tagsOk (ns : List Int) : Bool := decide (ns.length ≤ 8) && Rec.rising 0 ns
theorem Rec.right_eq (r : Rec.R) : Rec.right r = (Rec.okId r.client && (Rec.okId r.number && (Rec.tagsOk r.tags && decide (r.data.length ≤ 1024)))) := by
  unfold Rec.right Rec.tagsOk
  have e : decide (r.tags.length ≤ 8 ∧ r.data.length ≤ 1024) = (decide (r.tags.length ≤ 8) && decide (r.data.length ≤ 1024)) := by rw [Bool.decide_and]
  rw [e]
  cases Rec.okId r.client <;> cases Rec.okId r.number <;> cases Rec.rising 0 r.tags <;> cases decide (r.tags.length ≤ 8) <;> cases decide (r.data.length ≤ 1024) <;> rfl

set_option maxHeartbeats 1000000 in
theorem isCount4_any (n : Int) (w : World) : Calls Try.prog 33 #[.int .i64 n] w fun e w' => e = .returned (.bool (Rec.okId n)) ∧ w = w' := by
  by_cases h0 : 0 ≤ n
  · by_cases h1 : n ≤ 1099511627776
    · have e : Rec.okId n = true := by unfold Rec.okId; simp; omega
      rw [e]
      clear e
      go_enter Try.func33, Try.ntmps33
      go_wp2
      go_ret
      exact ⟨rfl, rfl⟩
    · have e : Rec.okId n = false := by unfold Rec.okId; simp; omega
      rw [e]
      clear e
      go_enter Try.func33, Try.ntmps33
      go_wp2
      go_ret
      exact ⟨rfl, rfl⟩
  · have e : Rec.okId n = false := by unfold Rec.okId; simp; omega
    rw [e]
    clear e
    go_enter Try.func33, Try.ntmps33
    go_wp2
    go_ret
    exact ⟨rfl, rfl⟩

/-- The last of the first k, or 0. -/
def Rec.lastOf (l : List Int) : Int := l.getLast?.getD 0
theorem Rec.rising_snoc (last : Int) (l : List Int) (x : Int) : Rec.rising last (l ++ [x]) = (Rec.rising last l && decide ((if l = [] then last else Rec.lastOf l) < x ∧ x ≤ 1073741824)) := by
  induction l generalizing last with
  | nil => simp [Rec.rising]
  | cons t l ih =>
    have e : (if l = [] then t else Rec.lastOf l) = Rec.lastOf (t :: l) := by
      cases l with
      | nil => rfl
      | cons a l => simp [Rec.lastOf, List.getLast?_cons]
    simp only [List.cons_append, Rec.rising, ih, e, Bool.and_assoc, if_neg (List.cons_ne_nil t l)]
theorem Rec.rising_snoc0 (l : List Int) (x : Int) : Rec.rising 0 (l ++ [x]) = (Rec.rising 0 l && decide (Rec.lastOf l < x ∧ x ≤ 1073741824)) := by
  rw [Rec.rising_snoc]
  cases l with
  | nil => rfl
  | cons a l => rw [if_neg (List.cons_ne_nil a l)]
theorem Rec.lastOf_snoc (l : List Int) (x : Int) : Rec.lastOf (l ++ [x]) = x := by
  simp [Rec.lastOf]
theorem Rec.rising_take {l : List Int} (k : Nat) (h : Rec.rising 0 (l.take k) = false) : Rec.rising 0 l = false := by
  have key : ∀ (l : List Int) (last : Int) (k : Nat), Rec.rising last (l.take k) = false → Rec.rising last l = false := by
    intro l
    induction l with
    | nil => intro last k h; simpa using h
    | cons t l ih =>
      intro last k h
      cases k with
      | zero => simp [Rec.rising] at h
      | succ k =>
        simp only [List.take_succ_cons, Rec.rising, Bool.and_eq_false_iff] at h ⊢
        rcases h with h | h
        · exact .inl h
        · exact .inr (ih t k h)
  exact key l 0 k h

set_option maxHeartbeats 2000000 in
theorem areTags_any (v : Value) (ns : List Int) (w : World) (hv : Ints w v ns) :
    Calls Try.prog 34 #[v] w fun e w' => e = .returned (.bool (Rec.tagsOk ns)) ∧ w = w' := by
  obtain ⟨a, cap, rfl, hcap, hmax, _, hc⟩ := hv.open
  unfold maxLen at hmax
  by_cases h8 : (8 : Int) < (ns.length : Int)
  · have e : Rec.tagsOk ns = false := by unfold Rec.tagsOk; rw [decide_eq_false (by omega)]; rfl
    rw [e]
    clear e hc hv
    go_enter Try.func34, Try.ntmps34
    go_wp2
    go_ret
    exact ⟨rfl, rfl⟩
  · have e : Rec.tagsOk ns = Rec.rising 0 ns := by unfold Rec.tagsOk; rw [decide_eq_true (by omega)]; rfl
    rw [e]
    clear e hv
    go_enter Try.func34, Try.ntmps34
    go_wp2
    go_loop [3, 5, 11] (fun s _ i => ∃ k : Nat, k ≤ ns.length ∧ i = .int .i64 k ∧ (∃ m : Int, s = .int .i64 m ∧ Hid (m = Rec.lastOf (ns.take k))) ∧ Hid (Rec.rising 0 (ns.take k) = true)) (fun _ _ i => ns.length - (intOf i).toNat)
    case atStart => exact ⟨0, by omega, rfl, ⟨0, rfl, rfl⟩, rfl⟩
    case round =>
      obtain ⟨k, hk, rfl, ⟨m, rfl, hm⟩, hr⟩ := hrel
      by_cases hlt : k < ns.length
      · obtain ⟨b, off, rfl, hcell⟩ := hc k hlt
        clear hc
        have hnext : Rec.rising 0 (ns.take (k + 1)) = decide (m < ns[k] ∧ ns[k] ≤ 1073741824) := by
          rw [take_succ_getD ns k hlt, Rec.rising_snoc0, hr.out, hm.out]
          rfl
        have hlast : Rec.lastOf (ns.take (k + 1)) = ns[k] := by rw [take_succ_getD ns k hlt, Rec.lastOf_snoc]
        by_cases h0 : ns[k] ≤ m
        · have e := Lib.hid (Rec.rising_take (l := ns) (k + 1) (by rw [hnext]; simp; omega))
          clear hnext hlast
          go_wp2
          go_ret
          exact ⟨by rw [e.out]; rfl, rfl⟩
        · by_cases h1 : (1073741824 : Int) < ns[k]
          · have e := Lib.hid (Rec.rising_take (l := ns) (k + 1) (by rw [hnext]; simp; omega))
            clear hnext hlast
            go_wp2
            go_ret
            exact ⟨by rw [e.out]; rfl, rfl⟩
          · have ok := Lib.hid (show Rec.rising 0 (ns.take (k + 1)) = true by rw [hnext]; simp; omega)
            have HL := Lib.hid hlast
            clear hnext hlast
            go_wp2
            go_round
            case rel => exact ⟨k + 1, by omega, by go_num, ⟨_, rfl, HL.out.symm⟩, ok⟩
            case measure => simp [intOf]; omega
      · have hs : Hid (Rec.rising 0 ns = true) := by
          have := hr.out; rw [List.take_of_length_le (by omega)] at this; exact this
        clear hr hc hm
        go_wp2
        go_ret
        exact ⟨by rw [hs.out]; rfl, rfl⟩

set_option maxHeartbeats 2000000 in
theorem right4_any (v : Value) (r : Rec.R) (w : World) (hv : IsRec w v r) :
    Calls Try.prog 14 #[v] w fun e w' => e = .returned (.bool (Rec.right r)) ∧ Ext w w' := by
  obtain ⟨t, rfl, ht⟩ := hv
  have hbx := box_rec
  unfold recV
  rw [Rec.right_eq]
  have HT := Lib.hid ht
  obtain ⟨a, cap, rfl, hcap, hmax, _, _⟩ := ht.open
  unfold maxLen at hmax
  have hs := str_len r.data
  clear ht
  cases h1 : Rec.okId r.client with
  | false =>
    have H1 := Lib.hid h1
    clear h1
    go_enter Try.func14, Try.ntmps14
    go_wp2_with fail
    refine (isCount4_any _ _).mono ?_
    rintro e w1 ⟨rfl, rfl⟩
    rw [H1.out]
    go_wp2_with fail
    go_ret
    exact ⟨rfl, Ext.alloc _ _⟩
  | true =>
    cases h2 : Rec.okId r.number with
    | false =>
      have H1 := Lib.hid h1
      have H2 := Lib.hid h2
      clear h1 h2
      go_enter Try.func14, Try.ntmps14
      go_wp2_with fail
      refine (isCount4_any _ _).mono ?_
      rintro e w1 ⟨rfl, rfl⟩
      rw [H1.out]
      go_wp2_with fail
      refine (isCount4_any _ _).mono ?_
      rintro e w1 ⟨rfl, rfl⟩
      rw [H2.out]
      go_wp2_with fail
      go_ret
      exact ⟨rfl, Ext.alloc _ _⟩
    | true =>
      cases h3 : Rec.tagsOk r.tags with
      | false =>
        have H1 := Lib.hid h1
        have H2 := Lib.hid h2
        have H3 := Lib.hid h3
        clear h1 h2 h3
        go_enter Try.func14, Try.ntmps14
        go_wp2_with fail
        refine (isCount4_any _ _).mono ?_
        rintro e w1 ⟨rfl, rfl⟩
        rw [H1.out]
        go_wp2_with fail
        refine (isCount4_any _ _).mono ?_
        rintro e w1 ⟨rfl, rfl⟩
        rw [H2.out]
        go_wp2_with fail
        refine (areTags_any _ r.tags _ (HT.out.below (Ext.alloc _ _))).mono ?_
        rintro e w1 ⟨rfl, rfl⟩
        rw [H3.out]
        go_wp2_with fail
        go_ret
        exact ⟨rfl, Ext.alloc _ _⟩
      | true =>
        have H1 := Lib.hid h1
        have H2 := Lib.hid h2
        have H3 := Lib.hid h3
        clear h1 h2 h3
        have hd : decide (r.data.length ≤ 1024) = decide ((r.data.length : Int) ≤ 1024) := by
          rw [Bool.eq_iff_iff, decide_eq_true_eq, decide_eq_true_eq]
          omega
        have hd' := Lib.hid hd
        clear hd
        go_enter Try.func14, Try.ntmps14
        go_wp2_with fail
        refine (isCount4_any _ _).mono ?_
        rintro e w1 ⟨rfl, rfl⟩
        rw [H1.out]
        go_wp2_with fail
        refine (isCount4_any _ _).mono ?_
        rintro e w1 ⟨rfl, rfl⟩
        rw [H2.out]
        go_wp2_with fail
        refine (areTags_any _ r.tags _ (HT.out.below (Ext.alloc _ _))).mono ?_
        rintro e w1 ⟨rfl, rfl⟩
        rw [H3.out]
        go_wp2_with fail
        go_ret
        exact ⟨by rw [hd'.out]; rfl, Ext.alloc _ _⟩

set_option maxHeartbeats 4000000 in
theorem refRight4_any (v : Value) (r : Rec.R) (w : World) (hv : IsRec w v r) :
    Calls Try.prog 15 #[v] w fun e w' => e = .returned (.bool (Rec.right r)) ∧ Ext w w' := by
  obtain ⟨t, rfl, ht⟩ := hv
  have hbx := box_rec
  unfold recV
  obtain ⟨a, cap, rfl, hcap, hmax, _, hc⟩ := ht.open
  unfold maxLen at hmax
  have hs := str_len r.data
  have HT := Lib.hid ht
  clear ht hc
  by_cases c0 : r.client < 0
  · have e := Lib.hid (show Rec.right r = false by rw [Rec.right_eq]; unfold Rec.okId; simp; omega)
    go_enter Try.func15, Try.ntmps15
    go_wp2
    go_ret
    exact ⟨by rw [e.out]; rfl, Ext.alloc _ _⟩
  by_cases c1 : (1099511627776 : Int) < r.client
  · have e := Lib.hid (show Rec.right r = false by rw [Rec.right_eq]; unfold Rec.okId; simp; omega)
    go_enter Try.func15, Try.ntmps15
    go_wp2
    go_ret
    exact ⟨by rw [e.out]; rfl, Ext.alloc _ _⟩
  by_cases c2 : r.number < 0
  · have e := Lib.hid (show Rec.right r = false by rw [Rec.right_eq]; unfold Rec.okId; simp; omega)
    go_enter Try.func15, Try.ntmps15
    go_wp2
    go_ret
    exact ⟨by rw [e.out]; rfl, Ext.alloc _ _⟩
  by_cases c3 : (1099511627776 : Int) < r.number
  · have e := Lib.hid (show Rec.right r = false by rw [Rec.right_eq]; unfold Rec.okId; simp; omega)
    go_enter Try.func15, Try.ntmps15
    go_wp2
    go_ret
    exact ⟨by rw [e.out]; rfl, Ext.alloc _ _⟩
  have hid : Rec.right r = (Rec.tagsOk r.tags && decide (r.data.length ≤ 1024)) := by
    rw [Rec.right_eq]
    rw [show Rec.okId r.client = true from by unfold Rec.okId; simp; omega, show Rec.okId r.number = true from by unfold Rec.okId; simp; omega]
    rfl
  have HID := Lib.hid hid
  clear hid
  go_enter Try.func15, Try.ntmps15
  go_wp2
  have HT2 := Lib.hid (HT.out.below (Ext.alloc w (.cells #[.int .i64 r.client, .int .i64 r.number, .slice a r.tags.length cap, .string ⟨r.data.toArray⟩] 26)))
  go_loop [3, 4] (fun s i => ∃ k : Nat, k ≤ r.tags.length ∧ i = .int .i64 k ∧ (∃ m : Int, s = .int .i64 m ∧ Hid (m = Rec.lastOf (r.tags.take k))) ∧ Hid (Rec.rising 0 (r.tags.take k) = true)) (fun _ i => r.tags.length - (intOf i).toNat)
  case atStart => exact ⟨0, by omega, rfl, ⟨0, rfl, rfl⟩, rfl⟩
  case round =>
    obtain ⟨k, hk, rfl, ⟨m, rfl, hm⟩, hr⟩ := hrel
    by_cases hlt : k < r.tags.length
    · obtain ⟨a', cap', e', _, _, _, hc⟩ := HT2.out.open
      obtain ⟨b, off, rfl, hcell⟩ := hc k hlt
      injection e' with e1 e2 e3
      subst e1
      clear hc e2 e3
      have hnext : Rec.rising 0 (r.tags.take (k + 1)) = decide (m < r.tags[k] ∧ r.tags[k] ≤ 1073741824) := by
        rw [take_succ_getD r.tags k hlt, Rec.rising_snoc0, hr.out, hm.out]
        rfl
      have hlast : Rec.lastOf (r.tags.take (k + 1)) = r.tags[k] := by rw [take_succ_getD r.tags k hlt, Rec.lastOf_snoc]
      have bad : Rec.rising 0 (r.tags.take (k + 1)) = false → Rec.right r = false := by
        intro h
        rw [HID.out]
        unfold Rec.tagsOk
        rw [Rec.rising_take (k + 1) h]
        simp
      by_cases h0 : r.tags[k] ≤ m
      · have e := Lib.hid (bad (by rw [hnext]; simp; omega))
        clear hnext hlast bad
        go_wp2
        go_ret
        exact ⟨by rw [e.out]; rfl, Ext.alloc _ _⟩
      · by_cases h1 : (1073741824 : Int) < r.tags[k]
        · have e := Lib.hid (bad (by rw [hnext]; simp; omega))
          clear hnext hlast bad
          go_wp2
          go_ret
          exact ⟨by rw [e.out]; rfl, Ext.alloc _ _⟩
        · have ok := Lib.hid (show Rec.rising 0 (r.tags.take (k + 1)) = true by rw [hnext]; simp; omega)
          have HL := Lib.hid hlast
          clear hnext hlast bad
          go_wp2
          go_round
          case rel => exact ⟨k + 1, by omega, by go_num, ⟨_, rfl, HL.out.symm⟩, ok⟩
          case measure => simp [intOf]; omega
    · have hs2 : Hid (Rec.rising 0 r.tags = true) := by
        have := hr.out; rw [List.take_of_length_le (by omega)] at this; exact this
      clear hr hm
      by_cases g8 : (r.tags.length : Int) ≤ 8
      · have e := Lib.hid (show Rec.right r = decide ((r.data.length : Int) ≤ 1024) by
          rw [HID.out]; unfold Rec.tagsOk
          rw [hs2.out, decide_eq_true (by omega), Bool.eq_iff_iff]
          simp
          omega)
        go_wp2
        go_ret
        exact ⟨by rw [e.out]; rfl, Ext.alloc _ _⟩
      · have e := Lib.hid (show Rec.right r = false by
          rw [HID.out]; unfold Rec.tagsOk
          rw [decide_eq_false (by omega)]
          rfl)
        go_wp2
        go_ret
        exact ⟨by rw [e.out]; rfl, Ext.alloc _ _⟩
end Go.Proofs.Ytjflbjlpibekhaa
