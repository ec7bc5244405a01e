/-
  Layer 4, the program: tags, sameness, places.
-/
import Derived.Test.YtjflbjlpibekhaaRecD
namespace Go.Proofs.Ytjflbjlpibekhaa
set_option maxRecDepth 100000
open Go.RowKit

theorem Rec.any_take {tag : Int} (ns : List Int) (k : Nat) (hk : k < ns.length) : (ns.take (k + 1)).any (fun t => t == tag) = ((ns.take k).any (fun t => t == tag) || (ns[k] == tag)) := by
  rw [take_succ_getD ns k hk, List.any_append]
  simp

set_option maxHeartbeats 2000000 in
theorem index4_any (v : Value) (ns : List Int) (tag : Int) (w : World) (hv : Ints w v ns) :
    Calls Try.prog 61 #[v, .int .i64 tag] w fun e w' => (∃ i : Int, e = .returned (.int .i64 i) ∧ (decide (0 ≤ i)) = ns.any (fun t => t == tag)) ∧ w = w' := by
  obtain ⟨a, cap, rfl, hcap, hmax, _, hc⟩ := hv.open
  unfold maxLen at hmax
  go_enter Try.func61, Try.ntmps61
  go_wp2
  go_loop [5, 8] (fun _ i => ∃ k : Nat, k ≤ ns.length ∧ i = .int .i64 k ∧ Hid ((ns.take k).any (fun t => t == tag) = false)) (fun _ i => ns.length - (intOf i).toNat)
  case atStart => exact ⟨0, by omega, rfl, by simp [Hid]⟩
  case round =>
    obtain ⟨k, hk, rfl, hr⟩ := hrel
    by_cases hlt : k < ns.length
    · obtain ⟨b, off, rfl, hcell⟩ := hc k hlt
      clear hc
      have hnext := Rec.any_take (tag := tag) ns k hlt
      by_cases h0 : ns[k] = tag
      · have h0' : (tag == ns[k]) = true := by rw [h0]; simp
        have e := Lib.hid (show ns.any (fun t => t == tag) = true by rw [List.any_eq_true]; exact ⟨ns[k], List.getElem_mem _, by simp [h0]⟩)
        have H0 := Lib.hid h0
        clear hnext h0
        go_wp2
        go_ret
        exact ⟨⟨k, rfl, by rw [e.out]; simp⟩, rfl⟩
      · have h0' : (tag == ns[k]) = false := by rw [beq_eq_false_iff_ne]; exact fun e => h0 e.symm
        have ok := Lib.hid (show (ns.take (k + 1)).any (fun t => t == tag) = false by rw [hnext, hr.out, beq_eq_false_iff_ne.2 h0]; rfl)
        clear hnext h0
        go_wp2
        go_round
        case rel => exact ⟨k + 1, by omega, by go_num, ok⟩
        case measure => simp [intOf]; omega
    · have hs : Hid (ns.any (fun t => t == tag) = false) := by
        have := hr.out; rw [List.take_of_length_le (by omega)] at this; exact this
      clear hr hc
      go_wp2
      go_ret
      exact ⟨⟨-1, rfl, by rw [hs.out]; simp⟩, rfl⟩

set_option maxHeartbeats 2000000 in
theorem contains4_any (v : Value) (ns : List Int) (tag : Int) (w : World) (hv : Ints w v ns) :
    Calls Try.prog 44 #[v, .int .i64 tag] w fun e w' => e = .returned (.bool (ns.any (fun t => t == tag))) ∧ w = w' := by
  go_enter Try.func44, Try.ntmps44
  go_wp2_with fail
  refine (index4_any v ns tag _ hv).mono ?_
  rintro e w' ⟨⟨i, rfl, hi⟩, rfl⟩
  go_wp2_with fail
  go_ret
  exact ⟨by rw [← hi]; rfl, rfl⟩

set_option maxHeartbeats 2000000 in
theorem has4_any (v : Value) (r : Rec.R) (tag : Int) (w : World) (hv : IsRec w v r) :
    Calls Try.prog 19 #[v, .int .i64 tag] w fun e w' => e = .returned (.bool (Rec.has r tag)) ∧ Ext w w' := by
  have hbx := box_rec
  obtain ⟨t, rfl, ht⟩ := hv
  unfold recV at *
  obtain ⟨a, cap, rfl, hcap, hmax, _, _⟩ := ht.open
  unfold maxLen at hmax
  have HT := Lib.hid ht
  clear ht
  by_cases h0 : tag = 0
  · subst h0
    have e := Lib.hid (show Rec.has r 0 = true by simp [Rec.has])
    go_enter Try.func19, Try.ntmps19
    go_wp2_with fail
    go_ret
    exact ⟨by rw [e.out]; rfl, Ext.alloc _ _⟩
  · have e := Lib.hid (show Rec.has r tag = r.tags.any (fun t => t == tag) by unfold Rec.has; rw [beq_eq_false_iff_ne.2 h0]; rfl)
    go_enter Try.func19, Try.ntmps19
    go_wp2_with fail
    refine (contains4_any _ r.tags tag _ (HT.out.below (Ext.alloc _ _))).mono ?_
    rintro e w1 ⟨rfl, rfl⟩
    go_wp2_with fail
    go_ret
    exact ⟨rfl, Ext.alloc _ _⟩

set_option maxHeartbeats 2000000 in
theorem refHas4_any (v : Value) (r : Rec.R) (tag : Int) (w : World) (hv : IsRec w v r) :
    Calls Try.prog 20 #[v, .int .i64 tag] w fun e w' => e = .returned (.bool (Rec.has r tag)) ∧ Ext w w' := by
  have hbx := box_rec
  obtain ⟨t, rfl, ht⟩ := hv
  unfold recV at *
  obtain ⟨a, cap, rfl, hcap, hmax, _, _⟩ := ht.open
  unfold maxLen at hmax
  have HT := Lib.hid ht
  clear ht
  by_cases h0 : tag = 0
  · subst h0
    have e := Lib.hid (show Rec.has r 0 = true by simp [Rec.has])
    go_enter Try.func20, Try.ntmps20
    go_wp2_with fail
    go_ret
    exact ⟨by rw [e.out]; rfl, Ext.alloc _ _⟩
  · have e := Lib.hid (show Rec.has r tag = r.tags.any (fun t => t == tag) by unfold Rec.has; rw [beq_eq_false_iff_ne.2 h0]; rfl)
    have HT2 := Lib.hid (HT.out.below (Ext.alloc w (.cells #[.int .i64 r.client, .int .i64 r.number, .slice a r.tags.length cap, .string ⟨r.data.toArray⟩] 26)))
    go_enter Try.func20, Try.ntmps20
    go_wp2_with fail
    go_loop [5] (fun i => ∃ k : Nat, k ≤ r.tags.length ∧ i = .int .i64 k ∧ Hid ((r.tags.take k).any (fun t => t == tag) = false)) (fun i => r.tags.length - (intOf i).toNat)
    case atStart => exact ⟨0, by omega, rfl, by simp [Hid]⟩
    case round =>
      obtain ⟨k, hk, rfl, hr⟩ := hrel
      by_cases hlt : k < r.tags.length
      · obtain ⟨a', cap', e', _, _, _, hc⟩ := HT2.out.open
        obtain ⟨b, off, rfl, hcell⟩ := hc k hlt
        injection e' with e1 e2 e3
        subst e1
        clear hc e2 e3
        have hnext := Rec.any_take (tag := tag) r.tags k hlt
        by_cases h1 : r.tags[k] = tag
        · have h1' : (r.tags[k] == tag) = true := by rw [h1]; simp
          have e5 := Lib.hid (show r.tags.any (fun t => t == tag) = true by rw [List.any_eq_true]; exact ⟨r.tags[k], List.getElem_mem _, by simp [h1]⟩)
          clear hnext h1
          go_wp2
          go_ret
          exact ⟨by rw [e.out, e5.out]; rfl, Ext.alloc _ _⟩
        · have h1' : (r.tags[k] == tag) = false := beq_eq_false_iff_ne.2 h1
          have ok := Lib.hid (show (r.tags.take (k + 1)).any (fun t => t == tag) = false by rw [hnext, hr.out, h1']; rfl)
          clear hnext h1
          go_wp2
          go_round
          case rel => exact ⟨k + 1, by omega, by go_num, ok⟩
          case measure => simp [intOf]; omega
      · have hs : Hid (r.tags.any (fun t => t == tag) = false) := by
          have := hr.out; rw [List.take_of_length_le (by omega)] at this; exact this
        clear hr
        go_wp2
        go_ret
        exact ⟨by rw [e.out, hs.out]; rfl, Ext.alloc _ _⟩

/-- A place, by value. -/
def seqV (t p : Int) : Value := .agg #[.int .i64 t, .int .i64 p]
theorem box_seq (w : World) (t p : Int) : (Instr.box 45 (.agg #[.int .i64 t, .int .i64 p])).run Try.prog w = .ok (.pointer (some ⟨w.heap.size, 0, none⟩)) (w.alloc (.cells #[.int .i64 t, .int .i64 p] 45)) := by kernel_rfl
theorem Rec.less_eq (t p u q : Int) : Rec.less t p u q = if t = u then decide (p < q) else decide (t < u) := by
  unfold Rec.less
  by_cases h : t = u
  · subst h; simp
  · simp [h]

set_option maxHeartbeats 2000000 in
theorem less4_any (t p u q : Int) (w : World) : Calls Try.prog 25 #[seqV t p, seqV u q] w fun e w' => e = .returned (.bool (Rec.less t p u q)) ∧ Ext w w' := by
  have hbx := box_seq
  unfold seqV
  rw [Rec.less_eq]
  by_cases h : t = u
  · subst h
    rw [if_pos rfl]
    go_enter Try.func25, Try.ntmps25
    go_wp2_with fail
    go_ret
    exact ⟨rfl, ext_two _ _ _⟩
  · rw [if_neg h]
    go_enter Try.func25, Try.ntmps25
    go_wp2_with fail
    go_ret
    exact ⟨rfl, ext_two _ _ _⟩
set_option maxHeartbeats 2000000 in
theorem refLess4_any (t p u q : Int) (w : World) : Calls Try.prog 26 #[seqV t p, seqV u q] w fun e w' => e = .returned (.bool (Rec.less t p u q)) ∧ Ext w w' := by
  have hbx := box_seq
  unfold seqV
  rw [Rec.less_eq]
  by_cases h : t = u
  · subst h
    rw [if_pos rfl]
    go_enter Try.func26, Try.ntmps26
    go_wp2_with fail
    go_ret
    exact ⟨rfl, ext_two _ _ _⟩
  · rw [if_neg h]
    go_enter Try.func26, Try.ntmps26
    go_wp2_with fail
    go_ret
    exact ⟨rfl, ext_two _ _ _⟩
end Go.Proofs.Ytjflbjlpibekhaa
