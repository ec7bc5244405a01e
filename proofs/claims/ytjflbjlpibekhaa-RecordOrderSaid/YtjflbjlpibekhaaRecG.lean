/-
  Layer 4, the program: rows of records, and which of them have a tag.
-/
import Derived.Test.YtjflbjlpibekhaaRecF
namespace Go.Proofs.Ytjflbjlpibekhaa
set_option linter.unusedSimpArgs false
set_option linter.unusedVariables false
set_option maxRecDepth 100000
open Go.RowKit

/-- A record stands here. -/
def RecHere (w : World) (b o : Nat) (r : Rec.R) : Prop :=
  ∃ t, w.cell? ⟨b, o, none⟩ = some (.int .i64 r.client) ∧ w.cell? ⟨b, o + 1, none⟩ = some (.int .i64 r.number) ∧ w.cell? ⟨b, o + 2, none⟩ = some t ∧ w.cell? ⟨b, o + 3, none⟩ = some (.string ⟨r.data.toArray⟩) ∧ Ints w t r.tags
theorem RecHere.below {w w' : World} {b o : Nat} {r : Rec.R} (h : RecHere w b o r) (hb : Below w.heap.size w w') : RecHere w' b o r := by
  obtain ⟨t, h1, h2, h3, h4, h5⟩ := h
  have key : ∀ i, w'.cell? ⟨b, i, none⟩ = w.cell? ⟨b, i, none⟩ := fun i => World.cell?_of_block (w := w) (hb.block b (World.block_lt_of_cell? w _ h1))
  exact ⟨t, (key _).trans h1, (key _).trans h2, (key _).trans h3, (key _).trans h4, h5.below hb⟩
/-- A slice of records reads as these. -/
def Recs (w : World) (v : Value) (l : List Rec.R) : Prop :=
  ∃ (a : Option Addr) (cap : Nat), v = .slice a l.length cap ∧ l.length ≤ cap ∧ cap ≤ maxLen ∧ (a = none → cap = 0) ∧ ∀ i (h : i < l.length), ∃ b off, a = some ⟨b, off, none⟩ ∧ RecHere w b (off + i * 4) l[i]
theorem Recs.below {w w' : World} {v : Value} {l : List Rec.R} (h : Recs w v l) (hb : Below w.heap.size w w') : Recs w' v l := by
  obtain ⟨a, cap, rfl, h1, h2, h4, h3⟩ := h
  refine ⟨a, cap, rfl, h1, h2, h4, fun i hi => ?_⟩
  obtain ⟨b, off, e, hc⟩ := h3 i hi
  exact ⟨b, off, e, hc.below hb⟩
theorem Rec.tagged_next (l : List Rec.R) (tag : Int) (k : Nat) (hk : k < l.length) : Rec.tagged (l.take (k + 1)) tag = if Rec.has l[k] tag then Rec.tagged (l.take k) tag ++ [(k : Int)] else Rec.tagged (l.take k) tag := by
  rw [take_succ_getD l k hk, Rec.tagged_snoc, List.length_take, Nat.min_eq_left (by omega)]

set_option maxHeartbeats 2000000 in
theorem tagOne_any (v : Value) (r : Rec.R) (q : Nat) (tag : Int) (w : World) (hv : IsRec w v r) (hq : w.cell? ⟨q, 0, none⟩ = some (.int .i64 tag)) :
    Calls Try.prog 47 #[v, .pointer (some ⟨q, 0, none⟩)] w fun e w' => e = .returned (.bool (Rec.has r tag)) ∧ Ext w w' := by
  have hbx := box_rec
  have HV := Lib.hid hv
  obtain ⟨t, rfl, ht⟩ := hv
  unfold recV at *
  obtain ⟨a, cap, rfl, hcap, hmax, _, _⟩ := ht.open
  unfold maxLen at hmax
  have hE : Ext w (w.alloc (.cells #[.int .i64 r.client, .int .i64 r.number, .slice a r.tags.length cap, .string ⟨r.data.toArray⟩] 26)) := Ext.alloc _ _
  have hq2 := (hE.cell (p := ⟨q, 0, none⟩) (World.block_lt_of_cell? w _ hq)).trans hq
  clear ht hq
  go_enter Try.func47, Try.ntmps47
  go_wp2_with fail
  refine (has4_any _ r tag _ (HV.out.below hE)).mono ?_
  rintro e w1 ⟨rfl, hE1⟩
  go_wp2_with fail
  go_ret
  exact ⟨rfl, hE.trans hE1⟩

theorem row_lower4 {w : World} {b b' n : Nat} {e : TypeId} {xs : List Value} {v : Value} (h : w.ownsRow b e 1 v n xs) (hb : b' ≤ b) : w.ownsRow b' e 1 v n xs := by
  refine ⟨h.1, ?_⟩
  rcases h.2 with h | ⟨g, cap, cur, e1, e2, e3⟩
  · exact .inl h
  · exact .inr ⟨g, cap, cur, e1, Nat.le_trans hb e2, e3⟩

set_option maxHeartbeats 4000000 in
theorem which_own (v : Value) (l : List Rec.R) (q : Nat) (tag : Int) (w : World) (hv : Recs w v l) (hq : w.cell? ⟨q, 0, none⟩ = some (.int .i64 tag)) (hl : l.length ≤ 10000000000000) :
    Calls Try.prog 46 #[v, .func (.func 47) #[] #[.pointer (some ⟨q, 0, none⟩)]] w fun e w' => ∃ u, e = .returned u ∧ w'.ownsRow w.heap.size 3 1 u (Rec.tagged l tag).length (i64s (Rec.tagged l tag)) ∧ Ext w w' := by
  have HV := Lib.hid hv
  obtain ⟨a, cap, rfl, hcap, hmax, _, _⟩ := hv
  unfold maxLen at hmax
  have ti := tI
  have hlq := World.block_lt_of_cell? w _ hq
  have HQ := Lib.hid hq
  clear hq
  go_enter Try.func46, Try.ntmps46
  go_wp2_with fail
  go_loopw [5, 6, 7, 10] (fun o _ _ i wr => ∃ k : Nat, k ≤ l.length ∧ i = .int .i64 k ∧ wr.ownsRow w.heap.size 3 1 o (Rec.tagged (l.take k) tag).length (i64s (Rec.tagged (l.take k) tag)) ∧ Ext w wr) (fun _ _ _ i _ => l.length - (intOf i).toNat)
  case atStart => exact ⟨0, by omega, rfl, World.ownsRow_nil _ _ _ _, Ext.refl _⟩
  case round =>
    obtain ⟨k, hk, rfl, ho, hE⟩ := hrel
    by_cases hlt : k < l.length
    · obtain ⟨a', cap', e', _, _, _, hc⟩ := HV.out.below hE
      obtain ⟨b, off, rfl, t, p0, p1, p2, p3, ht⟩ := hc k hlt
      injection e' with e1 e2 e3
      subst e1
      have hnext := Rec.tagged_next l tag k hlt
      obtain ⟨a2, cap2, rfl, hcap2, hmax2, _, _⟩ := ht.open
      have hE2 : Ext wr (wr.alloc (.cells #[.int .i64 l[k].client, .int .i64 l[k].number, .slice a2 l[k].tags.length cap2, .string ⟨l[k].data.toArray⟩] 26)) := Ext.alloc _ _
      have HI := Lib.hid (show IsRec wr (.agg #[.int .i64 l[k].client, .int .i64 l[k].number, .slice a2 l[k].tags.length cap2, .string ⟨l[k].data.toArray⟩]) l[k] from ⟨_, rfl, ht⟩)
      have hqc := HQ.out
      have HO := Lib.hid ho
      have hlen := Rec.tagged_len (l.take k) tag
      rw [List.length_take, Nat.min_eq_left hk] at hlen
      have hq2 : (wr.alloc (.cells #[.int .i64 l[k].client, .int .i64 l[k].number, .slice a2 l[k].tags.length cap2, .string ⟨l[k].data.toArray⟩] 26)).cell? ⟨q, 0, none⟩ = some (.int .i64 tag) :=
        ((hE.trans hE2).cell (p := ⟨q, 0, none⟩) hlq).trans HQ.out
      have HQ2 := Lib.hid hq2
      generalize l[k] = R at *
      obtain ⟨c, n, ts, d⟩ := R
      clear hc e2 e3 ho hqc hq2 ht
      simp only at *
      cases hh : Rec.has ⟨c, n, ts, d⟩ tag with
      | true =>
        rw [hh, if_pos rfl] at hnext
        have HH := Lib.hid hh
        have HN := Lib.hid hnext
        have hone := i64s_one [(k : Int)]
        clear hh hnext
        go_wp2_with fail
        refine (tagOne_any _ ⟨c, n, ts, d⟩ q tag _ (HI.out.below hE2) HQ2.out).mono ?_
        rw [HH.out]
        rintro e w5 ⟨rfl, hE5⟩
        have hE6 := hE2.trans hE5
        have O5 := Lib.hid ((row_ext4 HO.out hE6).alloc (.cells #[.int .i64 (k : Int)] 3))
        have HSL := Lib.hid (show Sl (w5.alloc (.cells #[.int .i64 (k : Int)] 3)) (.slice (some ⟨w5.heap.size, 0, none⟩) 1 1) (i64s [(k : Int)]) from Ints.one w5 k)
        have hsz := (hE.trans hE6).size
        go_wp2_with (at_builtin; refine wpList_app rfl (.tmp 18) (.tmp 20) ti rfl (base := w.heap.size) (n := (Rec.tagged (l.take k) tag).length) (xs := i64s (Rec.tagged (l.take k) tag)) (ys := i64s [(k : Int)]) rfl rfl O5.out HSL.out hone ?c3 ?c4 ?c5 ?_; rotate_right; intro v9 w9 hown9 hg9)
        case c3 => (try simp only [i64s_length, List.length_cons, List.length_nil]); (try unfold maxLen); omega
        case c4 => (try simp only [i64s_length, List.length_cons, List.length_nil]); omega
        case c5 => simp only [World.size_alloc]; omega
        go_roundw
        case rel =>
          refine ⟨k + 1, by omega, by go_num, ?_, ?_⟩
          · rw [HN.out, i64s_append]
            simpa using hown9
          · exact Below.grown ((hE.trans hE6).trans (Ext.alloc _ _)) hg9 ((hE.trans hE6).trans (Ext.alloc w5 (.cells #[.int .i64 (k : Int)] 3))).size (fun j hj => (O5.out.lt j hj).1)
        case measure => simp [intOf]; omega
      | false =>
        rw [hh] at hnext
        have HH := Lib.hid hh
        have HN := Lib.hid hnext
        clear hh hnext
        go_wp2_with fail
        refine (tagOne_any _ ⟨c, n, ts, d⟩ q tag _ (HI.out.below hE2) HQ2.out).mono ?_
        rw [HH.out]
        rintro e w5 ⟨rfl, hE5⟩
        have hE6 := hE2.trans hE5
        have O5 := Lib.hid (row_ext4 HO.out hE6)
        go_wp2_with fail
        go_roundw
        case rel => exact ⟨k + 1, by omega, by go_num, by rw [HN.out]; exact O5.out, hE.trans hE6⟩
        case measure => simp [intOf]; omega
    · have hall : l.take k = l := List.take_of_length_le (by omega)
      rw [hall] at ho
      have HI := Lib.hid ho
      clear ho hall
      go_wp2_with fail
      go_ret
      exact ⟨_, rfl, HI.out, hE⟩

set_option maxHeartbeats 4000000 in
theorem tagged_own (v : Value) (l : List Rec.R) (tag : Int) (w : World) (hv : Recs w v l) (hl : l.length ≤ 10000000000000) :
    Calls Try.prog 23 #[v, .int .i64 tag] w fun e w' => ∃ u, e = .returned u ∧ w'.ownsRow w.heap.size 3 1 u (Rec.tagged l tag).length (i64s (Rec.tagged l tag)) ∧ Ext w w' := by
  have hmf : ∀ (fn : Fn) (first cap : Array Value) (w : World), (Instr.makeFunc fn first cap).run Try.prog w = .ok (.func fn first cap) w := fun _ _ _ _ => rfl
  have HV := Lib.hid hv
  obtain ⟨a, cap, rfl, hcap, hmax, _, _⟩ := hv
  go_enter Try.func23, Try.ntmps23
  go_wp2_with fail
  refine (which_own _ l _ tag _ (HV.out.below (Ext.alloc _ _)) (cell_of_heap (heap_alloc_new w (.cells #[.int .i64 tag] 3)) 0) hl).mono ?_
  rintro e w1 ⟨u, rfl, hu, hE1⟩
  go_wp2_with fail
  go_ret
  exact ⟨_, rfl, row_lower4 hu (Ext.alloc w (.cells #[.int .i64 tag] 3)).size, (Ext.alloc _ _).trans hE1⟩

theorem tagged_any (v : Value) (l : List Rec.R) (tag : Int) (w : World) (hv : Recs w v l) (hl : l.length ≤ 10000000000000) :
    Calls Try.prog 23 #[v, .int .i64 tag] w fun e w' => ∃ u, e = .returned u ∧ Ints w' u (Rec.tagged l tag) ∧ Ext w w' :=
  (tagged_own v l tag w hv hl).mono fun e w' ⟨u, he, ho, hE⟩ => ⟨u, he, Sl.ofOwn ho, hE⟩

set_option maxHeartbeats 4000000 in
theorem refTagged_any (v : Value) (l : List Rec.R) (tag : Int) (w : World) (hv : Recs w v l) (hl : l.length ≤ 10000000000000) :
    Calls Try.prog 24 #[v, .int .i64 tag] w fun e w' => ∃ u, e = .returned u ∧ Ints w' u (Rec.tagged l tag) ∧ Ext w w' := by
  have HV := Lib.hid hv
  obtain ⟨a, cap, rfl, hcap, hmax, _, _⟩ := hv
  unfold maxLen at hmax
  have ti := tI
  go_enter Try.func24, Try.ntmps24
  go_wp2_with fail
  go_loopw [5, 6] (fun o i wr => ∃ k : Nat, k ≤ l.length ∧ i = .int .i64 k ∧ wr.ownsRow w.heap.size 3 1 o (Rec.tagged (l.take k) tag).length (i64s (Rec.tagged (l.take k) tag)) ∧ Ext w wr) (fun _ i _ => l.length - (intOf i).toNat)
  case atStart => exact ⟨0, by omega, rfl, World.ownsRow_nil _ _ _ _, Ext.refl _⟩
  case round =>
    obtain ⟨k, hk, rfl, ho, hE⟩ := hrel
    by_cases hlt : k < l.length
    · obtain ⟨a', cap', e', _, _, _, hc⟩ := HV.out.below hE
      obtain ⟨b, off, rfl, t, p0, p1, p2, p3, ht⟩ := hc k hlt
      injection e' with e1 e2 e3
      subst e1
      have hnext := Rec.tagged_next l tag k hlt
      obtain ⟨a2, cap2, rfl, hcap2, hmax2, _, _⟩ := ht.open
      have HI := Lib.hid (show IsRec wr (.agg #[.int .i64 l[k].client, .int .i64 l[k].number, .slice a2 l[k].tags.length cap2, .string ⟨l[k].data.toArray⟩]) l[k] from ⟨_, rfl, ht⟩)
      have HO := Lib.hid ho
      have hlen := Rec.tagged_len (l.take k) tag
      rw [List.length_take, Nat.min_eq_left hk] at hlen
      generalize l[k] = R at *
      obtain ⟨c, n, ts, d⟩ := R
      clear hc e2 e3 ho ht
      simp only at *
      cases hh : Rec.has ⟨c, n, ts, d⟩ tag with
      | true =>
        rw [hh, if_pos rfl] at hnext
        have HH := Lib.hid hh
        have HN := Lib.hid hnext
        have hone := i64s_one [(k : Int)]
        clear hh hnext
        go_wp2_with fail
        refine (refHas4_any _ ⟨c, n, ts, d⟩ tag _ HI.out).mono ?_
        rw [HH.out]
        rintro e w5 ⟨rfl, hE6⟩
        have O5 := Lib.hid ((row_ext4 HO.out hE6).alloc (.cells #[.int .i64 (k : Int)] 3))
        have HSL := Lib.hid (show Sl (w5.alloc (.cells #[.int .i64 (k : Int)] 3)) (.slice (some ⟨w5.heap.size, 0, none⟩) 1 1) (i64s [(k : Int)]) from Ints.one w5 k)
        have hsz := (hE.trans hE6).size
        go_wp2_with (at_builtin; refine wpList_app rfl (.tmp 19) (.tmp 21) ti rfl (base := w.heap.size) (n := (Rec.tagged (l.take k) tag).length) (xs := i64s (Rec.tagged (l.take k) tag)) (ys := i64s [(k : Int)]) rfl rfl O5.out HSL.out hone ?c3 ?c4 ?c5 ?_; rotate_right; intro v9 w9 hown9 hg9)
        case c3 => (try simp only [i64s_length, List.length_cons, List.length_nil]); (try unfold maxLen); omega
        case c4 => (try simp only [i64s_length, List.length_cons, List.length_nil]); omega
        case c5 => simp only [World.size_alloc]; omega
        go_roundw
        case rel =>
          refine ⟨k + 1, by omega, by go_num, ?_, ?_⟩
          · rw [HN.out, i64s_append]
            simpa using hown9
          · exact Below.grown ((hE.trans hE6).trans (Ext.alloc _ _)) hg9 ((hE.trans hE6).trans (Ext.alloc w5 (.cells #[.int .i64 (k : Int)] 3))).size (fun j hj => (O5.out.lt j hj).1)
        case measure => simp [intOf]; omega
      | false =>
        rw [hh] at hnext
        have HH := Lib.hid hh
        have HN := Lib.hid hnext
        clear hh hnext
        go_wp2_with fail
        refine (refHas4_any _ ⟨c, n, ts, d⟩ tag _ HI.out).mono ?_
        rw [HH.out]
        rintro e w5 ⟨rfl, hE6⟩
        have O5 := Lib.hid (row_ext4 HO.out hE6)
        go_wp2_with fail
        go_roundw
        case rel => exact ⟨k + 1, by omega, by go_num, by rw [HN.out]; exact O5.out, hE.trans hE6⟩
        case measure => simp [intOf]; omega
    · have hall : l.take k = l := List.take_of_length_le (by omega)
      rw [hall] at ho
      have HI := Lib.hid (show Ints wr u5 (Rec.tagged l tag) from Sl.ofOwn ho)
      clear ho hall
      go_wp2_with fail
      go_ret
      exact ⟨_, rfl, HI.out, hE⟩
end Go.Proofs.Ytjflbjlpibekhaa
