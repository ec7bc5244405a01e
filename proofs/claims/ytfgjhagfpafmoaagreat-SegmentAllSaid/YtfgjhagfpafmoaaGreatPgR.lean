/-
  Merged: Layer 8, the document's answers: frames, the first one, Scan.
-/
import Derived.RangeFuncBox
import Derived.Test.YtfgjhagfpafmoaaGreatBsMath
import Derived.Test.YtfgjhagfpafmoaaGreatBsPack
import Derived.Test.YtfgjhagfpafmoaaGreatCrcRef

namespace Go.Proofs.YtfgjhagfpafmoaaGreat
set_option linter.unusedSimpArgs false
set_option linter.unusedVariables false
set_option maxRecDepth 100000
open Go.RowKit
/- Layer 8, the document's answers: frames, the first one, Scan. -/
set_option maxHeartbeats 1000000 in
theorem frameRef_any (b : List UInt8) (w : World) (hl : b.length ≤ 70000) :
    Calls Tryz.prog 84 #[.string ⟨b.toArray⟩] w fun e w' => e = .returned (.string ⟨(Page.frame b).toArray⟩) ∧ Ext w w' := by
  have hn9 : (Pack.num b.length).length ≤ 9 := Pack.num_nine (by omega)
  go_enter Tryz.func84, Tryz.ntmps84
  go_wp2_with fail
  refine (textRef_any b w (by omega)).mono ?_
  rintro e w1 ⟨rfl, hE1⟩
  obtain ⟨T, hT⟩ : ∃ T, Pack.num b.length ++ b = T := ⟨_, rfl⟩
  have hTl : T.length ≤ 100000 := by rw [← hT, List.length_append]; omega
  have HT := Lib.hid hT
  rw [hT]
  clear hT
  have hconv := runConv w1 T
  have hbytes := bytesOfConv w1 T 5 (by unfold maxLen; omega)
  have hEc := extConv w1 5 ⟨T.toArray⟩
  have HB := Lib.hid hbytes
  have HE := Lib.hid (hE1.trans hEc)
  clear hbytes hEc
  go_wp2_with fail
  refine (put_ref _ T _ HB.out hTl).mono ?_
  rintro e w2 ⟨u, rfl, hu, hE2⟩
  obtain ⟨ua, un, uc, rfl⟩ := hu.isSlice
  have hstr := run_str (P := Tryz.prog) 22 9 5 Tryz.underlying22 Tryz.underlying5 Tryz.underlying9 hu
  have HS := Lib.hid hE2
  clear hconv
  go_wp2_with fail
  go_ret
  refine ⟨?_, HE.out.trans HS.out⟩
  rw [← HT.out]
  rfl

/-- What first tells. -/
def firstVal (r : Option (List UInt8)) : Value := .tuple #[.string ⟨(r.getD []).toArray⟩, .bool r.isSome]
set_option maxHeartbeats 2000000 in
theorem firstRef_any (s : List UInt8) (w : World) (hl : s.length ≤ 100000) :
    Calls Tryz.prog 83 #[.string ⟨s.toArray⟩] w fun e w' => e = .returned (firstVal (Page.first s)) ∧ Ext w w' := by
  have hsmall := Page.text_small ⟨s, 0⟩
  have hdef : Page.first s = if (Pack.St.text ⟨s, 0⟩ 65536).1.err = 0 ∧ (Page.frame (Pack.St.text ⟨s, 0⟩ 65536).2).isPrefixOf s = true then some (Pack.St.text ⟨s, 0⟩ 65536).2 else none := rfl
  have hrd := fun w => readTextRef_any s 65536 ⟨s, 0⟩ w (by constructor <;> simp) (by omega)
  obtain ⟨E, hE⟩ : ∃ E, (Pack.St.text ⟨s, 0⟩ 65536).1 = E := ⟨_, rfl⟩
  obtain ⟨x, hx⟩ : ∃ x, (Pack.St.text ⟨s, 0⟩ 65536).2 = x := ⟨_, rfl⟩
  rw [hE, hx] at hdef
  rw [hx] at hsmall
  unfold Page.small at hsmall
  rw [hE, hx] at hrd
  have HD := Lib.hid hdef
  have HR := Lib.hid hrd
  clear hdef hrd hE hx
  go_enter Tryz.func83, Tryz.ntmps83
  go_wp2_with fail
  refine (HR.out w).mono ?_
  rintro e w1 ⟨l', rfl, hsim, hl', hE1⟩
  unfold refVal
  obtain ⟨ee, hee⟩ : ∃ ee, E.err = ee := ⟨_, rfl⟩
  rw [hee]
  have HEE := Lib.hid hee
  clear hee
  go_wp2_with fail
  generalize hw2 : World.alloc _ _ = w2
  have hq2 : w2.heap[w1.heap.size]? = some (.cells #[.string ⟨l'.toArray⟩, .int .i64 ee] 158 (0, 0)) := by rw [← hw2]; exact heap_alloc_new _ _
  have hE2 : Ext w w2 := by rw [← hw2]; exact hE1.trans (Ext.alloc _ _)
  clear hw2
  refine (frameRef_any x w2 (by omega)).mono ?_
  rintro e w3 ⟨rfl, hE3⟩
  have hc3 : w3.cell? ⟨w1.heap.size, 1, none⟩ = some (.int .i64 ee) := cell_of_heap (heap_ext hq2 hE3) 1
  have hE : Ext w w3 := hE2.trans hE3
  obtain ⟨f, hf⟩ : ∃ f, Page.frame x = f := ⟨_, rfl⟩
  have HF := Lib.hid hf
  rw [hf]
  have hfl : f.length ≤ 100000 := by
    have := Pack.num_nine (n := x.length) (by omega)
    rw [← hf, Page.frame_length]
    omega
  clear hf hq2 hE2 hE3 hE1
  by_cases h0 : ee = 0
  · subst h0
    by_cases h1 : s.length < f.length
    · have hn : Page.first s = none := by
        rw [HD.out, HEE.out, HF.out, if_neg]
        rintro ⟨_, h⟩
        have := (List.isPrefixOf_iff_prefix.1 h).length_le
        omega
      have HN := Lib.hid hn
      clear hn
      have h1' : (s.length : Int) < (f.length : Int) := by omega
      go_wp2_with fail
      go_ret2
      exact ⟨by rw [HN.out]; rfl, hE⟩
    · have hsl := str_to w3 s f.length (by omega)
      by_cases h2 : s.take f.length = f
      · have hn : Page.first s = some x := by
          have hpre : f.isPrefixOf s = true := List.isPrefixOf_iff_prefix.2 (by
            conv => lhs; rw [← h2]
            exact List.take_prefix _ _)
          rw [HD.out, HEE.out, HF.out, if_pos ⟨rfl, hpre⟩]
        have HN := Lib.hid hn
        have h2' : (s.take f.length == f) = true := by rw [beq_iff_eq]; exact h2
        clear hn h2
        go_wp2_with fail
        go_ret2
        exact ⟨by rw [HN.out]; rfl, hE⟩
      · have hn : Page.first s = none := by
          rw [HD.out, HEE.out, HF.out, if_neg]
          rintro ⟨_, h⟩
          obtain ⟨r, hr⟩ := List.isPrefixOf_iff_prefix.1 h
          exact h2 (by rw [← hr, List.take_left])
        have HN := Lib.hid hn
        have h2' : (s.take f.length == f) = false := by rw [beq_eq_false_iff_ne]; exact h2
        clear hn h2
        go_wp2_with fail
        go_ret2
        exact ⟨by rw [HN.out]; rfl, hE⟩
  · have hn : Page.first s = none := by
      rw [HD.out, HEE.out, if_neg]
      rintro ⟨h, _⟩
      exact h0 h
    have HN := Lib.hid hn
    clear hn
    go_wp2_with fail
    go_ret2
    exact ⟨by rw [HN.out]; rfl, hE⟩

/-- Texts. -/
def txts (l : List (List UInt8)) : List Value := l.map fun x => .string ⟨x.toArray⟩
@[simp] theorem txts_length (l : List (List UInt8)) : (txts l).length = l.length := by simp [txts]
theorem txts_append (a b : List (List UInt8)) : txts (a ++ b) = txts a ++ txts b := by simp [txts]
theorem tStE : ElemOf Tryz.prog 32 9 (.string ⟨#[]⟩) 16 := ⟨Tryz.underlying32, by kernel_rfl, rfl⟩
theorem txts_one (l : List (List UInt8)) : ∀ y ∈ txts l, y.oneCell' = true := by
  intro y hy
  obtain ⟨_, _, rfl⟩ := List.mem_map.1 hy
  rfl

set_option maxHeartbeats 2000000 in
theorem scanRef_any (s : List UInt8) (w : World) (hl : s.length ≤ 100000) :
    Calls Tryz.prog 41 #[.string ⟨s.toArray⟩] w fun e w' => ∃ u, e = .returned (.tuple #[u, .int .i64 ((Page.scan s).2 : Nat)]) ∧ w'.ownsRow w.heap.size 9 1 u (Page.scan s).1.length (txts (Page.scan s).1) ∧ Ext w w' := by
  go_enter Tryz.func41, Tryz.ntmps41
  go_wp2_with fail
  go_loopw [4, 5] (fun o i wr => ∃ (u : Value) (m : List (List UInt8)) (r : List UInt8), o = u ∧ i = .int .i64 ((Page.bytes m).length : Nat) ∧ Hid (s = Page.bytes m ++ r) ∧ Hid (∀ x ∈ m, Page.small x) ∧ wr.ownsRow w.heap.size 9 1 u m.length (txts m) ∧ Ext w wr) (fun _ i _ => s.length - (intOf i).toNat)
  case atStart => exact ⟨_, [], s, rfl, rfl, Lib.hid rfl, Lib.hid (by simp), World.ownsRow_nil _ _ _ _, Ext.refl _⟩
  case round =>
    obtain ⟨u, m, r, rfl, rfl, hs, hsm, ho, hE⟩ := hrel
    obtain ⟨ua, un, uc, rfl⟩ := ownSlice ho
    have hbl : s.length = (Page.bytes m).length + r.length := by rw [hs.out, List.length_append]
    obtain ⟨q, hq⟩ : ∃ q, (Page.bytes m).length = q := ⟨_, rfl⟩
    rw [hq] at hbl ⊢
    have HQ := Lib.hid hq
    have HBL := Lib.hid hbl
    have hsi : (s.length : Int) ≤ 9223372036854775807 := by omega
    have hql : q ≤ s.length := by omega
    have hrl : r.length ≤ 100000 := by omega
    have hcm := Page.count_le m
    rw [hq] at hcm
    clear hq hbl
    by_cases hlt : q < s.length
    · have hsf := str_from wr s q hql
      have hdr : s.drop q = r := by
        rw [← HQ.out]
        exact (congrArg (List.drop _) hs.out).trans List.drop_left
      rw [hdr] at hsf
      have HSF := Lib.hid hdr
      clear hdr
      go_wp2_with fail
      refine (firstRef_any r wr hrl).mono ?_
      rintro e w1 ⟨rfl, hE1⟩
      have ho1 := rowExt ho hE1
      have hEE := hE.trans hE1
      cases hf : Page.first r with
      | none =>
        have hsc := Page.scan_more hs.out hsm.out hf
        have HSC := Lib.hid hsc
        clear hsc hf
        simp only [firstVal, Option.getD_none, Option.isSome_none]
        go_wp2_with fail
        go_ret2
        exact ⟨_, by rw [HSC.out.2, HQ.out]; rfl, by rw [HSC.out.1]; exact ho1, hEE⟩
      | some x =>
        obtain ⟨hx1, hx2⟩ := Page.first_iff.1 hf
        have HX := Lib.hid hx1
        have HX2 := Lib.hid hx2
        have hfl := hx2.length_le
        have hfp := Page.frame_pos x
        have hxl : x.length ≤ 70000 := by unfold Page.small at hx1; omega
        have hz1 : m.length + (txts [x]).length ≤ maxLen := by rw [txts_length, List.length_singleton]; unfold maxLen; omega
        have hz2 : (m.length + (txts [x]).length) * 16 ≤ 140737488355328 := by rw [txts_length, List.length_singleton]; omega
        have hz3 : w.heap.size ≤ (w1.alloc (.cells #[.string ⟨x.toArray⟩] 9)).heap.size := by have := hEE.size; simp; omega
        have HZ1 := Lib.hid hz1
        have HZ2 := Lib.hid hz2
        have HZ3 := Lib.hid hz3
        have hmade : Sl (w1.alloc (.cells #[.string ⟨x.toArray⟩] 9)) (.slice (some ⟨w1.heap.size, 0, none⟩) 1 1) (txts [x]) := Sl.made w1 (txts [x]) 9 1 rfl (by simp [maxLen])
        clear hx1 hx2 hf hz1 hz2 hz3
        simp only [firstVal, Option.getD_some, Option.isSome_some]
        go_wp2_with (at_builtin; refine wpList_app rfl (.tmp 23) (.tmp 25) tStE rfl rfl rfl (ho1.alloc _) hmade (txts_one _) HZ1.out HZ2.out HZ3.out ?_; intro v2 w2 hown2 hg2)
        obtain ⟨g2, c2, rfl⟩ := ownsRow_succ hown2
        have hE2 : Ext w w2 := (hEE.trans (Ext.alloc w1 _)).grown hg2 (hEE.trans (Ext.alloc w1 _)).size (fun k e => (ho1.lt k e).1)
        refine (frameRef_any x w2 hxl).mono ?_
        rintro e w3 ⟨rfl, hE3⟩
        obtain ⟨r2, hr2⟩ := HX2.out
        have hqz : q + (Page.frame x).length ≤ s.length := by have := HBL.out; omega
        have HR2 := Lib.hid hr2
        clear hr2
        go_wp2_with fail
        refine ⟨⟨_, m ++ [x], r2, rfl, ?_, Lib.hid ?_, Lib.hid ?_, ?_, hE2.trans hE3⟩, ?_⟩
        · rw [Page.bytes_snoc, List.length_append, HQ.out]
          simp
        · rw [Page.bytes_snoc, List.append_assoc, HR2.out]
          exact hs.out
        · intro y hy
          rcases List.mem_append.1 hy with hy | hy
          · exact hsm.out y hy
          · obtain rfl := List.mem_singleton.1 hy
            exact HX.out
        · rw [txts_append, List.length_append]
          exact rowExt hown2 hE3
        · simp [intOf]
          omega
    · have hr0 : r = [] := List.eq_nil_of_length_eq_zero (by have := HBL.out; omega)
      have hsc := Page.scan_more hs.out hsm.out (by rw [hr0]; exact Page.first_nil)
      have HSC := Lib.hid hsc
      clear hr0 hsc
      go_wp2_with fail
      go_ret2
      exact ⟨_, by rw [HSC.out.2, HQ.out]; rfl, by rw [HSC.out.1]; exact ho, hE⟩
end Go.Proofs.YtfgjhagfpafmoaaGreat
