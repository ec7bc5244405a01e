/-
  CrcSums: the sum of any parts is the one that the document says, and of more bytes, too: for every input the statement's function returns true, and leaves what came in as it was.
-/
import Derived.Test.YtkgpcgcglbaehaaCrcT
namespace Go.Proofs.Ytkgpcgcglbaehaa
open Go.ChangeShapes Go.WideShapes Go.ChangeAt Go.RowKit

set_option maxRecDepth 100000 in
set_option maxHeartbeats 4000000 in
theorem crcSums_walk (a b : Option Addr) (n c m d : Nat) (l k : List UInt8) (s : Int) (W : World) (h0 : Bytes W (.slice a n c) l) (h1 : Bytes W (.slice b m d) k) (hs : (Lit.int .u32 s).wf = true) :
    Calls Try.prog 3 #[.slice a n c, .slice b m d, .int .u32 s] W fun e W' => e = .returned (.bool true) ∧ Below W.heap.size W W' := by
  obtain ⟨hs0, hs1⟩ := bounds_u32 hs
  obtain ⟨r, rfl⟩ : ∃ r : Nat, s = (r : Int) := ⟨s.toNat, by omega⟩
  have hr : r < 4294967296 := by omega
  obtain ⟨hn, hnc, hc⟩ := h0.len
  obtain ⟨hm, hmd, hd⟩ := h1.len
  clear hs hs0 hs1
  by_cases hbad : 20000 < n ∨ 20000 < m
  · have parts : (20000 : Int) < (n : Int) ∨ (¬ (20000 : Int) < (n : Int) ∧ (20000 : Int) < (m : Int)) := by omega
    clear hbad hn hm
    rcases parts with p1 | ⟨p1, p2⟩
    all_goals
      go_enter Try.func3, Try.ntmps3
      go_wp2_with fail
      refine (newT _).mono ?_
      rintro e w1 ⟨rfl, hb1, ht1⟩
      go_wp2_with fail
      refine (alive_any _).mono ?_
      rintro e w3 ⟨rfl, hb3⟩
      go_wp2_with fail
      go_ret
      exact ⟨rfl, (hb1.trans hb3).below⟩
  · have p1 : ¬ (20000 : Int) < (n : Int) := by omega
    have p2 : ¬ (20000 : Int) < (m : Int) := by omega
    have hll : l.length ≤ 20000 := by omega
    have hkl : k.length ≤ 20000 := by omega
    have hu := u8s_one l
    have hv := u8s_one k
    have hc1 : 0 + (u8s l).length ≤ maxLen := by simp [maxLen]; omega
    have hc2 : (0 + (u8s l).length) * 1 ≤ 140737488355328 := by simp; omega
    have hc3 : 0 + (u8s l).length + (u8s k).length ≤ maxLen := by simp [maxLen]; omega
    have hc4 : (0 + (u8s l).length + (u8s k).length) * 1 ≤ 140737488355328 := by simp; omega
    clear hbad hn hm
    go_enter Try.func3, Try.ntmps3
    go_wp2_with fail
    refine (newT _).mono ?_
    rintro e w1 ⟨rfl, hb1, ht1⟩
    have hps := TBs.one ht1
    have hown0 : (w1.alloc (.cells #[] 5)).ownsRow w1.heap.size 5 1 (.slice (some ⟨w1.heap.size, 0, none⟩) 0 0) 0 [] := World.ownsRow_made w1 #[] 0 (Nat.le_refl _) (by simp [maxLen]) (by simp)
    have hsl : Sl (w1.alloc (.cells #[] 5)) (.slice a n c) (u8s l) := h0.below (hb1.trans (Ext.alloc _ _))
    have hz0 : w1.heap.size ≤ (w1.alloc (.cells #[] 5)).heap.size := by simp
    go_wp2_with (first | (at_builtin; refine wpList_app rfl (.tmp 27) (.tmp 28) tU8c rfl rfl rfl hown0 hsl hu hc1 hc2 hz0 ?_; intro v2 w2 hown2 hg2; have hE2 : Ext w1 w2 := ((Below.refl _ w1).alloc (Nat.le_refl _) _).grown hg2 (by simp) (fun k hk => (hown0.lt k hk).1); have hsk : Sl w2 (.slice b m d) (u8s k) := h1.below (hb1.trans hE2)) | (at_builtin; refine wpList_app rfl (.tmp 29) (.tmp 30) tU8c rfl rfl rfl hown2 hsk hv hc3 hc4 (Nat.le_trans hz0 hg2.size) ?_; intro v3 w3 hown3 hg3))
    have hE3 : Ext w1 w3 := Below.grown hE2 hg3 (Nat.le_trans hz0 hg2.size) (fun k hk => (hown2.lt k hk).1)
    have hall : Bytes w3 v3 (l ++ k) := by
      have := Sl.ofOwn hown3
      simpa [Bytes] using this
    clear hown2 hown3 hg2 hg3 hsk hown0 hsl hu hv hc1 hc2 hc3 hc4 hz0
    obtain ⟨a3, n3, c3, rfl⟩ := hall.isSlice
    refine (alive_any _).mono ?_
    rintro e w4 ⟨rfl, hb4⟩
    have hE4 : Ext W w4 := (hb1.trans hE3).trans hb4
    have hT4 : TBs [W.heap.size] w4 := (LT.ext (hE3.trans hb4)).tabs hps
    have hA : BT [W.heap.size] w4 (.slice a n c) l := ⟨h0.below hE4, hT4⟩
    have hB : BT [W.heap.size] w4 (.slice b m d) k := ⟨h1.below hE4, hT4⟩
    have hC : BT [W.heap.size] w4 (.slice a3 n3 c3) (l ++ k) := ⟨hall.below hb4, hT4⟩
    have hL4 : LT [W.heap.size] W w4 := LT.ext hE4
    have hmem : W.heap.size ∈ [W.heap.size] := by simp
    have key1 : Crc.more (Crc.sum l) k = Crc.sum (l ++ k) := Crc.more_more 0 l k
    have hsl : Crc.sum l < 4294967296 := Crc.more_lt 0 l
    have K1 := Lib.hid key1
    clear key1
    go_wp2_with fail
    refine (sumT hmem (row2T hA hB)).mono ?_
    rintro e w5 ⟨rfl, hl5⟩
    have hl5' := (LT.ext (Ext.alloc w4 (.cells #[.slice a n c, .slice b m d] 22))).trans hl5
    have hA5 := hA.later hl5'
    have hB5 := hB.later hl5'
    have hC5 := hC.later hl5'
    have hL5 := hL4.trans hl5'
    clear hl5 hl5' hA hB hC hL4
    rw [List.flatten_cons, List.flatten_cons, List.flatten_nil, List.append_nil]
    go_wp2_with fail
    refine (sum_ref _ (l ++ k) w5 hC5.1).mono ?_
    rintro e w5' ⟨rfl, rfl⟩
    go_wp2_with fail
    refine (moreT hmem hr hA5).mono ?_
    rintro e w6 ⟨rfl, hl6⟩
    have hA6 := hA5.later hl6
    have hB6 := hB5.later hl6
    have hC6 := hC5.later hl6
    have hL6 := hL5.trans hl6
    clear hl6 hA5 hB5 hC5 hL5
    go_wp2_with fail
    refine (more_ref r _ l w6 hr hA6.1).mono ?_
    rintro e w6' ⟨rfl, rfl⟩
    go_wp2_with fail
    refine (sumT hmem (row1T hA6)).mono ?_
    rintro e w7 ⟨rfl, hl7⟩
    have hl7' := (LT.ext (Ext.alloc w6 (.cells #[.slice a n c] 22))).trans hl7
    have hB7 := hB6.later hl7'
    have hC7 := hC6.later hl7'
    have hL7 := hL6.trans hl7'
    clear hl7 hl7' hA6 hB6 hC6 hL6
    rw [List.flatten_singleton]
    go_wp2_with fail
    refine (moreT hmem hsl hB7).mono ?_
    rintro e w8 ⟨rfl, hl8⟩
    have hC8 := hC7.later hl8
    have hL8 := hL7.trans hl8
    clear hl8 hB7 hC7 hL7
    rw [K1.out]
    go_wp2_with fail
    refine (sumT hmem (row1T hC8)).mono ?_
    rintro e w9 ⟨rfl, hl9⟩
    rw [List.flatten_singleton]
    go_wp2_with fail
    go_ret
    exact ⟨rfl, ((hL8.trans (LT.ext (Ext.alloc _ _))).trans hl9).below (Nat.le_refl _) (by intro p hp; simp only [List.mem_cons, List.not_mem_nil, or_false] at hp; omega)⟩

namespace crcSums
theorem own : ownKnob Try.prog.godebug = none := by kernel_rfl
theorem laidOut : laidOutB Try.prog = true := by kernel_rfl
set_option linter.unusedVariables false in
set_option maxRecDepth 100000 in
theorem lifted (os : Os) (started : os.Started) (H : Type) (enc : TypeId × Value → H) :
    ReturnsInHanded {} Try.checked os 3 .any (Rows.crcSumsSpec.pre6 enc Try.prog Try.f3 Rows.crcSumsRow.domain false) (Rows.crcSumsSpec.post enc Try.prog Try.f3 false true false false) := by
  refine returnsInHanded_of_change (C := Try.checked) own started (by kernel_rfl) Try.func3
    (ChangeSpec.witness6 (enc := enc) (C := Try.checked) false ⟨#[], #[.slice none 0 0, .slice none 0 0, .int .u32 0], []⟩ 8 (by kernel_rfl) (by kernel_rfl) (by kernel_rfl) (by kernel_rfl)) ?_
  intro W base args ds gs before hval0 hW hcnd _
  have hval : ∀ (j : Nat) t v, Try.f3.params[j]? = some t → args[j]? = some v → Value.okWide Try.prog W .any base t v := hval0
  have hW' := hW
  obtain ⟨p, q, hA0, hV, rfl, hfz, hnd⟩ := hW
  have hA : DataW.TrodAll enc Try.prog W 0 (fun _ => true) true Try.f3.params.toList args.toList ds p := hA0
  rw [Try.params3] at hA hval
  obtain ⟨v0, vs0, d0, ds0, p0, q0, hargs, rfl, rfl, h0, r0⟩ := trodAll_cons hA
  obtain ⟨v1, vs1, d1, ds1, p1, q1, rfl, rfl, rfl, h1, r1⟩ := trodAll_cons r0
  obtain ⟨v2, vs2, d2, ds2, p2, q2, rfl, rfl, rfl, h2, r2⟩ := trodAll_cons r1
  obtain ⟨rfl, rfl, rfl⟩ := trodAll_nil r2
  obtain rfl : args = #[v0, v1, v2] := by cases args; simp_all
  obtain ⟨rfl, rfl⟩ := trodVars_none hV
  have k0 := h0
  have lt0 : ∀ x ∈ p0, x.block < W.heap.size := by obtain ⟨m, hm⟩ := k0; exact DataW.trod_lt m _ _ _ hm
  obtain ⟨a0, len0, cap0, rfl⟩ := okWide_slice Try.underlying22 (hval 0 22 v0 rfl rfl)
  obtain ⟨l0, w0⟩ : ∃ l, Bytes W (.slice a0 len0 cap0) l := by
    obtain ⟨fuel, hf⟩ := h0
    obtain ⟨v, l, hcs, hb⟩ := bytes_of_raw Try.underlying22 Try.underlying5 (by kernel_rfl) hf
    simp [Value.cells] at hcs
    subst hcs
    exact ⟨l, hb⟩
  have k1 := h1
  have lt1 : ∀ x ∈ p1, x.block < W.heap.size := by obtain ⟨m, hm⟩ := k1; exact DataW.trod_lt m _ _ _ hm
  obtain ⟨a1, len1, cap1, rfl⟩ := okWide_slice Try.underlying22 (hval 1 22 v1 rfl rfl)
  obtain ⟨l1, w1⟩ : ∃ l, Bytes W (.slice a1 len1 cap1) l := by
    obtain ⟨fuel, hf⟩ := h1
    obtain ⟨v, l, hcs, hb⟩ := bytes_of_raw Try.underlying22 Try.underlying5 (by kernel_rfl) hf
    simp [Value.cells] at hcs
    subst hcs
    exact ⟨l, hb⟩
  have k2 := h2
  have lt2 : ∀ x ∈ p2, x.block < W.heap.size := by obtain ⟨m, hm⟩ := k2; exact DataW.trod_lt m _ _ _ hm
  obtain ⟨a2, rfl, _, _, w2⟩ := open_int Try.underlying23 (hval 2 23 v2 rfl rfl) h2
  clear hA0 hval0
  refine (crcSums_walk a0 a1 len0 cap0 len1 cap1 l0 l1 a2 W w0 w1 w2).mono fun e W' ⟨he, bel⟩ => ?_
  subst he
  exact ⟨_, rfl, _, _, _, [], _, [], hW', trodAll_mk1 (shut_bool Try.underlying4 _), (trodAll_cons_mk (Below.trod laidOut (by kernel_rfl) (of_decide_eq_true (by kernel_rfl)) k0 bel lt0) (trodAll_cons_mk (Below.trod laidOut (by kernel_rfl) (of_decide_eq_true (by kernel_rfl)) k1 bel lt1) (trodAll_cons_mk (Below.trod laidOut (by kernel_rfl) (of_decide_eq_true (by kernel_rfl)) k2 bel lt2) trodAll_mk0))), rfl, bel.frame _, fun h => by cases h⟩
theorem over : Rows.crcSumsRow.holds Try.pinned (OpenSpec.ofChange Rows.crcSumsSpec) :=
  OpenClaim.holds_of_wide 3 Try.f3 rfl rfl rfl rfl rfl rfl rfl ⟨rfl, rfl, rfl, rfl, rfl⟩ rfl rfl rfl rfl rfl (by kernel_rfl) Try.func3 (by kernel_rfl)
    (of_decide_eq_true (by kernel_rfl)) (by unfold Func.isWrapper; first | (rw [if_pos (by decide +kernel)]; kernel_rfl) | (rw [if_neg (by decide +kernel)]; exact ⟨rfl, rfl⟩))
    (fun os started H enc _ => lifted os started H enc)
theorem proved : Rows.CrcSumsSaid := over
end crcSums
end Go.Proofs.Ytkgpcgcglbaehaa
