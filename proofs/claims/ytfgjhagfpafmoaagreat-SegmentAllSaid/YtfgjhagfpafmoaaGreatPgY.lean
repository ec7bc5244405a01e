/-
  Merged: Layer 8, the document's Read and Crash.
-/
import Derived.Test.YtfgjhagfpafmoaaGreatPgT

namespace Go.Proofs.YtfgjhagfpafmoaaGreat
set_option linter.unusedSimpArgs false
set_option linter.unusedVariables false
set_option maxRecDepth 100000
open Go.RowKit
/- Layer 8, the document's Read and Crash. -/
namespace Page
theorem stay_iff (S : St) (keep : Int) (k : Nat) (hk : k ≤ S.l.length) : (bytes (S.l.take k)).length ≤ S.stay keep ↔ (bytes (S.l.take k)).length ≤ S.syn + keep.toNat := by
  have h1 := bytes_take_le S.l k
  have h2 := syn_le S
  unfold St.stay
  omega
/-- Where the document's loop stops, there a crash cuts. -/
theorem crash_stop {S : St} {keep : Int} {n : Nat} {E : Int} (hn : n ≤ S.l.length) (hE : ∀ k, k ≤ S.l.length → ((((bytes (S.l.take k)).length : Nat) : Int) ≤ E ↔ (bytes (S.l.take k)).length ≤ S.syn + keep.toNat)) (h1 : (((bytes (S.l.take n)).length : Nat) : Int) ≤ E)
    (h2 : n < S.l.length → E < (((bytes (S.l.take (n + 1))).length : Nat) : Int)) : S.crash keep = ⟨S.l.take n, n, false⟩ := by
  have hw : whole S.l (S.stay keep) = n := by
    have hle := whole_le S.l (S.stay keep)
    have a1 := (whole_iff S.l (S.stay keep) n hn).1 ((stay_iff S keep n hn).2 ((hE n hn).1 h1))
    rcases Nat.lt_or_ge n (whole S.l (S.stay keep)) with h | h
    · have hlt : n < S.l.length := by omega
      have := (hE (n + 1) (by omega)).2 ((stay_iff S keep (n + 1) (by omega)).1 ((whole_iff S.l (S.stay keep) (n + 1) (by omega)).2 h))
      have := h2 hlt
      omega
    · omega
  unfold St.crash
  rw [hw]
end Page

set_option maxHeartbeats 4000000 in
theorem crashRef8_any {S : Page.St} (v : Value) (keep : Int) (w : World) (h : IsRef w v S) (hS : S.Ok) (hkeep : -9223372036854775808 ≤ keep ∧ keep ≤ 9223372036854775807) :
    Calls Tryz.prog 49 #[v, .int .i64 keep] w fun e w' => ∃ u, e = .returned u ∧ IsRef w' u (S.crash keep) ∧ Ext w w' := by
  have H := Lib.hid h
  obtain ⟨a, c, rfl, hT⟩ := h
  have HT := Lib.hid hT
  unfold refStoV at *
  obtain ⟨k0, hk0⟩ : ∃ k0 : Nat, S.k = k0 := ⟨_, rfl⟩
  obtain ⟨o0, ho0⟩ : ∃ o0, S.off = o0 := ⟨_, rfl⟩
  obtain ⟨n, hn⟩ : ∃ n, S.l.length = n := ⟨_, rfl⟩
  have HN := Lib.hid hn
  have HK0 := Lib.hid hk0
  have HSM := Lib.hid hS
  have hcnt : n ≤ 65536 := by have := Page.count_le S.l; have := hS.max; omega
  have hk0n : k0 ≤ n := by have := hS.le; omega
  rw [hk0, ho0, hn] at H ⊢
  rw [hn] at HT
  clear ho0 hn hS hT
  obtain ⟨w1, hw1⟩ : ∃ w1, (w.alloc (.cells #[.slice a n c, .int .i64 (k0 : Nat), .bool o0] 34)).alloc (.cells #[.slice none 0 0, .int .i64 0, .bool false] 34) = w1 := ⟨_, rfl⟩
  have hE1 : Ext w w1 := by rw [← hw1]; exact (Ext.alloc _ _).trans (Ext.alloc _ _)
  have hq1 : w1.heap[w.heap.size]? = some (.cells #[.slice a n c, .int .i64 (k0 : Nat), .bool o0] 34 (0, 0)) := by rw [← hw1]; exact (Below.heap_alloc _ _ _ (by simp)).trans (heap_alloc_new _ _)
  have hp1 : w1.heap[w.heap.size + 1]? = some (.cells #[.slice none 0 0, .int .i64 0, .bool false] 34 (0, 0)) := by
    have := heap_alloc_new (w.alloc (.cells #[.slice a n c, .int .i64 (k0 : Nat), .bool o0] 34)) (.cells #[.slice none 0 0, .int .i64 0, .bool false] 34)
    rw [← hw1]
    simpa using this
  have HW1 := Lib.hid hw1
  have f0 : w1.cell? ⟨w.heap.size, 0, none⟩ = some (.slice a n c) := cell_of_heap hq1 0
  have f1 : w1.cell? ⟨w.heap.size, 1, none⟩ = some (.int .i64 (k0 : Nat)) := cell_of_heap hq1 1
  have f2 : w1.cell? ⟨w.heap.size, 2, none⟩ = some (.bool o0) := cell_of_heap hq1 2
  obtain ⟨Y, hY⟩ : ∃ Y, S.syn = Y := ⟨_, rfl⟩
  have hY2 : (Page.bytes (S.l.take k0)).length = Y := by rw [← hk0]; exact hY
  have HY := Lib.hid (And.intro hY hY2)
  have hYm : Y ≤ 65536 := by have := Page.syn_le S; have := HSM.out.max; omega
  have htx := textRef8_any _ k0 w1 (H.out.ext hE1) HSM.out (by rw [HN.out]; exact hk0n)
  obtain ⟨T0, hT0⟩ : ∃ T0, Page.bytes (S.l.take k0) = T0 := ⟨_, rfl⟩
  rw [hT0] at htx hY2
  have HTX := Lib.hid htx
  clear hw1 hY hk0 htx hT0
  go_enter Tryz.func49, Tryz.ntmps49
  go_wp2_with fail
  rw [HW1.out]
  refine HTX.out.mono ?_
  rintro e w2 ⟨rfl, hE2⟩
  have hnc : n ≤ c := by
    obtain ⟨_, _, e, hle, _⟩ := HT.out.open
    injection e with _ e1 e2
    omega
  have hbt : ∀ k, (Page.bytes (S.l.take k)).length ≤ 65536 := fun k => Nat.le_trans (Page.bytes_take_le _ _) HSM.out.max
  have HBT := Lib.hid hbt
  have hq2 := heap_ext hq1 hE2
  clear hbt f0 f1 f2
  by_cases hpos : 0 < keep
  · by_cases hov : (Y : Int) + keep ≤ 9223372036854775807
    · have hiff : ∀ k, k ≤ n → ((((Page.bytes (S.l.take k)).length : Nat) : Int) ≤ (Y : Int) + keep ↔ (Page.bytes (S.l.take k)).length ≤ S.syn + keep.toNat) := by intro k _; rw [HY.out.1]; omega
      have HIFF := Lib.hid hiff
      have hno : ¬ (Y : Int) + keep < keep := by omega
      rw [← hY2] at hno hov HIFF
      clear hiff
      go_wp2_with fail
      go_loopw [5] (fun i wr => ∃ k : Nat, k ≤ n ∧ i = .int .i64 k ∧ Hid ((((Page.bytes (S.l.take k)).length : Nat) : Int) ≤ (T0.length : Int) + keep) ∧ Ext w2 wr) (fun i _ => n - (intOf i).toNat)
      case atStart => exact ⟨k0, hk0n, rfl, Lib.hid (by rw [HY.out.2]; omega), Ext.refl _⟩
      case round =>
        obtain ⟨k, hk, rfl, hle, hE⟩ := hrel
        have hqr := heap_ext hq1 (hE2.trans hE)
        have c0 : wr.cell? ⟨w.heap.size, 0, none⟩ = some (.slice a n c) := cell_of_heap hqr 0
        have c1 : wr.cell? ⟨w.heap.size, 1, none⟩ = some (.int .i64 (k0 : Nat)) := cell_of_heap hqr 1
        have c2 : wr.cell? ⟨w.heap.size, 2, none⟩ = some (.bool o0) := cell_of_heap hqr 2
        by_cases hlt : k < n
        · obtain ⟨B, hB⟩ : ∃ B, Page.bytes (S.l.take (k + 1)) = B := ⟨_, rfl⟩
          have HB := Lib.hid hB
          have hx := textRef8_any _ (k + 1) wr (H.out.ext (hE1.trans (hE2.trans hE))) HSM.out (by rw [HN.out]; omega)
          rw [hB, show ((k + 1 : Nat) : Int) = (k : Int) + 1 by omega] at hx
          have HX := Lib.hid hx
          clear hx hB
          go_wp2_with fail
          refine HX.out.mono ?_
          rintro e w3 ⟨rfl, hE3⟩
          have hqr3 := heap_ext hqr hE3
          have d0 : w3.cell? ⟨w.heap.size, 0, none⟩ = some (.slice a n c) := cell_of_heap hqr3 0
          by_cases hB2 : (B.length : Int) ≤ (T0.length : Int) + keep
          · go_wp2_with fail
            refine ⟨⟨k + 1, by omega, by simp, Lib.hid ?_, hE.trans hE3⟩, by simp [intOf]; omega⟩
            rw [HB.out]
            exact hB2
          · have hB3 : (T0.length : Int) + keep < (B.length : Int) := by omega
            have hcs := Page.crash_stop (S := S) (keep := keep) (n := k) (E := (T0.length : Int) + keep) (by rw [HN.out]; omega) (fun j hj => HIFF.out j (by rw [← HN.out]; exact hj)) hle.out (by intro hj; rw [HB.out]; exact hB3)
            have HCS := Lib.hid hcs
            have hp := heap_ext hp1 (hE2.trans (hE.trans hE3))
            have q0 := cell_of_heap hp 0
            have q1 := cell_of_heap hp 1
            have q2 := cell_of_heap hp 2
            have g0 := frozen_of_heap hp 0
            have g1 := frozen_of_heap hp 1
            have g2 := frozen_of_heap hp 2
            clear hcs
            go_wp2_with fail
            obtain ⟨hf1, hf2⟩ := fill_ref (y0 := .slice a k c) (y1 := .int .i64 (k : Nat)) (y2 := .bool false) hp
            have r0 := cell_of_heap hf1 0
            have r1 := cell_of_heap hf1 1
            have r2 := cell_of_heap hf1 2
            have hT9 := ((HT.out.ext (hE1.trans (hE2.trans (hE.trans hE3)))).take k (by omega)).keep (KeepS.but hf2 hp (by decide))
            have hEf : Ext w ((((w3).setCell ⟨w.heap.size + 1, 0, none⟩ (.slice a k c)).setCell ⟨w.heap.size + 1, 1, none⟩ (.int .i64 (k : Nat))).setCell ⟨w.heap.size + 1, 2, none⟩ (.bool false)) := Below.trans (B := w.heap.size) (hE1.trans (hE2.trans (hE.trans hE3))) ⟨hf2.os, hf2.tape, hf2.output, hf2.size, fun g hg => hf2.block g (Nat.lt_of_lt_of_le hg (hE1.trans (hE2.trans (hE.trans hE3))).size) (by omega)⟩
            generalize ((w3).setCell ⟨w.heap.size + 1, 0, none⟩ (.slice a k c)).setCell ⟨w.heap.size + 1, 1, none⟩ (.int .i64 (k : Nat)) = w8 at *
            generalize w8.setCell ⟨w.heap.size + 1, 2, none⟩ (.bool false) = w9 at *
            refine bodyPost_ret (v := refStoV a k c (k : Nat) false) (by simp [results, Tryz.results49, go_sem, r0, r1, r2, refStoV]) rfl ?_
            have hlk : (S.l.take k).length = k := by rw [List.length_take, HN.out]; omega
            refine ⟨_, rfl, ?_, hEf⟩
            rw [HCS.out]
            exact ⟨a, c, by simp only [hlk], by simp only [hlk]; exact hT9⟩
        · obtain rfl : k = n := by omega
          have hcs := Page.crash_stop (S := S) (keep := keep) (n := k) (E := (T0.length : Int) + keep) (by rw [HN.out]; omega) (fun j hj => HIFF.out j (by rw [← HN.out]; exact hj)) hle.out (by intro hj; exact absurd hj (by rw [HN.out]; omega))
          have HCS := Lib.hid hcs
          have hp := heap_ext hp1 (hE2.trans hE)
          have q0 := cell_of_heap hp 0
          have q1 := cell_of_heap hp 1
          have q2 := cell_of_heap hp 2
          have g0 := frozen_of_heap hp 0
          have g1 := frozen_of_heap hp 1
          have g2 := frozen_of_heap hp 2
          clear hcs
          go_wp2_with fail
          obtain ⟨hf1, hf2⟩ := fill_ref (y0 := .slice a k c) (y1 := .int .i64 (k : Nat)) (y2 := .bool false) hp
          have r0 := cell_of_heap hf1 0
          have r1 := cell_of_heap hf1 1
          have r2 := cell_of_heap hf1 2
          have hT9 := ((HT.out.ext (hE1.trans (hE2.trans hE))).take k (by omega)).keep (KeepS.but hf2 hp (by decide))
          have hEf : Ext w ((((wr).setCell ⟨w.heap.size + 1, 0, none⟩ (.slice a k c)).setCell ⟨w.heap.size + 1, 1, none⟩ (.int .i64 (k : Nat))).setCell ⟨w.heap.size + 1, 2, none⟩ (.bool false)) := Below.trans (B := w.heap.size) (hE1.trans (hE2.trans hE)) ⟨hf2.os, hf2.tape, hf2.output, hf2.size, fun g hg => hf2.block g (Nat.lt_of_lt_of_le hg (hE1.trans (hE2.trans hE)).size) (by omega)⟩
          generalize ((wr).setCell ⟨w.heap.size + 1, 0, none⟩ (.slice a k c)).setCell ⟨w.heap.size + 1, 1, none⟩ (.int .i64 (k : Nat)) = w8 at *
          generalize w8.setCell ⟨w.heap.size + 1, 2, none⟩ (.bool false) = w9 at *
          refine bodyPost_ret (v := refStoV a k c (k : Nat) false) (by simp [results, Tryz.results49, go_sem, r0, r1, r2, refStoV]) rfl ?_
          have hlk : (S.l.take k).length = k := by rw [List.length_take, HN.out]; omega
          refine ⟨_, rfl, ?_, hEf⟩
          rw [HCS.out]
          exact ⟨a, c, by simp only [hlk], by simp only [hlk]; exact hT9⟩
    · have hwr : wrap64 ((Y : Int) + keep) = (Y : Int) + keep - 18446744073709551616 := by unfold wrap64; omega
      have hiff : ∀ k, k ≤ n → ((((Page.bytes (S.l.take k)).length : Nat) : Int) ≤ 4611686018427387904 ↔ (Page.bytes (S.l.take k)).length ≤ S.syn + keep.toNat) := by intro k _; have := HBT.out k; rw [HY.out.1]; omega
      have HIFF := Lib.hid hiff
      obtain ⟨E0, hE0⟩ : ∃ E0, (Y : Int) + keep - 18446744073709551616 = E0 := ⟨_, rfl⟩
      have hlt2 : E0 < keep := by omega
      rw [hE0] at hwr
      clear hE0
      clear hiff
      go_wp2_with fail
      clear hwr hlt2
      go_loopw [5] (fun i wr => ∃ k : Nat, k ≤ n ∧ i = .int .i64 k ∧ Hid ((((Page.bytes (S.l.take k)).length : Nat) : Int) ≤ 4611686018427387904) ∧ Ext w2 wr) (fun i _ => n - (intOf i).toNat)
      case atStart => exact ⟨k0, hk0n, rfl, Lib.hid (by rw [HY.out.2]; omega), Ext.refl _⟩
      case round =>
        obtain ⟨k, hk, rfl, hle, hE⟩ := hrel
        have hqr := heap_ext hq1 (hE2.trans hE)
        have c0 : wr.cell? ⟨w.heap.size, 0, none⟩ = some (.slice a n c) := cell_of_heap hqr 0
        have c1 : wr.cell? ⟨w.heap.size, 1, none⟩ = some (.int .i64 (k0 : Nat)) := cell_of_heap hqr 1
        have c2 : wr.cell? ⟨w.heap.size, 2, none⟩ = some (.bool o0) := cell_of_heap hqr 2
        by_cases hlt : k < n
        · obtain ⟨B, hB⟩ : ∃ B, Page.bytes (S.l.take (k + 1)) = B := ⟨_, rfl⟩
          have HB := Lib.hid hB
          have hx := textRef8_any _ (k + 1) wr (H.out.ext (hE1.trans (hE2.trans hE))) HSM.out (by rw [HN.out]; omega)
          rw [hB, show ((k + 1 : Nat) : Int) = (k : Int) + 1 by omega] at hx
          have HX := Lib.hid hx
          clear hx hB
          go_wp2_with fail
          refine HX.out.mono ?_
          rintro e w3 ⟨rfl, hE3⟩
          have hqr3 := heap_ext hqr hE3
          have d0 : w3.cell? ⟨w.heap.size, 0, none⟩ = some (.slice a n c) := cell_of_heap hqr3 0
          by_cases hB2 : (B.length : Int) ≤ 4611686018427387904
          · go_wp2_with fail
            refine ⟨⟨k + 1, by omega, by simp, Lib.hid ?_, hE.trans hE3⟩, by simp [intOf]; omega⟩
            rw [HB.out]
            exact hB2
          · have hB3 : 4611686018427387904 < (B.length : Int) := by omega
            have hcs := Page.crash_stop (S := S) (keep := keep) (n := k) (E := 4611686018427387904) (by rw [HN.out]; omega) (fun j hj => HIFF.out j (by rw [← HN.out]; exact hj)) hle.out (by intro hj; rw [HB.out]; exact hB3)
            have HCS := Lib.hid hcs
            have hp := heap_ext hp1 (hE2.trans (hE.trans hE3))
            have q0 := cell_of_heap hp 0
            have q1 := cell_of_heap hp 1
            have q2 := cell_of_heap hp 2
            have g0 := frozen_of_heap hp 0
            have g1 := frozen_of_heap hp 1
            have g2 := frozen_of_heap hp 2
            clear hcs
            go_wp2_with fail
            obtain ⟨hf1, hf2⟩ := fill_ref (y0 := .slice a k c) (y1 := .int .i64 (k : Nat)) (y2 := .bool false) hp
            have r0 := cell_of_heap hf1 0
            have r1 := cell_of_heap hf1 1
            have r2 := cell_of_heap hf1 2
            have hT9 := ((HT.out.ext (hE1.trans (hE2.trans (hE.trans hE3)))).take k (by omega)).keep (KeepS.but hf2 hp (by decide))
            have hEf : Ext w ((((w3).setCell ⟨w.heap.size + 1, 0, none⟩ (.slice a k c)).setCell ⟨w.heap.size + 1, 1, none⟩ (.int .i64 (k : Nat))).setCell ⟨w.heap.size + 1, 2, none⟩ (.bool false)) := Below.trans (B := w.heap.size) (hE1.trans (hE2.trans (hE.trans hE3))) ⟨hf2.os, hf2.tape, hf2.output, hf2.size, fun g hg => hf2.block g (Nat.lt_of_lt_of_le hg (hE1.trans (hE2.trans (hE.trans hE3))).size) (by omega)⟩
            generalize ((w3).setCell ⟨w.heap.size + 1, 0, none⟩ (.slice a k c)).setCell ⟨w.heap.size + 1, 1, none⟩ (.int .i64 (k : Nat)) = w8 at *
            generalize w8.setCell ⟨w.heap.size + 1, 2, none⟩ (.bool false) = w9 at *
            refine bodyPost_ret (v := refStoV a k c (k : Nat) false) (by simp [results, Tryz.results49, go_sem, r0, r1, r2, refStoV]) rfl ?_
            have hlk : (S.l.take k).length = k := by rw [List.length_take, HN.out]; omega
            refine ⟨_, rfl, ?_, hEf⟩
            rw [HCS.out]
            exact ⟨a, c, by simp only [hlk], by simp only [hlk]; exact hT9⟩
        · obtain rfl : k = n := by omega
          have hcs := Page.crash_stop (S := S) (keep := keep) (n := k) (E := 4611686018427387904) (by rw [HN.out]; omega) (fun j hj => HIFF.out j (by rw [← HN.out]; exact hj)) hle.out (by intro hj; exact absurd hj (by rw [HN.out]; omega))
          have HCS := Lib.hid hcs
          have hp := heap_ext hp1 (hE2.trans hE)
          have q0 := cell_of_heap hp 0
          have q1 := cell_of_heap hp 1
          have q2 := cell_of_heap hp 2
          have g0 := frozen_of_heap hp 0
          have g1 := frozen_of_heap hp 1
          have g2 := frozen_of_heap hp 2
          clear hcs
          go_wp2_with fail
          obtain ⟨hf1, hf2⟩ := fill_ref (y0 := .slice a k c) (y1 := .int .i64 (k : Nat)) (y2 := .bool false) hp
          have r0 := cell_of_heap hf1 0
          have r1 := cell_of_heap hf1 1
          have r2 := cell_of_heap hf1 2
          have hT9 := ((HT.out.ext (hE1.trans (hE2.trans hE))).take k (by omega)).keep (KeepS.but hf2 hp (by decide))
          have hEf : Ext w ((((wr).setCell ⟨w.heap.size + 1, 0, none⟩ (.slice a k c)).setCell ⟨w.heap.size + 1, 1, none⟩ (.int .i64 (k : Nat))).setCell ⟨w.heap.size + 1, 2, none⟩ (.bool false)) := Below.trans (B := w.heap.size) (hE1.trans (hE2.trans hE)) ⟨hf2.os, hf2.tape, hf2.output, hf2.size, fun g hg => hf2.block g (Nat.lt_of_lt_of_le hg (hE1.trans (hE2.trans hE)).size) (by omega)⟩
          generalize ((wr).setCell ⟨w.heap.size + 1, 0, none⟩ (.slice a k c)).setCell ⟨w.heap.size + 1, 1, none⟩ (.int .i64 (k : Nat)) = w8 at *
          generalize w8.setCell ⟨w.heap.size + 1, 2, none⟩ (.bool false) = w9 at *
          refine bodyPost_ret (v := refStoV a k c (k : Nat) false) (by simp [results, Tryz.results49, go_sem, r0, r1, r2, refStoV]) rfl ?_
          have hlk : (S.l.take k).length = k := by rw [List.length_take, HN.out]; omega
          refine ⟨_, rfl, ?_, hEf⟩
          rw [HCS.out]
          exact ⟨a, c, by simp only [hlk], by simp only [hlk]; exact hT9⟩
  · have hiff : ∀ k, k ≤ n → ((((Page.bytes (S.l.take k)).length : Nat) : Int) ≤ (Y : Int) ↔ (Page.bytes (S.l.take k)).length ≤ S.syn + keep.toNat) := by intro k _; rw [HY.out.1]; omega
    have HIFF := Lib.hid hiff
    have hno : ¬ (Y : Int) < keep := by omega
    rw [← hY2] at hno HIFF
    clear hiff
    go_wp2_with fail
    go_loopw [5] (fun i wr => ∃ k : Nat, k ≤ n ∧ i = .int .i64 k ∧ Hid ((((Page.bytes (S.l.take k)).length : Nat) : Int) ≤ (T0.length : Int)) ∧ Ext w2 wr) (fun i _ => n - (intOf i).toNat)
    case atStart => exact ⟨k0, hk0n, rfl, Lib.hid (by rw [HY.out.2]; omega), Ext.refl _⟩
    case round =>
      obtain ⟨k, hk, rfl, hle, hE⟩ := hrel
      have hqr := heap_ext hq1 (hE2.trans hE)
      have c0 : wr.cell? ⟨w.heap.size, 0, none⟩ = some (.slice a n c) := cell_of_heap hqr 0
      have c1 : wr.cell? ⟨w.heap.size, 1, none⟩ = some (.int .i64 (k0 : Nat)) := cell_of_heap hqr 1
      have c2 : wr.cell? ⟨w.heap.size, 2, none⟩ = some (.bool o0) := cell_of_heap hqr 2
      by_cases hlt : k < n
      · obtain ⟨B, hB⟩ : ∃ B, Page.bytes (S.l.take (k + 1)) = B := ⟨_, rfl⟩
        have HB := Lib.hid hB
        have hx := textRef8_any _ (k + 1) wr (H.out.ext (hE1.trans (hE2.trans hE))) HSM.out (by rw [HN.out]; omega)
        rw [hB, show ((k + 1 : Nat) : Int) = (k : Int) + 1 by omega] at hx
        have HX := Lib.hid hx
        clear hx hB
        go_wp2_with fail
        refine HX.out.mono ?_
        rintro e w3 ⟨rfl, hE3⟩
        have hqr3 := heap_ext hqr hE3
        have d0 : w3.cell? ⟨w.heap.size, 0, none⟩ = some (.slice a n c) := cell_of_heap hqr3 0
        by_cases hB2 : (B.length : Int) ≤ (T0.length : Int)
        · go_wp2_with fail
          refine ⟨⟨k + 1, by omega, by simp, Lib.hid ?_, hE.trans hE3⟩, by simp [intOf]; omega⟩
          rw [HB.out]
          exact hB2
        · have hB3 : (T0.length : Int) < (B.length : Int) := by omega
          have hcs := Page.crash_stop (S := S) (keep := keep) (n := k) (E := (T0.length : Int)) (by rw [HN.out]; omega) (fun j hj => HIFF.out j (by rw [← HN.out]; exact hj)) hle.out (by intro hj; rw [HB.out]; exact hB3)
          have HCS := Lib.hid hcs
          have hp := heap_ext hp1 (hE2.trans (hE.trans hE3))
          have q0 := cell_of_heap hp 0
          have q1 := cell_of_heap hp 1
          have q2 := cell_of_heap hp 2
          have g0 := frozen_of_heap hp 0
          have g1 := frozen_of_heap hp 1
          have g2 := frozen_of_heap hp 2
          clear hcs
          go_wp2_with fail
          obtain ⟨hf1, hf2⟩ := fill_ref (y0 := .slice a k c) (y1 := .int .i64 (k : Nat)) (y2 := .bool false) hp
          have r0 := cell_of_heap hf1 0
          have r1 := cell_of_heap hf1 1
          have r2 := cell_of_heap hf1 2
          have hT9 := ((HT.out.ext (hE1.trans (hE2.trans (hE.trans hE3)))).take k (by omega)).keep (KeepS.but hf2 hp (by decide))
          have hEf : Ext w ((((w3).setCell ⟨w.heap.size + 1, 0, none⟩ (.slice a k c)).setCell ⟨w.heap.size + 1, 1, none⟩ (.int .i64 (k : Nat))).setCell ⟨w.heap.size + 1, 2, none⟩ (.bool false)) := Below.trans (B := w.heap.size) (hE1.trans (hE2.trans (hE.trans hE3))) ⟨hf2.os, hf2.tape, hf2.output, hf2.size, fun g hg => hf2.block g (Nat.lt_of_lt_of_le hg (hE1.trans (hE2.trans (hE.trans hE3))).size) (by omega)⟩
          generalize ((w3).setCell ⟨w.heap.size + 1, 0, none⟩ (.slice a k c)).setCell ⟨w.heap.size + 1, 1, none⟩ (.int .i64 (k : Nat)) = w8 at *
          generalize w8.setCell ⟨w.heap.size + 1, 2, none⟩ (.bool false) = w9 at *
          refine bodyPost_ret (v := refStoV a k c (k : Nat) false) (by simp [results, Tryz.results49, go_sem, r0, r1, r2, refStoV]) rfl ?_
          have hlk : (S.l.take k).length = k := by rw [List.length_take, HN.out]; omega
          refine ⟨_, rfl, ?_, hEf⟩
          rw [HCS.out]
          exact ⟨a, c, by simp only [hlk], by simp only [hlk]; exact hT9⟩
      · obtain rfl : k = n := by omega
        have hcs := Page.crash_stop (S := S) (keep := keep) (n := k) (E := (T0.length : Int)) (by rw [HN.out]; omega) (fun j hj => HIFF.out j (by rw [← HN.out]; exact hj)) hle.out (by intro hj; exact absurd hj (by rw [HN.out]; omega))
        have HCS := Lib.hid hcs
        have hp := heap_ext hp1 (hE2.trans hE)
        have q0 := cell_of_heap hp 0
        have q1 := cell_of_heap hp 1
        have q2 := cell_of_heap hp 2
        have g0 := frozen_of_heap hp 0
        have g1 := frozen_of_heap hp 1
        have g2 := frozen_of_heap hp 2
        clear hcs
        go_wp2_with fail
        obtain ⟨hf1, hf2⟩ := fill_ref (y0 := .slice a k c) (y1 := .int .i64 (k : Nat)) (y2 := .bool false) hp
        have r0 := cell_of_heap hf1 0
        have r1 := cell_of_heap hf1 1
        have r2 := cell_of_heap hf1 2
        have hT9 := ((HT.out.ext (hE1.trans (hE2.trans hE))).take k (by omega)).keep (KeepS.but hf2 hp (by decide))
        have hEf : Ext w ((((wr).setCell ⟨w.heap.size + 1, 0, none⟩ (.slice a k c)).setCell ⟨w.heap.size + 1, 1, none⟩ (.int .i64 (k : Nat))).setCell ⟨w.heap.size + 1, 2, none⟩ (.bool false)) := Below.trans (B := w.heap.size) (hE1.trans (hE2.trans hE)) ⟨hf2.os, hf2.tape, hf2.output, hf2.size, fun g hg => hf2.block g (Nat.lt_of_lt_of_le hg (hE1.trans (hE2.trans hE)).size) (by omega)⟩
        generalize ((wr).setCell ⟨w.heap.size + 1, 0, none⟩ (.slice a k c)).setCell ⟨w.heap.size + 1, 1, none⟩ (.int .i64 (k : Nat)) = w8 at *
        generalize w8.setCell ⟨w.heap.size + 1, 2, none⟩ (.bool false) = w9 at *
        refine bodyPost_ret (v := refStoV a k c (k : Nat) false) (by simp [results, Tryz.results49, go_sem, r0, r1, r2, refStoV]) rfl ?_
        have hlk : (S.l.take k).length = k := by rw [List.length_take, HN.out]; omega
        refine ⟨_, rfl, ?_, hEf⟩
        rw [HCS.out]
        exact ⟨a, c, by simp only [hlk], by simp only [hlk]; exact hT9⟩
end Go.Proofs.YtfgjhagfpafmoaaGreat
