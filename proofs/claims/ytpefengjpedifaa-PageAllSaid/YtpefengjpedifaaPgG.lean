/-
  Layer 8, the program: slices.BinarySearch at []int.
-/
import Derived.Test.YtpefengjpedifaaPgF
namespace Go.Proofs.Ytpefengjpedifaa
set_option linter.unusedSimpArgs false
set_option linter.unusedVariables false
set_option maxRecDepth 100000
open Go.RowKit

theorem nan1_any (x : Int) (w : World) : Calls Try.prog 95 #[.int .i64 x] w fun e w' => e = .returned (.bool false) ∧ w = w' := by
  go_enter Try.func95, Try.ntmps95
  go_wp2
  go_ret
  exact ⟨by simp, rfl⟩
theorem nan2_any (x : Int) (w : World) : Calls Try.prog 80 #[.int .i64 x] w fun e w' => e = .returned (.bool false) ∧ w = w' := by
  go_enter Try.func80, Try.ntmps80
  go_wp2
  go_ret
  exact ⟨by simp, rfl⟩
theorem less8_any (x y : Int) (w : World) : Calls Try.prog 79 #[.int .i64 x, .int .i64 y] w fun e w' => e = .returned (.bool (decide (x < y))) ∧ w = w' := by
  go_enter Try.func79, Try.ntmps79
  go_wp2_with fail
  refine (nan1_any x w).mono ?_
  rintro e w1 ⟨rfl, rfl⟩
  go_wp2_with fail
  go_ret
  exact ⟨rfl, rfl⟩

set_option maxHeartbeats 1000000 in
theorem search8_any (v : Value) (ns : List Int) (t : Int) (w : World) (hv : Ints w v ns) (hs : ∀ i j (hi : i < ns.length) (hj : j < ns.length), i < j → ns[i] < ns[j]) (hlen : ns.length ≤ 1000000) :
    Calls Try.prog 61 #[v, .int .i64 t] w fun e w' => ∃ i : Int, e = .returned (.tuple #[.int .i64 i, .bool (decide (t ∈ ns))]) ∧ w = w' := by
  obtain ⟨a, cap, rfl, hcap, hmax, _, hc⟩ := hv.open
  have HC := Lib.hid hc
  have HS := Lib.hid hs
  clear hv hc hs
  go_enter Try.func61, Try.ntmps61
  go_wp2_with fail
  go_loop [7, 8] (fun x y => ∃ i j : Nat, x = .int .i64 i ∧ y = .int .i64 j ∧ i ≤ j ∧ j ≤ ns.length ∧ Hid (∀ k (hk : k < ns.length), k < i → ns[k] < t) ∧ Hid (∀ k (hk : k < ns.length), j ≤ k → t ≤ ns[k])) (fun x y => (intOf y).toNat - (intOf x).toNat)
  case atStart => exact ⟨0, ns.length, rfl, rfl, by omega, by omega, Lib.hid (by omega), Lib.hid (by omega)⟩
  case round =>
    obtain ⟨i, j, rfl, rfl, hij, hjn, hlo, hhi⟩ := hrel
    by_cases hlt : i < j
    · obtain ⟨h, hh'⟩ : ∃ h, (i + j) / 2 = h := ⟨_, rfl⟩
      have hh : ((i : Int) + (j : Int)) / 2 = (h : Int) := by omega
      have hhn : h < ns.length := by omega
      obtain ⟨b, off, rfl, hcell⟩ := HC.out h hhn
      have hhi' : i ≤ h := by omega
      have hhj : h < j := by omega
      obtain ⟨y, hy⟩ : ∃ y, ns[h] = y := ⟨_, rfl⟩
      rw [hy] at hcell
      have HY := Lib.hid hy
      clear hy hh'
      go_wp2_with fail
      refine (less8_any y t w).mono ?_
      rintro e w1 ⟨rfl, rfl⟩
      by_cases hyt : y < t
      · go_wp2_with fail
        go_round
        case rel =>
          refine ⟨h + 1, j, by simp, rfl, by omega, hjn, Lib.hid fun k hk hki => ?_, hhi⟩
          rcases Nat.lt_or_ge k h with q | q
          · have := HS.out k h hk hhn q
            rw [HY.out] at this
            omega
          · obtain rfl : k = h := by omega
            rw [HY.out]
            exact hyt
        case measure => simp [intOf]; omega
      · go_wp2_with fail
        go_round
        case rel =>
          refine ⟨i, h, rfl, rfl, hhi', by omega, hlo, Lib.hid fun k hk hki => ?_⟩
          rcases Nat.lt_or_ge h k with q | q
          · have := HS.out h k hhn hk q
            rw [HY.out] at this
            omega
          · obtain rfl : k = h := by omega
            rw [HY.out]
            omega
        case measure => simp [intOf]; omega
    · obtain rfl : i = j := by omega
      by_cases hin : i < ns.length
      · obtain ⟨b, off, rfl, hcell⟩ := HC.out i hin
        obtain ⟨y, hy⟩ : ∃ y, ns[i] = y := ⟨_, rfl⟩
        rw [hy] at hcell
        have HY := Lib.hid hy
        clear hy
        by_cases hyt : y = t
        · have hmem : Hid (decide (t ∈ ns) = true) := Lib.hid (decide_eq_true (by rw [← hyt, ← HY.out]; exact List.getElem_mem _))
          have hyt2 : (y == t) = true := by simp [hyt]
          go_wp2_with fail
          go_ret2
          first | exact ⟨_, by rw [hmem.out]; rfl, rfl⟩ | exact ⟨⟨_, by rw [hmem.out]; rfl⟩, rfl⟩
        · have hmem : Hid (decide (t ∈ ns) = false) := Lib.hid (decide_eq_false (by
            intro hm
            obtain ⟨k, hk, e⟩ := List.getElem_of_mem hm
            rcases Nat.lt_trichotomy k i with q | q | q
            · have := hlo.out k hk q
              omega
            · subst q
              rw [HY.out] at e
              exact hyt e
            · have h1 := HS.out i k hin hk q
              have h2 := hhi.out i hin (Nat.le_refl _)
              rw [HY.out] at h1 h2
              omega))
          have hyt2 : (y == t) = false := by simp [hyt]
          go_wp2_with fail
          refine (nan2_any y w).mono ?_
          rintro e w1 ⟨rfl, rfl⟩
          go_wp2_with fail
          go_ret2
          first | exact ⟨_, by rw [hmem.out]; rfl, rfl⟩ | exact ⟨⟨_, by rw [hmem.out]; rfl⟩, rfl⟩
      · have hmem : Hid (decide (t ∈ ns) = false) := Lib.hid (decide_eq_false (by
          intro hm
          obtain ⟨k, hk, e⟩ := List.getElem_of_mem hm
          have := hlo.out k hk (by omega)
          omega))
        go_wp2_with fail
        go_ret2
        first | exact ⟨_, by rw [hmem.out]; rfl, rfl⟩ | exact ⟨⟨_, by rw [hmem.out]; rfl⟩, rfl⟩

/-- The heap is as it was. -/
structure Alike (a b : World) : Prop where
  heap : b.heap = a.heap
  os : b.os = a.os
  tape : b.tape = a.tape
  output : b.output = a.output
theorem Alike.refl (a : World) : Alike a a := ⟨rfl, rfl, rfl, rfl⟩
theorem Alike.ext {a b : World} (h : Alike a b) : Ext a b := ⟨h.os, h.tape, h.output, by rw [h.heap]; exact Nat.le_refl _, fun k _ => by rw [h.heap]⟩
theorem TB.alike {a b : World} {q : Nat} (h : TB a q) (k : Alike a b) : TB b q := h.ext k.ext
/-- What lay ahead is as it was, and all blocks of bytes are. -/
def BelowU (B : Nat) (a b : World) : Prop := Below B a b ∧ KeepU a b
theorem BelowU.ext {B : Nat} {a b : World} (h : Ext a b) (hB : B ≤ a.heap.size) : BelowU B a b := ⟨h.mono hB, KeepU.ext h⟩
def readState (B : Nat) (k : Nat) (w : World) : Prop := B ≤ w.heap.size ∧ (k = 0 → w.heap.size = B) ∧ (k = 1 → TB w B)
theorem readState.alike {B k : Nat} {a b : World} (h : Alike a b) (hs : readState B k a) : readState B k b := by
  obtain ⟨h1, h2, h3⟩ := hs
  refine ⟨by rw [h.heap]; exact h1, fun e => by rw [h.heap]; exact h2 e, fun e => (h3 e).alike h⟩
theorem cell_below {a b : World} {q : Addr} {v : Value} (h : a.cell? q = some v) (hb : Below a.heap.size a b) : b.cell? q = some v := cell_ext h hb
/-- What Read tells. -/
def GivesRead (w : World) (r : Option (List UInt8)) (e : Ending) (w' : World) : Prop := Ext w w' ∧ match r with
  | none => e = .returned (.tuple #[.slice none 0 0, .bool false])
  | some x => ∃ a n c, e = .returned (.tuple #[.slice a n c, .bool true]) ∧ BytesU w' (.slice a n c) x

set_option maxHeartbeats 1000000 in
theorem read8_any {w : World} {base p : Nat} {va vp : Value} {S : Page.St} (h : IsSto w base p va vp S) (t : Int) :
    Calls Try.prog 44 #[.pointer (some ⟨p, 0, none⟩), .int .i64 t] w (GivesRead w (Page.readAt S.l t)) := by
  have H := Lib.hid h
  obtain ⟨a, c, b, d, rfl, rfl⟩ := h.open
  have hhp := h.heap
  have c0 : w.cell? ⟨p, 0, none⟩ = some (.slice a (Page.bytes S.l).length c) := cell_of_heap h.heap 0
  have c1 : w.cell? ⟨p, 1, none⟩ = some (.slice b S.l.length d) := cell_of_heap h.heap 1
  have hb := (BytesU.own h.all).1
  have hi : Ints w (.slice b S.l.length d) (Page.offs S.l) := Sl.ofOwn h.places
  have hmax := h.ok.max
  have hcnt := Page.count_le S.l
  have hsm := h.ok.small
  have hrise : ∀ i j (hi : i < (Page.offs S.l).length) (hj : j < (Page.offs S.l).length), i < j → (Page.offs S.l)[i] < (Page.offs S.l)[j] := by
    intro i j h1 h2 hij
    rw [Page.offs_get, Page.offs_get]
    have := Page.bytes_take_lt S.l hij (by simp at h2; omega)
    omega
  have hle : (Page.offs S.l).length ≤ 1000000 := by simp; omega
  have hsr := search8_any _ (Page.offs S.l) t w hi hrise hle
  have HSR := Lib.hid hsr
  have HB := Lib.hid hb
  have HSM := Lib.hid hsm
  have hlen := hb.len
  obtain ⟨n, hn⟩ : ∃ n, (Page.bytes S.l).length = n := ⟨_, rfl⟩
  rw [hn] at c0 hmax hlen
  have HN := Lib.hid hn
  clear h hb hi hrise hle hsr hcnt hsm hn
  go_enter Try.func44, Try.ntmps44
  go_wp2_with fail
  refine HSR.out.mono ?_
  rintro e w1 ⟨i, rfl, rfl⟩
  by_cases hm : t ∈ Page.offs S.l
  · obtain ⟨k, hk, hkt⟩ := List.getElem_of_mem hm
    rw [Page.offs_get] at hkt
    have hk' : k < S.l.length := by simpa using hk
    have hrd := Page.readAt_some S.l k hk' t hkt.symm
    have hdt := decide_eq_true hm
    have HR := Lib.hid hrd
    have hdrop := Page.bytes_drop S.l k hk'
    have hfr := Page.first_frame (HSM.out _ (List.getElem_mem hk')) (Page.bytes (S.l.drop (k + 1)))
    have hlt := congrArg List.length hdrop
    have hfp := Page.frame_pos S.l[k]
    rw [List.length_drop, List.length_append, HN.out] at hlt
    obtain ⟨q, hq⟩ : ∃ q, (Page.bytes (S.l.take k)).length = q := ⟨_, rfl⟩
    rw [hq] at hkt hdrop hlt
    have hqn : q < n := by omega
    rw [← hdrop] at hfr
    have hpt := HB.out
    rw [HN.out] at hpt
    have hpart := hpt.part q n (by omega) (Nat.le_refl _)
    rw [if_neg (by omega), List.take_of_length_le (by have := HN.out; omega)] at hpart
    have HP := Lib.hid hpart
    have HF := Lib.hid hfr
    have hl9 : ((Page.bytes S.l).drop q).length ≤ 200000 := by rw [List.length_drop]; have := HN.out; omega
    have HL9 := Lib.hid hl9
    have hnq : ¬ n = q := by omega
    have hnb : (n : Int) ≤ 9223372036854775807 := by omega
    obtain ⟨B0, hB0⟩ : ∃ B0, w.heap.size = B0 := ⟨_, rfl⟩
    have HB0 := Lib.hid hB0
    clear hB0 hrd hm hdrop hfr hlt hpt hpart hl9 hq hk hfp
    subst hkt
    rw [hdt]
    clear hdt
    go_wp2_with fail
    obtain ⟨F9, hF9⟩ : ∃ F9 : Nat, (Page.frame S.l[k]).length = F9 := ⟨_, rfl⟩
    obtain ⟨X9, hX9⟩ : ∃ X9, S.l[k] = X9 := ⟨_, rfl⟩
    rw [hX9] at hF9
    have HX9 := Lib.hid hX9
    have HF9 := Lib.hid hF9
    have hc := fun (wy : World) (ht : TB wy B0) (hE : Below w.heap.size w wy) => first8_any B0 _ _ wy ht (HP.out.below hE) HL9.out
    rw [HF.out, hX9] at hc
    have hs0 : readState B0 0 w := ⟨by rw [HB0.out]; exact Nat.le_refl _, fun _ => HB0.out, fun e => by cases e⟩
    clear hX9 hF9
    refine wp_region_marked (by kernel_rfl) Alike (BelowU B0) (fun iop v w => match iop with
        | 0 => v = .pointer (some ⟨p, 0, none⟩)
        | 1 => v = .pointer (some ⟨p, 0, none⟩)
        | 2 => v = .pointer (some ⟨p, 0, none⟩)
        | 3 => v = .slice a n c
        | 4 => v = .int .i64 (q : Int)
        | 5 => v = .pointer (some ⟨p, 0, none⟩)
        | 6 => v = .pointer (some ⟨p, 0, none⟩)
        | 7 => v = .pointer (some ⟨p, 0, none⟩)
        | 8 => v = .slice a n c
        | 9 => v = .int .i64 (n : Int)
        | 10 => v = .pointer (some ⟨p, 0, none⟩)
        | 11 => v = .pointer (some ⟨p, 0, none⟩)
        | 12 => v = .pointer (some ⟨p, 0, none⟩)
        | 13 => v = .slice a n c
        | 14 => v = .int .i64 (n : Int)
        | 15 => v = .slice (a.map (·.add q)) (n - q) (n - q)
        | 16 => v = .pointer (some ⟨B0, 0, none⟩)
        | 17 => ∃ a3 n3 c3, v = .tuple #[.slice a3 n3 c3, .int .i64 (F9 : Int), .bool true] ∧ BytesU w (.slice a3 n3 c3) X9
        | 18 => ∃ a3 n3 c3, v = .tuple #[.slice a3 n3 c3, .int .i64 (F9 : Int), .bool true] ∧ BytesU w (.slice a3 n3 c3) X9
        | 19 => ∃ a3 n3 c3, v = .slice a3 n3 c3 ∧ BytesU w (.slice a3 n3 c3) X9
        | 20 => v = .int .i64 (F9 : Int)
        | 21 => v = .bool true
        | 22 => ∃ a3 n3 c3, v = .slice a3 n3 c3 ∧ BytesU w (.slice a3 n3 c3) X9
        | 23 => v = .int .i64 (F9 : Int)
        | _ => v = .bool true
        ) [16, 17] (readState B0) (by kernel_rfl) (fun _ _ _ h k => ⟨h.1.trans k.1, h.2.trans k.2⟩) Alike.refl (fun a b h => ⟨⟨h.os, h.tape, h.output, by rw [h.heap]; exact Nat.le_refl _, fun k _ => by rw [h.heap]⟩, KeepU.ext h.ext⟩) (fun _ _ _ h hs => hs.alike h) ⟨rfl, rfl, rfl, rfl⟩ hs0 ?_ ?_ ?_ ?_
    · intro iop v wa wb hF hL
      iterate 17 (rcases iop with _ | iop; exact hF)
      iterate 3 (rcases iop with _ | iop; (first | exact hF | (obtain ⟨a3, n3, c3, e0, hg⟩ := hF; exact ⟨a3, n3, c3, e0, hg.keep hL.2⟩)))
      iterate 2 (rcases iop with _ | iop; exact hF)
      rcases iop with _ | iop; (first | exact hF | (obtain ⟨a3, n3, c3, e0, hg⟩ := hF; exact ⟨a3, n3, c3, e0, hg.keep hL.2⟩))
      rcases iop with _ | iop; exact hF
      exact hF
    · refine Obls2.cons ?_ (Obls2.cons ?_ (Obls2.cons ?_ (Obls2.cons ?_ (Obls2.cons ?_ (Obls2.cons ?_ (Obls2.cons ?_ (Obls2.cons ?_ (Obls2.cons ?_ (Obls2.cons ?_ (Obls2.cons ?_ (Obls2.cons ?_ (Obls2.cons ?_ (Obls2.cons ?_ (Obls2.cons ?_ (Obls2.cons ?_ (Obls2.cons ?_ (Obls2.cons ?_ (Obls2.cons ?_ (Obls2.cons ?_ (Obls2.cons ?_ (Obls2.cons ?_ (Obls2.cons ?_ (Obls2.cons ?_ (Obls2.cons ?_ (Obls2.nil)))))))))))))))))))))))))
      · intro ev wy ls hp hl hS hbh hk hd
        rw [if_neg (by decide)]
        clear hS hbh
        have e0 : ev (.tmp 0) = .pointer (some ⟨p, 0, none⟩) := hk 0 (by decide)
        clear hk hd
        exact Yield.mv rfl ⟨Alike.refl _, e0⟩
      · intro ev wy ls hp hl hS hbh hk hd
        rw [if_neg (by decide)]
        clear hS hbh
        have e23 : ev (.tmp 23) = .pointer (some ⟨p, 0, none⟩) := hk 23 (by decide)
        clear hk hd
        exact Yield.op (v := .pointer (some ⟨p, 0, none⟩)) (w' := wy) (by simp [execOp, go_sem, e23]) ⟨Alike.refl _, rfl⟩
      · intro ev wy ls hp hl hS hbh hk hd
        rw [if_neg (by decide)]
        clear hS hbh
        have e24 : ev (.tmp 24) = .pointer (some ⟨p, 0, none⟩) := hk 24 (by decide)
        clear hk hd
        exact Yield.op (v := .pointer (some ⟨p, 0, none⟩)) (w' := wy) (by simp [execOp, go_sem, e24]) ⟨Alike.refl _, rfl⟩
      · intro ev wy ls hp hl hS hbh hk hd
        rw [if_neg (by decide)]
        clear hS hbh
        have e25 : ev (.tmp 25) = .pointer (some ⟨p, 0, none⟩) := hk 25 (by decide)
        clear hk hd
        exact Yield.load rfl e25 (ldBy (cell_below c0 (HB0.out ▸ hl.1))) ⟨Alike.refl _, rfl⟩
      · intro ev wy ls hp hl hS hbh hk hd
        rw [if_neg (by decide)]
        clear hS hbh
        have e1 : ev (.tmp 1) = .int .i64 (q : Int) := hk 1 (by decide)
        clear hk hd
        exact Yield.mv rfl ⟨Alike.refl _, e1⟩
      · intro ev wy ls hp hl hS hbh hk hd
        rw [if_neg (by decide)]
        clear hS hbh
        have e0 : ev (.tmp 0) = .pointer (some ⟨p, 0, none⟩) := hk 0 (by decide)
        clear hk hd
        exact Yield.mv rfl ⟨Alike.refl _, e0⟩
      · intro ev wy ls hp hl hS hbh hk hd
        rw [if_neg (by decide)]
        clear hS hbh
        have e28 : ev (.tmp 28) = .pointer (some ⟨p, 0, none⟩) := hk 28 (by decide)
        clear hk hd
        exact Yield.op (v := .pointer (some ⟨p, 0, none⟩)) (w' := wy) (by simp [execOp, go_sem, e28]) ⟨Alike.refl _, rfl⟩
      · intro ev wy ls hp hl hS hbh hk hd
        rw [if_neg (by decide)]
        clear hS hbh
        have e29 : ev (.tmp 29) = .pointer (some ⟨p, 0, none⟩) := hk 29 (by decide)
        clear hk hd
        exact Yield.op (v := .pointer (some ⟨p, 0, none⟩)) (w' := wy) (by simp [execOp, go_sem, e29]) ⟨Alike.refl _, rfl⟩
      · intro ev wy ls hp hl hS hbh hk hd
        rw [if_neg (by decide)]
        clear hS hbh
        have e30 : ev (.tmp 30) = .pointer (some ⟨p, 0, none⟩) := hk 30 (by decide)
        clear hk hd
        exact Yield.load rfl e30 (ldBy (cell_below c0 (HB0.out ▸ hl.1))) ⟨Alike.refl _, rfl⟩
      · intro ev wy ls hp hl hS hbh hk hd
        rw [if_neg (by decide)]
        clear hS hbh
        have e31 : ev (.tmp 31) = .slice a n c := hk 31 (by decide)
        clear hk hd
        exact Yield.op (v := .int .i64 (n : Int)) (w' := wy) (by simp [execOp, go_sem, e31]) ⟨Alike.refl _, rfl⟩
      · intro ev wy ls hp hl hS hbh hk hd
        rw [if_neg (by decide)]
        clear hS hbh
        have e0 : ev (.tmp 0) = .pointer (some ⟨p, 0, none⟩) := hk 0 (by decide)
        clear hk hd
        exact Yield.mv rfl ⟨Alike.refl _, e0⟩
      · intro ev wy ls hp hl hS hbh hk hd
        rw [if_neg (by decide)]
        clear hS hbh
        have e33 : ev (.tmp 33) = .pointer (some ⟨p, 0, none⟩) := hk 33 (by decide)
        clear hk hd
        exact Yield.op (v := .pointer (some ⟨p, 0, none⟩)) (w' := wy) (by simp [execOp, go_sem, e33]) ⟨Alike.refl _, rfl⟩
      · intro ev wy ls hp hl hS hbh hk hd
        rw [if_neg (by decide)]
        clear hS hbh
        have e34 : ev (.tmp 34) = .pointer (some ⟨p, 0, none⟩) := hk 34 (by decide)
        clear hk hd
        exact Yield.op (v := .pointer (some ⟨p, 0, none⟩)) (w' := wy) (by simp [execOp, go_sem, e34]) ⟨Alike.refl _, rfl⟩
      · intro ev wy ls hp hl hS hbh hk hd
        rw [if_neg (by decide)]
        clear hS hbh
        have e35 : ev (.tmp 35) = .pointer (some ⟨p, 0, none⟩) := hk 35 (by decide)
        clear hk hd
        exact Yield.load rfl e35 (ldBy (cell_below c0 (HB0.out ▸ hl.1))) ⟨Alike.refl _, rfl⟩
      · intro ev wy ls hp hl hS hbh hk hd
        rw [if_neg (by decide)]
        clear hS hbh
        have e36 : ev (.tmp 36) = .slice a n c := hk 36 (by decide)
        clear hk hd
        exact Yield.op (v := .int .i64 (n : Int)) (w' := wy) (by simp [execOp, go_sem, e36]) ⟨Alike.refl _, rfl⟩
      · intro ev wy ls hp hl hS hbh hk hd
        rw [if_neg (by decide)]
        clear hS hbh
        have e26 : ev (.tmp 26) = .slice a n c := hk 26 (by decide)
        have e27 : ev (.tmp 27) = .int .i64 (q : Int) := hk 27 (by decide)
        have e32 : ev (.tmp 32) = .int .i64 (n : Int) := hk 32 (by decide)
        have e37 : ev (.tmp 37) = .int .i64 (n : Int) := hk 37 (by decide)
        clear hk hd
        exact Yield.slice rfl e26 (by simp only [Option.map_some, e27, e32, e37]; rw [run_sl_both3 Try.underlying22 (by kernel_rfl) q n (by omega) (by omega) .i64 .i64 .i64, if_neg hnq]) ⟨Alike.refl _, rfl⟩
      · intro ev wy ls hp hl hS hbh hk hd
        rw [if_pos (by decide)]
        have hc16 : ls 16 = false := hbh.notyet
        have hc17 : ls 17 = false := Bool.eq_false_iff.2 fun hq => absurd (hbh.closed 17 _ rfl (hq) 16 (by decide)) (by rw [hbh.notyet]; decide)
        have hst := hS
        rw [show stage [16, 17] ls = 0 from by simp [stage, List.filter, hc16, hc17]] at hst
        have hup : stage [16, 17] (upd ls 16) = 1 := by simp [stage, List.filter, upd, hc16, hc17]
        clear hc16 hc17 hS hbh
        clear hk hd
        refine Yield.call rfl hp Try.func55 rfl (by kernel_rfl) ?_
        simp only [List.map_toArray, List.map_nil]
        have hsz := hst.2.1 rfl
        exact (newT wy).mono fun e w' ⟨he, hb, ht⟩ => ⟨_, he, BelowU.ext hb (by omega), by rw [hsz], by rw [hup]; exact ⟨Nat.le_trans (by omega) hb.size, fun e => (by cases e), fun _ => by rw [← hsz]; exact ht⟩⟩
      · intro ev wy ls hp hl hS hbh hk hd
        rw [if_pos (by decide)]
        have hc16 : ls 16 = true := hbh.ready 16 (by decide)
        have hc17 : ls 17 = false := hbh.notyet
        have hst := hS
        rw [show stage [16, 17] ls = 1 from by simp [stage, List.filter, hc16, hc17]] at hst
        have hup : stage [16, 17] (upd ls 17) = 2 := by simp [stage, List.filter, upd, hc16, hc17]
        clear hc16 hc17 hS hbh
        have e38 : ev (.tmp 38) = .slice (a.map (·.add q)) (n - q) (n - q) := hk 38 (by decide)
        have e39 : ev (.tmp 39) = .pointer (some ⟨B0, 0, none⟩) := hk 39 (by decide)
        clear hk hd
        refine Yield.call rfl hp Try.func62 rfl (by kernel_rfl) ?_
        simp only [List.map_toArray, List.map_cons, List.map_nil, e38, e39]
        have htb := hst.2.2 rfl
        have hsz := hst.1
        exact (hc wy htb (HB0.out ▸ hl.1)).mono fun e w' ⟨hB, _, a3, n3, c3, he, hg⟩ => ⟨_, he, ⟨hB.below (Nat.le_refl _) hsz, (by obtain ⟨d9, c9, _, ht9⟩ := htb; exact KeepU.but hB ht9 (by decide))⟩, ⟨a3, n3, c3, by rw [HF9.out], hg⟩, by rw [hup]; exact ⟨Nat.le_trans hsz hB.size, fun e => (by cases e), fun e => (by cases e)⟩⟩
      · intro ev wy ls hp hl hS hbh hk hd
        rw [if_neg (by decide)]
        have hc16 : ls 16 = true := hbh.closed 17 _ rfl (hbh.ready 17 (by decide)) 16 (by decide)
        have hc17 : ls 17 = true := hbh.ready 17 (by decide)
        have hst := hS
        rw [show stage [16, 17] ls = 2 from by simp [stage, List.filter, hc16, hc17]] at hst
        clear hc16 hc17 hS hbh
        have f40 : (fun (v : Value) (w : World) => ∃ a3 n3 c3, v = .tuple #[.slice a3 n3 c3, .int .i64 (F9 : Int), .bool true] ∧ BytesU w (.slice a3 n3 c3) X9) (ev (.tmp 40)) wy := hk 40 (by decide)
        generalize hx40 : ev (.tmp 40) = x40 at *
        clear hk hd
        exact Yield.mv rfl ⟨Alike.refl _, by rw [hx40]; exact f40⟩
      · intro ev wy ls hp hl hS hbh hk hd
        rw [if_neg (by decide)]
        have hc16 : ls 16 = true := hbh.closed 17 _ rfl (hbh.closed 18 _ rfl (hbh.ready 18 (by decide)) 17 (by decide)) 16 (by decide)
        have hc17 : ls 17 = true := hbh.closed 18 _ rfl (hbh.ready 18 (by decide)) 17 (by decide)
        have hst := hS
        rw [show stage [16, 17] ls = 2 from by simp [stage, List.filter, hc16, hc17]] at hst
        clear hc16 hc17 hS hbh
        have f22 : (fun (v : Value) (w : World) => ∃ a3 n3 c3, v = .tuple #[.slice a3 n3 c3, .int .i64 (F9 : Int), .bool true] ∧ BytesU w (.slice a3 n3 c3) X9) (ev (.tmp 22)) wy := hk 22 (by decide)
        generalize hx22 : ev (.tmp 22) = x22 at *
        clear hk hd
        obtain ⟨a3, n3, c3, rfl, hg⟩ := f22
        exact Yield.op (v := .slice a3 n3 c3) (w' := wy) (by simp [execOp, go_sem, hx22]) ⟨Alike.refl _, a3, n3, c3, rfl, hg⟩
      · intro ev wy ls hp hl hS hbh hk hd
        rw [if_neg (by decide)]
        have hc16 : ls 16 = true := hbh.closed 17 _ rfl (hbh.closed 18 _ rfl (hbh.ready 18 (by decide)) 17 (by decide)) 16 (by decide)
        have hc17 : ls 17 = true := hbh.closed 18 _ rfl (hbh.ready 18 (by decide)) 17 (by decide)
        have hst := hS
        rw [show stage [16, 17] ls = 2 from by simp [stage, List.filter, hc16, hc17]] at hst
        clear hc16 hc17 hS hbh
        have f22 : (fun (v : Value) (w : World) => ∃ a3 n3 c3, v = .tuple #[.slice a3 n3 c3, .int .i64 (F9 : Int), .bool true] ∧ BytesU w (.slice a3 n3 c3) X9) (ev (.tmp 22)) wy := hk 22 (by decide)
        generalize hx22 : ev (.tmp 22) = x22 at *
        clear hk hd
        obtain ⟨a3, n3, c3, rfl, hg⟩ := f22
        exact Yield.op (v := .int .i64 (F9 : Int)) (w' := wy) (by simp [execOp, go_sem, hx22]) ⟨Alike.refl _, rfl⟩
      · intro ev wy ls hp hl hS hbh hk hd
        rw [if_neg (by decide)]
        have hc16 : ls 16 = true := hbh.closed 17 _ rfl (hbh.closed 18 _ rfl (hbh.ready 18 (by decide)) 17 (by decide)) 16 (by decide)
        have hc17 : ls 17 = true := hbh.closed 18 _ rfl (hbh.ready 18 (by decide)) 17 (by decide)
        have hst := hS
        rw [show stage [16, 17] ls = 2 from by simp [stage, List.filter, hc16, hc17]] at hst
        clear hc16 hc17 hS hbh
        have f22 : (fun (v : Value) (w : World) => ∃ a3 n3 c3, v = .tuple #[.slice a3 n3 c3, .int .i64 (F9 : Int), .bool true] ∧ BytesU w (.slice a3 n3 c3) X9) (ev (.tmp 22)) wy := hk 22 (by decide)
        generalize hx22 : ev (.tmp 22) = x22 at *
        clear hk hd
        obtain ⟨a3, n3, c3, rfl, hg⟩ := f22
        exact Yield.op (v := .bool true) (w' := wy) (by simp [execOp, go_sem, hx22]) ⟨Alike.refl _, rfl⟩
      · intro ev wy ls hp hl hS hbh hk hd
        rw [if_neg (by decide)]
        have hc16 : ls 16 = true := hbh.ready 16 (by decide)
        have hc17 : ls 17 = true := hbh.ready 17 (by decide)
        have hst := hS
        rw [show stage [16, 17] ls = 2 from by simp [stage, List.filter, hc16, hc17]] at hst
        clear hc16 hc17 hS hbh
        have f41 : (fun (v : Value) (w : World) => ∃ a3 n3 c3, v = .slice a3 n3 c3 ∧ BytesU w (.slice a3 n3 c3) X9) (ev (.tmp 41)) wy := hk 41 (by decide)
        generalize hx41 : ev (.tmp 41) = x41 at *
        clear hk hd
        exact Yield.as rfl ⟨Alike.refl _, by rw [hx41]; exact f41⟩
      · intro ev wy ls hp hl hS hbh hk hd
        rw [if_neg (by decide)]
        have hc16 : ls 16 = true := hbh.ready 16 (by decide)
        have hc17 : ls 17 = true := hbh.ready 17 (by decide)
        have hst := hS
        rw [show stage [16, 17] ls = 2 from by simp [stage, List.filter, hc16, hc17]] at hst
        clear hc16 hc17 hS hbh
        have e42 : ev (.tmp 42) = .int .i64 (F9 : Int) := hk 42 (by decide)
        clear hk hd
        exact Yield.as rfl ⟨Alike.refl _, e42⟩
      · intro ev wy ls hp hl hS hbh hk hd
        rw [if_neg (by decide)]
        have hc16 : ls 16 = true := hbh.ready 16 (by decide)
        have hc17 : ls 17 = true := hbh.ready 17 (by decide)
        have hst := hS
        rw [show stage [16, 17] ls = 2 from by simp [stage, List.filter, hc16, hc17]] at hst
        clear hc16 hc17 hS hbh
        have e43 : ev (.tmp 43) = .bool true := hk 43 (by decide)
        clear hk hd
        exact Yield.as rfl ⟨Alike.refl _, e43⟩
    · decide
    · intro vals wz hz hS hv
      have g23 : vals 0 = .pointer (some ⟨p, 0, none⟩) := hv 0 (by decide)
      have g24 : vals 1 = .pointer (some ⟨p, 0, none⟩) := hv 1 (by decide)
      have g25 : vals 2 = .pointer (some ⟨p, 0, none⟩) := hv 2 (by decide)
      have g26 : vals 3 = .slice a n c := hv 3 (by decide)
      have g27 : vals 4 = .int .i64 (q : Int) := hv 4 (by decide)
      have g28 : vals 5 = .pointer (some ⟨p, 0, none⟩) := hv 5 (by decide)
      have g29 : vals 6 = .pointer (some ⟨p, 0, none⟩) := hv 6 (by decide)
      have g30 : vals 7 = .pointer (some ⟨p, 0, none⟩) := hv 7 (by decide)
      have g31 : vals 8 = .slice a n c := hv 8 (by decide)
      have g32 : vals 9 = .int .i64 (n : Int) := hv 9 (by decide)
      have g33 : vals 10 = .pointer (some ⟨p, 0, none⟩) := hv 10 (by decide)
      have g34 : vals 11 = .pointer (some ⟨p, 0, none⟩) := hv 11 (by decide)
      have g35 : vals 12 = .pointer (some ⟨p, 0, none⟩) := hv 12 (by decide)
      have g36 : vals 13 = .slice a n c := hv 13 (by decide)
      have g37 : vals 14 = .int .i64 (n : Int) := hv 14 (by decide)
      have g38 : vals 15 = .slice (a.map (·.add q)) (n - q) (n - q) := hv 15 (by decide)
      have g39 : vals 16 = .pointer (some ⟨B0, 0, none⟩) := hv 16 (by decide)
      have g40 : (fun (v : Value) (w : World) => ∃ a3 n3 c3, v = .tuple #[.slice a3 n3 c3, .int .i64 (F9 : Int), .bool true] ∧ BytesU w (.slice a3 n3 c3) X9) (vals 17) wz := hv 17 (by decide)
      have g22 : (fun (v : Value) (w : World) => ∃ a3 n3 c3, v = .tuple #[.slice a3 n3 c3, .int .i64 (F9 : Int), .bool true] ∧ BytesU w (.slice a3 n3 c3) X9) (vals 18) wz := hv 18 (by decide)
      have g41 : (fun (v : Value) (w : World) => ∃ a3 n3 c3, v = .slice a3 n3 c3 ∧ BytesU w (.slice a3 n3 c3) X9) (vals 19) wz := hv 19 (by decide)
      have g42 : vals 20 = .int .i64 (F9 : Int) := hv 20 (by decide)
      have g43 : vals 21 = .bool true := hv 21 (by decide)
      have g8 : (fun (v : Value) (w : World) => ∃ a3 n3 c3, v = .slice a3 n3 c3 ∧ BytesU w (.slice a3 n3 c3) X9) (vals 22) wz := hv 22 (by decide)
      have g9 : vals 23 = .int .i64 (F9 : Int) := hv 23 (by decide)
      have g10 : vals 24 = .bool true := hv 24 (by decide)
      clear hv
      simp only [putAll, Act.put, List.setIfInBounds_toArray, List.set_cons_zero, List.set_cons_succ, g23, g24, g25, g26, g27, g28, g29, g30, g31, g32, g33, g34, g35, g36, g37, g38, g39, g42, g43, g9, g10]
      clear g23
      clear g24
      clear g25
      clear g26
      clear g27
      clear g28
      clear g29
      clear g30
      clear g31
      clear g32
      clear g33
      clear g34
      clear g35
      clear g36
      clear g37
      clear g38
      clear g39
      generalize vals 17 = v40 at *
      generalize vals 18 = v22 at *
      generalize vals 19 = v41 at *
      clear g42
      clear g43
      generalize vals 22 = v8 at *
      clear g9
      clear g10
      obtain ⟨a3, n3, c3, rfl, hg⟩ := g8
      clear g40 g22 g41
      have HG := Lib.hid hg
      clear hg
      go_wp2_with fail
      go_ret2
      exact ⟨by rw [← HB0.out] at hz; exact hz.1, by rw [HR.out, HX9.out]; exact ⟨_, _, _, rfl, HG.out⟩⟩
  · have hrd : Page.readAt S.l t = none := Page.readAt_none S.l t fun k hk e => hm (by
      rw [← e]
      have := List.getElem_mem (l := Page.offs S.l) (n := k) (by simpa using hk)
      rwa [Page.offs_get] at this)
    have hdf := decide_eq_false hm
    have HR := Lib.hid hrd
    clear hrd hm
    rw [hdf]
    go_wp2_with fail
    go_ret2
    exact ⟨Ext.refl _, by rw [HR.out]; rfl⟩
end Go.Proofs.Ytpefengjpedifaa
