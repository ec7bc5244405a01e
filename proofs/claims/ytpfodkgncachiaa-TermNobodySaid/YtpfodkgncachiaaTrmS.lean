/-
  Layer 6: the program answers at an example: what each statement asks beside.
-/
import Derived.Test.YtpfodkgncachiaaTrmR
import Derived.Test.YtpfodkgncachiaaTrmJ
import Derived.Test.YtpfodkgncachiaaTrmK
import Derived.Test.YtpfodkgncachiaaTrmO
namespace Go.Proofs.Ytpfodkgncachiaa
set_option linter.unusedSimpArgs false
set_option linter.unusedVariables false
set_option maxRecDepth 100000
open Go.RowKit

/-- The example. -/
def exC : Term.C := ⟨1, [0, 1, 2], [[3, 4], [4, 5]]⟩
theorem exRight : Term.right exC = true := by decide
theorem exNextOk : Term.nextOk exC [4] = true := by decide
theorem exNext : Term.next exC [4] = ⟨2, [0, 1, 2], [[3], [5]]⟩ := (Term.alike_iff _ _).1 (by decide)
theorem exNodes : (Term.nodes exC).length = 6 := by decide
theorem exMajority : Term.majority exC = 2 := by decide
theorem exPrim : primI exC.seqs = 0 := rfl

def exW (w : World) : World := ((((w.alloc (.cells #[.int .i64 0, .int .i64 1, .int .i64 2] 3)).alloc (.cells #[.int .i64 3, .int .i64 4] 3)).alloc (.cells #[.int .i64 4, .int .i64 5] 3)).alloc (.cells #[.slice (some ⟨w.heap.size + 1, 0, none⟩) 2 2, .slice (some ⟨w.heap.size + 1 + 1, 0, none⟩) 2 2] 22))
theorem exW_ext (w : World) : Ext w (exW w) := (((Ext.alloc _ _).trans (Ext.alloc _ _)).trans (Ext.alloc _ _)).trans (Ext.alloc _ _)
theorem exW_size (w : World) : (exW w).heap.size = w.heap.size + 1 + 1 + 1 + 1 := by unfold exW; simp
theorem exW_conf (w : World) : IsConf (exW w) (confV 1 (.slice (some ⟨w.heap.size, 0, none⟩) 3 3) (.slice (some ⟨w.heap.size + 1 + 1 + 1, 0, none⟩) 2 2)) exC := by
  obtain ⟨w1, h1⟩ : ∃ w1, w.alloc (.cells #[.int .i64 0, .int .i64 1, .int .i64 2] 3) = w1 := ⟨_, rfl⟩
  have s1 : w1.heap.size = w.heap.size + 1 := by rw [← h1]; simp
  have i1 : Ints w1 (.slice (some ⟨w.heap.size, 0, none⟩) 3 3) [0, 1, 2] := by rw [← h1]; exact Sl.made w (i64s [0, 1, 2]) 3 3 (by simp) (by simp [maxLen]) (fr := (0, 0))
  obtain ⟨w2, h2⟩ : ∃ w2, w1.alloc (.cells #[.int .i64 3, .int .i64 4] 3) = w2 := ⟨_, rfl⟩
  have s2 : w2.heap.size = w.heap.size + 1 + 1 := by rw [← h2, World.size_alloc, s1]
  have i2 : Ints w2 (.slice (some ⟨w.heap.size + 1, 0, none⟩) 2 2) [3, 4] := by rw [← h2, ← s1]; exact Sl.made w1 (i64s [3, 4]) 3 2 (by simp) (by simp [maxLen]) (fr := (0, 0))
  have e2 : Ext w1 w2 := by rw [← h2]; exact Ext.alloc _ _
  obtain ⟨w3, h3⟩ : ∃ w3, w2.alloc (.cells #[.int .i64 4, .int .i64 5] 3) = w3 := ⟨_, rfl⟩
  have s3 : w3.heap.size = w.heap.size + 1 + 1 + 1 := by rw [← h3, World.size_alloc, s2]
  have i3 : Ints w3 (.slice (some ⟨w.heap.size + 1 + 1, 0, none⟩) 2 2) [4, 5] := by rw [← h3, ← s2]; exact Sl.made w2 (i64s [4, 5]) 3 2 (by simp) (by simp [maxLen]) (fr := (0, 0))
  have e3 : Ext w2 w3 := by rw [← h3]; exact Ext.alloc _ _
  have hW : exW w = w3.alloc (.cells #[.slice (some ⟨w.heap.size + 1, 0, none⟩) 2 2, .slice (some ⟨w.heap.size + 1 + 1, 0, none⟩) 2 2] 22) := by unfold exW; rw [h1, h2, h3]
  have e4 : Ext w3 (exW w) := by rw [hW]; exact Ext.alloc _ _
  refine ⟨_, _, rfl, i1.below ((e2.trans e3).trans e4), ?_⟩
  rw [hW, ← s3]
  refine IRows.mk [.slice (some ⟨w.heap.size + 1, 0, none⟩) 2 2, .slice (some ⟨w.heap.size + 1 + 1, 0, none⟩) 2 2] [[3, 4], [4, 5]] 22 2 rfl rfl (by simp [maxLen]) fun i h h' => ?_
  match i, h, h' with
  | 0, _, _ => exact i2.below e3
  | 1, _, _ => exact i3

theorem IsConf.parts {w : World} {n : Int} {s d : Value} {c : Term.C} (h : IsConf w (.agg #[.int .i64 n, s, d]) c) : n = c.term ∧ Ints w s c.seqs ∧ IRows w d c.shards := by
  obtain ⟨s', d', e, h1, h2⟩ := h
  unfold confV at e
  have e2 := congrArg Array.toList (Value.agg.inj e)
  simp only [List.cons.injEq, Value.int.injEq, true_and, and_true] at e2
  obtain ⟨rfl, rfl, rfl⟩ := e2
  exact ⟨rfl, h1, h2⟩
/-- What was written is read as it was. -/
theorem decode6_enc (v : Value) (c : Term.C) (w : World) (hv : Bytes w v (Term.enc c)) (hr : Term.right c = true) :
    Calls Try.prog 17 #[v] w fun e w' => ∃ u, e = .returned (.tuple #[u, .int .i64 0]) ∧ IsConf w' u c ∧ Ext w w' := by
  refine (decode6_any v (Term.enc c) w hv (by have := Term.enc_le hr; omega)).mono ?_
  unfold GivesDec6
  rw [Term.dec_enc hr]
  exact fun e w' h => h

set_option maxHeartbeats 8000000 in
theorem termAlive_any (w : World) : Calls Try.prog 6 #[] w fun e w' => e = .returned (.bool true) ∧ Ext w w' := by
  have HE := Lib.hid (exW_conf w)
  have hE0 := (exW_ext w).trans (Ext.alloc (exW w) (.cells #[.int .i64 1, .slice (some ⟨w.heap.size, 0, none⟩) 3 3, .slice (some ⟨w.heap.size + 1 + 1 + 1, 0, none⟩) 2 2] 26))
  have HC0 := Lib.hid ((exW_conf w).below (Ext.alloc (exW w) (.cells #[.int .i64 1, .slice (some ⟨w.heap.size, 0, none⟩) 3 3, .slice (some ⟨w.heap.size + 1 + 1 + 1, 0, none⟩) 2 2] 26)))
  have HA0 := Lib.hid (ConfAt.new 26 (exW w) 1 (.slice (some ⟨w.heap.size, 0, none⟩) 3 3) (.slice (some ⟨w.heap.size + 1 + 1 + 1, 0, none⟩) 2 2))
  rw [exW_size] at HA0
  go_enter Try.func6, Try.ntmps6
  go_wp2_with fail
  refine (encode6_own _ exC _ HC0.out exRight).mono ?_
  rintro e w1 ⟨u1, rfl, ho1, hE1⟩
  have e1 := hE0.trans hE1
  have A1 := Lib.hid (HA0.out.ext hE1)
  have HC1 := Lib.hid (HC0.out.below hE1)
  have HB1 := Lib.hid (show Bytes w1 u1 (Term.enc exC) from Sl.ofOwn ho1)
  obtain ⟨b1, n1, c1, rfl⟩ := HB1.out.isSlice
  clear ho1 hE0 hE1 HC0 HA0
  go_wp2_with fail
  refine (decode6_enc _ exC _ HB1.out exRight).mono ?_
  rintro e w2 ⟨u2, rfl, hd2, hE2⟩
  have HD2 := Lib.hid hd2
  obtain ⟨sa, sn, sc, da, dn, dc, rfl⟩ : ∃ a n p b m q, u2 = .agg #[.int .i64 1, .slice a n p, .slice b m q] := hd2.shape
  have e2 := e1.trans hE2
  obtain ⟨q, hq⟩ : ∃ q, w.heap.size + 1 + 1 + 1 + 1 = q := ⟨_, rfl⟩
  rw [hq] at A1 ⊢
  have A2 := Lib.hid (A1.out.ext hE2)
  have HC2 := Lib.hid (HC1.out.below hE2)
  obtain ⟨c0, c1, c2⟩ := (A2.out.ext (Ext.alloc w2 (.cells #[.int .i64 1, .slice sa sn sc, .slice da dn dc] 26))).cells
  have hE3 := ext_two w2 (.cells #[.int .i64 1, .slice sa sn sc, .slice da dn dc] 26) (.cells #[.int .i64 4] 3)
  have HX3 := Lib.hid (heap_two w2 (.cells #[.int .i64 1, .slice sa sn sc, .slice da dn dc] 26) (.cells #[.int .i64 4] 3))
  have hg3 := Ints.one (w2.alloc (.cells #[.int .i64 1, .slice sa sn sc, .slice da dn dc] 26)) 4
  rw [World.size_alloc] at hg3
  have HG3 := Lib.hid hg3
  clear hq hd2 hg3
  go_wp2_with fail
  refine (next6_any _ _ exC [4] _ (HC2.out.below hE3) HG3.out).mono ?_
  unfold GivesNext6
  rw [exNextOk, exNext]
  rintro e w4 ⟨u4, rfl, hd4, hE4⟩
  have HD4 := Lib.hid (show IsConf w4 u4 ⟨2, [0, 1, 2], [[3], [5]]⟩ from hd4)
  obtain ⟨na, nn, nc, ma, mn, mc, rfl⟩ : ∃ a n p b m q, u4 = .agg #[.int .i64 2, .slice a n p, .slice b m q] := hd4.shape
  have hE24 := hE3.trans hE4
  have e4 := e2.trans hE24
  have A4 := Lib.hid (A2.out.ext hE24)
  have X4 := Lib.hid (show ConfAt 26 w4 w2.heap.size 1 (.slice sa sn sc) (.slice da dn dc) from heap_ext HX3.out.1 hE4)
  have HC4 := Lib.hid (HC2.out.below hE24)
  have HD24 := Lib.hid (HD2.out.below hE24)
  obtain ⟨q2, hq2⟩ : ∃ q2, w2.heap.size = q2 := ⟨_, rfl⟩
  rw [hq2] at X4 ⊢
  have hE5 := Ext.alloc w4 (.cells #[.int .i64 2, .slice na nn nc, .slice ma mn mc] 26)
  have A5 := Lib.hid (A4.out.ext hE5)
  have X5 := Lib.hid (X4.out.ext hE5)
  have N5 := Lib.hid (ConfAt.new 26 w4 2 (.slice na nn nc) (.slice ma mn mc))
  have e5 := e4.trans hE5
  have HC5 := Lib.hid (HC4.out.below hE5)
  have HD5 := Lib.hid (HD24.out.below hE5)
  have HN5 := Lib.hid (HD4.out.below hE5)
  clear hq2 hd4 c0 c1 c2 hE3 hE4 HG3 HX3
  obtain ⟨c0, c1, c2⟩ := A5.out.cells
  obtain ⟨d0, d1, d2⟩ := X5.out.cells
  go_wp2_with fail
  refine (same6_any _ _ exC exC _ HC5.out HD5.out).mono ?_
  rw [Term.alike_self]
  rintro e w6 ⟨rfl, hE6⟩
  generalize hw5 : w4.alloc (.cells #[.int .i64 2, .slice na nn nc, .slice ma mn mc] 26) = w5 at *
  obtain ⟨q3, hq3⟩ : ∃ q3, w4.heap.size = q3 := ⟨_, rfl⟩
  rw [hq3] at N5 ⊢
  clear hw5 hq3 c0 c1 c2 d0 d1 d2
  have A6 := Lib.hid (A5.out.ext hE6)
  have N6 := Lib.hid (N5.out.ext hE6)
  have HC6 := Lib.hid (HC5.out.below hE6)
  have HN6 := Lib.hid (HN5.out.below hE6)
  have e6 := e5.trans hE6
  obtain ⟨c0, c1, c2⟩ := A6.out.cells
  go_wp2_with fail
  refine (majority6_any _ exC _ HC6.out (by decide)).mono ?_
  rw [exMajority]
  rintro e w7 ⟨rfl, hE7⟩
  have A7 := Lib.hid (A6.out.ext hE7)
  have N7 := Lib.hid (N6.out.ext hE7)
  have HC7 := Lib.hid (HC6.out.below hE7)
  have HN7 := Lib.hid (HN6.out.below hE7)
  have e7 := e6.trans hE7
  clear c0 c1 c2
  obtain ⟨c0, c1, c2⟩ := A7.out.cells
  go_wp2_with fail
  refine (primary6_any _ exC _ HC7.out).mono ?_
  rw [exPrim]
  rintro e w8 ⟨rfl, hE8⟩
  have A8 := Lib.hid (A7.out.ext hE8)
  have N8 := Lib.hid (N7.out.ext hE8)
  have HC8 := Lib.hid (HC7.out.below hE8)
  have HN8 := Lib.hid (HN7.out.below hE8)
  have e8 := e7.trans hE8
  clear c0 c1 c2
  obtain ⟨c0, c1, c2⟩ := A8.out.cells
  obtain ⟨d0, d1, d2⟩ := N8.out.cells
  have ht8 := HN8.out.parts.2.2
  obtain ⟨a9, c9, e9, hc9, hm9, hr9⟩ := ht8.open
  obtain ⟨b9, o9, x9, rfl, hcell9, hx9⟩ := hr9 0 (by simp)
  injection e9 with e91 e92 e93
  subst e91 e92
  obtain ⟨ax, cx, rfl, _⟩ := hx9.open
  simp only [Nat.add_zero] at hcell9
  have hall : (Term.all exC).length ≤ 2000000 := by decide
  have hwf : ∀ x ∈ Term.all exC, Wf64 x := by
    intro x hx
    have : x ∈ [0, 1, 2, 3, 4, 4, 5] := hx
    simp at this
    rcases this with rfl | rfl | rfl | rfl | rfl | rfl <;> exact rfl
  have HN := Lib.hid (nodes6_any (confV 1 (.slice (some ⟨w.heap.size, 0, none⟩) 3 3) (.slice (some ⟨w.heap.size + 1 + 1 + 1, 0, none⟩) 2 2)) exC w8 HC8.out hall (by decide) hwf)
  clear ht8 hr9 hx9 hall hwf
  go_wp2_with fail
  refine HN.out.mono ?_
  rintro e w10 ⟨u10, rfl, ho10, hE10⟩
  obtain ⟨a10, c10, rfl, _⟩ := ho10.ints.open
  rw [exNodes]
  clear ho10
  go_wp2_with fail
  go_ret
  exact ⟨rfl, e8.trans hE10⟩
end Go.Proofs.Ytpfodkgncachiaa
