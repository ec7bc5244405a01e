/-
  Layer 6: how many are more than half, who is first, who serves a shard: the program's answers, and the document's.
-/
import Derived.Test.YtpfodkgncachiaaGreatTrmE
namespace Go.Proofs.YtpfodkgncachiaaGreat
set_option linter.unusedSimpArgs false
set_option linter.unusedVariables false
set_option maxRecDepth 100000
open Go.RowKit

def SomeBool (e : Ending) : Prop := ∃ b : Bool, e = .returned (.bool b)
/-- The first one, or -1. -/
def primI : List Int → Int
  | [] => -1
  | x :: _ => x
/-- Has a shard (if there is one) a node? -/
def servesI (ls : List (List Int)) (node k : Int) : Bool := decide (0 ≤ k) && (decide (k < (ls.length : Int)) && hasI (ls.getD k.toNat []) node)
theorem serves_low {ls : List (List Int)} {node k : Int} (h : k < 0) : servesI ls node k = false := by unfold servesI; rw [decide_eq_false (by omega)]; rfl
theorem serves_high {ls : List (List Int)} {node k : Int} (h : (ls.length : Int) ≤ k) : servesI ls node k = false := by unfold servesI; rw [decide_eq_false (show ¬ k < (ls.length : Int) by omega)]; simp
theorem serves_at {ls : List (List Int)} {node : Int} {k : Nat} (h : k < ls.length) : servesI ls node (k : Int) = hasI ls[k] node := by
  unfold servesI
  rw [decide_eq_true (by omega), decide_eq_true (by omega)]
  simp [h]
theorem primAt {S : List Int} (h : 0 < S.length) : primI S = S[0] := by
  cases S with
  | nil => simp at h
  | cons x S => rfl

set_option maxHeartbeats 4000000 in
theorem majority6_any (v : Value) (c : Term.C) (w : World) (hv : IsConf w v c) (h47 : c.seqs.length ≤ 140737488355328) :
    Calls Tryz.prog 18 #[v] w fun e w' => e = .returned (.int .i64 (Term.majority c : Nat)) ∧ Ext w w' := by
  have hbx := box_conf
  obtain ⟨s, d, rfl, hs, hd⟩ := hv
  obtain ⟨t, S, D⟩ := c
  unfold confV
  simp only at hs hd h47 ⊢
  have HS := Lib.hid hs
  have HD := Lib.hid hd
  obtain ⟨a1, cap1, rfl, hcap1, hmax1, _, hc1⟩ := hs.open
  obtain ⟨a2, cap2, rfl, hcap2, hmax2, hc2⟩ := hd.open
  unfold maxLen at hmax1 hmax2
  clear hs hd
  have hE0 : Ext w (w.alloc (.cells #[.int .i64 t, .slice a1 S.length cap1, .slice a2 D.length cap2] 32)) := Ext.alloc _ _
  have HA0 := Lib.hid (ConfAt.new 32 w t (.slice a1 S.length cap1) (.slice a2 D.length cap2))
  clear hc1 hc2
  show Calls _ _ _ _ fun e w' => e = .returned (.int .i64 ((S.length / 2 + 1 : Nat) : Int)) ∧ Ext w w'
  have HM := Lib.hid (show (S.length : Int) / 2 + 1 = ((S.length / 2 + 1 : Nat) : Int) by omega)
  generalize ((S.length / 2 + 1 : Nat) : Int) = m at *
  go_enter Tryz.func18, Tryz.ntmps18
  go_wp2_with fail
  go_ret
  exact ⟨by rw [← HM.out]; rfl, hE0⟩

set_option maxHeartbeats 4000000 in
theorem primary6_any (v : Value) (c : Term.C) (w : World) (hv : IsConf w v c) :
    Calls Tryz.prog 20 #[v] w fun e w' => e = .returned (.int .i64 (primI c.seqs)) ∧ Ext w w' := by
  have hbx := box_conf
  obtain ⟨s, d, rfl, hs, hd⟩ := hv
  obtain ⟨t, S, D⟩ := c
  unfold confV
  simp only at hs hd ⊢
  have HS := Lib.hid hs
  have HD := Lib.hid hd
  obtain ⟨a1, cap1, rfl, hcap1, hmax1, _, hc1⟩ := hs.open
  obtain ⟨a2, cap2, rfl, hcap2, hmax2, hc2⟩ := hd.open
  unfold maxLen at hmax1 hmax2
  clear hs hd
  have hE0 : Ext w (w.alloc (.cells #[.int .i64 t, .slice a1 S.length cap1, .slice a2 D.length cap2] 32)) := Ext.alloc _ _
  have HA0 := Lib.hid (ConfAt.new 32 w t (.slice a1 S.length cap1) (.slice a2 D.length cap2))
  clear hc2
  by_cases h0 : S.length = 0
  · have hS : S = [] := List.eq_nil_of_length_eq_zero h0
    subst hS
    clear hc1
    go_enter Tryz.func20, Tryz.ntmps20
    go_wp2_with fail
    go_ret
    exact ⟨rfl, hE0⟩
  · have hp := Lib.hid (primAt (S := S) (by omega))
    obtain ⟨b, off, rfl, hcell⟩ := hc1 0 (by omega)
    have h0' : ((S.length : Int) == 0) = false := by rw [beq_eq_false_iff_ne]; omega
    have hce : (w.alloc (.cells #[.int .i64 t, .slice (some ⟨b, off, none⟩) S.length cap1, .slice a2 D.length cap2] 32)).cell? ⟨b, off, none⟩ = some (.int .i64 S[0]) := by
      have := (hE0.cell (p := ⟨b, off + 0, none⟩) (World.block_lt_of_cell? w _ hcell)).trans hcell
      simpa using this
    have hpos : 0 < S.length := by omega
    clear hc1 hcell
    go_enter Tryz.func20, Tryz.ntmps20
    go_wp2_with fail
    go_ret
    exact ⟨by show _ = Ending.returned (.int .i64 (primI S)); rw [hp.out]; rfl, hE0⟩

set_option maxHeartbeats 4000000 in
theorem serves6_any (v : Value) (c : Term.C) (node k : Int) (w : World) (hv : IsConf w v c) :
    Calls Tryz.prog 22 #[v, .int .i64 node, .int .i64 k] w fun e w' => e = .returned (.bool (servesI c.shards node k)) ∧ Ext w w' := by
  have hbx := box_conf
  obtain ⟨s, d, rfl, hs, hd⟩ := hv
  obtain ⟨t, S, D⟩ := c
  unfold confV
  simp only at hs hd ⊢
  have HS := Lib.hid hs
  have HD := Lib.hid hd
  obtain ⟨a1, cap1, rfl, hcap1, hmax1, _, hc1⟩ := hs.open
  obtain ⟨a2, cap2, rfl, hcap2, hmax2, hc2⟩ := hd.open
  unfold maxLen at hmax1 hmax2
  clear hs hd
  have hE0 : Ext w (w.alloc (.cells #[.int .i64 t, .slice a1 S.length cap1, .slice a2 D.length cap2] 32)) := Ext.alloc _ _
  have HA0 := Lib.hid (ConfAt.new 32 w t (.slice a1 S.length cap1) (.slice a2 D.length cap2))
  clear hc1
  by_cases h0 : k < 0
  · have HR := Lib.hid (serves_low (ls := D) (node := node) h0)
    clear hc2
    go_enter Tryz.func22, Tryz.ntmps22
    go_wp2_with fail
    go_ret
    exact ⟨by rw [HR.out]; rfl, hE0⟩
  by_cases h1 : (D.length : Int) ≤ k
  · have HR := Lib.hid (serves_high (ls := D) (node := node) h1)
    clear hc2
    go_enter Tryz.func22, Tryz.ntmps22
    go_wp2_with fail
    go_ret
    exact ⟨by rw [HR.out]; rfl, hE0⟩
  obtain ⟨n, rfl⟩ : ∃ n : Nat, k = (n : Int) := ⟨k.toNat, by omega⟩
  have hlt : n < D.length := by omega
  have HR := Lib.hid (serves_at (ls := D) (node := node) hlt)
  obtain ⟨b, off, x, rfl, hcell, hx⟩ := hc2 n hlt
  have HX := Lib.hid hx
  obtain ⟨ax, cx, rfl, _⟩ := hx.open
  have hce := (hE0.cell (p := ⟨b, off + n, none⟩) (World.block_lt_of_cell? w _ hcell)).trans hcell
  clear hc2 hx hcell
  go_enter Tryz.func22, Tryz.ntmps22
  go_wp2_with fail
  refine (has6_any _ D[n] node _ (HX.out.below hE0)).mono ?_
  obtain ⟨r, hr⟩ : ∃ r, hasI D[n] node = r := ⟨_, rfl⟩
  rw [hr] at HR ⊢
  clear hr
  rintro e w1 ⟨rfl, rfl⟩
  go_wp2_with fail
  go_ret
  exact ⟨by rw [HR.out]; rfl, hE0⟩

set_option maxHeartbeats 4000000 in
theorem refMajority6_any (v : Value) (c : Term.C) (w : World) (hv : IsConf w v c) (h47 : c.seqs.length ≤ 140737488355328) :
    Calls Tryz.prog 19 #[v] w fun e w' => e = .returned (.int .i64 (Term.majority c : Nat)) ∧ Ext w w' := by
  have hbx := box_confR
  obtain ⟨s, d, rfl, hs, hd⟩ := hv
  obtain ⟨t, S, D⟩ := c
  unfold confV
  simp only at hs hd h47 ⊢
  have HS := Lib.hid hs
  have HD := Lib.hid hd
  obtain ⟨a1, cap1, rfl, hcap1, hmax1, _, hc1⟩ := hs.open
  obtain ⟨a2, cap2, rfl, hcap2, hmax2, hc2⟩ := hd.open
  unfold maxLen at hmax1 hmax2
  clear hs hd
  have hE0 : Ext w (w.alloc (.cells #[.int .i64 t, .slice a1 S.length cap1, .slice a2 D.length cap2] 25)) := Ext.alloc _ _
  have HA0 := Lib.hid (ConfAt.new 25 w t (.slice a1 S.length cap1) (.slice a2 D.length cap2))
  clear hc1 hc2
  show Calls _ _ _ _ fun e w' => e = .returned (.int .i64 ((S.length / 2 + 1 : Nat) : Int)) ∧ Ext w w'
  go_enter Tryz.func19, Tryz.ntmps19
  go_wp2_with fail
  generalize hw0 : w.alloc (.cells #[.int .i64 t, .slice a1 S.length cap1, .slice a2 D.length cap2] 25) = w0 at *
  obtain ⟨c0, c1, c2⟩ := HA0.out.cells
  generalize hq : w.heap.size = q at *
  have HQ := Lib.hid hq
  have HW0 := Lib.hid hw0
  clear hq hw0
  go_loop [3] (fun i => ∃ k : Nat, k ≤ S.length / 2 + 1 ∧ i = .int .i64 k) (fun i => S.length / 2 + 1 - (intOf i).toNat)
  case atStart => exact ⟨0, by omega, rfl⟩
  case round =>
    obtain ⟨k, hk, rfl⟩ := hrel
    by_cases hlt : k < S.length / 2 + 1
    · have h1 : (k : Int) + (k : Int) ≤ (S.length : Int) := by omega
      go_wp2_with fail
      go_round
      case rel => exact ⟨k + 1, by omega, by go_num⟩
      case measure => simp [intOf]; omega
    · obtain rfl : k = S.length / 2 + 1 := by omega
      have h1 : ¬ ((S.length / 2 + 1 : Nat) : Int) + ((S.length / 2 + 1 : Nat) : Int) ≤ (S.length : Int) := by omega
      generalize hm : ((S.length / 2 + 1 : Nat) : Int) = m at *
      have h2 : m ≤ 140737488355329 := by omega
      have h3 : 0 ≤ m := by omega
      have h4 : ¬ m + m ≤ (S.length : Int) := h1
      go_wp2_with fail
      go_ret
      exact ⟨by first | rfl | simp, hE0⟩

set_option maxHeartbeats 4000000 in
theorem refPrimary6_any (v : Value) (c : Term.C) (w : World) (hv : IsConf w v c) :
    Calls Tryz.prog 21 #[v] w fun e w' => e = .returned (.int .i64 (primI c.seqs)) ∧ Ext w w' := by
  have hbx := box_confR
  obtain ⟨s, d, rfl, hs, hd⟩ := hv
  obtain ⟨t, S, D⟩ := c
  unfold confV
  simp only at hs hd ⊢
  have HS := Lib.hid hs
  have HD := Lib.hid hd
  obtain ⟨a1, cap1, rfl, hcap1, hmax1, _, hc1⟩ := hs.open
  obtain ⟨a2, cap2, rfl, hcap2, hmax2, hc2⟩ := hd.open
  unfold maxLen at hmax1 hmax2
  clear hs hd
  have hE0 : Ext w (w.alloc (.cells #[.int .i64 t, .slice a1 S.length cap1, .slice a2 D.length cap2] 25)) := Ext.alloc _ _
  have HA0 := Lib.hid (ConfAt.new 25 w t (.slice a1 S.length cap1) (.slice a2 D.length cap2))
  clear hc2
  by_cases h0 : S.length = 0
  · have hS : S = [] := List.eq_nil_of_length_eq_zero h0
    subst hS
    clear hc1
    go_enter Tryz.func21, Tryz.ntmps21
    go_wp2_with fail
    go_ret
    exact ⟨rfl, hE0⟩
  · have hp := Lib.hid (primAt (S := S) (by omega))
    obtain ⟨b, off, rfl, hcell⟩ := hc1 0 (by omega)
    have h0' : ((S.length : Int) == 0) = false := by rw [beq_eq_false_iff_ne]; omega
    have hce : (w.alloc (.cells #[.int .i64 t, .slice (some ⟨b, off, none⟩) S.length cap1, .slice a2 D.length cap2] 25)).cell? ⟨b, off, none⟩ = some (.int .i64 S[0]) := by
      have := (hE0.cell (p := ⟨b, off + 0, none⟩) (World.block_lt_of_cell? w _ hcell)).trans hcell
      simpa using this
    have hpos : 0 < S.length := by omega
    clear hc1 hcell
    go_enter Tryz.func21, Tryz.ntmps21
    go_wp2_with fail
    go_ret
    exact ⟨by show _ = Ending.returned (.int .i64 (primI S)); rw [hp.out]; rfl, hE0⟩

set_option maxHeartbeats 4000000 in
theorem refServes6_any (v : Value) (c : Term.C) (node k : Int) (w : World) (hv : IsConf w v c) :
    Calls Tryz.prog 23 #[v, .int .i64 node, .int .i64 k] w fun e w' => e = .returned (.bool (servesI c.shards node k)) ∧ Ext w w' := by
  have hbx := box_confR
  obtain ⟨s, d, rfl, hs, hd⟩ := hv
  obtain ⟨t, S, D⟩ := c
  unfold confV
  simp only at hs hd ⊢
  have HS := Lib.hid hs
  have HD := Lib.hid hd
  obtain ⟨a1, cap1, rfl, hcap1, hmax1, _, hc1⟩ := hs.open
  obtain ⟨a2, cap2, rfl, hcap2, hmax2, hc2⟩ := hd.open
  unfold maxLen at hmax1 hmax2
  clear hs hd
  have hE0 : Ext w (w.alloc (.cells #[.int .i64 t, .slice a1 S.length cap1, .slice a2 D.length cap2] 25)) := Ext.alloc _ _
  have HA0 := Lib.hid (ConfAt.new 25 w t (.slice a1 S.length cap1) (.slice a2 D.length cap2))
  clear hc1
  by_cases h0 : k < 0
  · have HR := Lib.hid (serves_low (ls := D) (node := node) h0)
    clear hc2
    go_enter Tryz.func23, Tryz.ntmps23
    go_wp2_with fail
    go_ret
    exact ⟨by rw [HR.out]; rfl, hE0⟩
  by_cases h1 : (D.length : Int) ≤ k
  · have HR := Lib.hid (serves_high (ls := D) (node := node) h1)
    clear hc2
    go_enter Tryz.func23, Tryz.ntmps23
    go_wp2_with fail
    go_ret
    exact ⟨by rw [HR.out]; rfl, hE0⟩
  obtain ⟨n, rfl⟩ : ∃ n : Nat, k = (n : Int) := ⟨k.toNat, by omega⟩
  have hlt : n < D.length := by omega
  have HR := Lib.hid (serves_at (ls := D) (node := node) hlt)
  obtain ⟨b, off, x, rfl, hcell, hx⟩ := hc2 n hlt
  have HX := Lib.hid hx
  obtain ⟨ax, cx, rfl, _⟩ := hx.open
  have hce := (hE0.cell (p := ⟨b, off + n, none⟩) (World.block_lt_of_cell? w _ hcell)).trans hcell
  clear hc2 hx hcell
  go_enter Tryz.func23, Tryz.ntmps23
  go_wp2_with fail
  refine (refHas6_any _ D[n] node _ (HX.out.below hE0)).mono ?_
  obtain ⟨r, hr⟩ : ∃ r, hasI D[n] node = r := ⟨_, rfl⟩
  rw [hr] at HR ⊢
  clear hr
  rintro e w1 ⟨rfl, rfl⟩
  go_wp2_with fail
  go_ret
  exact ⟨by rw [HR.out]; rfl, hE0⟩

set_option maxHeartbeats 4000000 in
/-- Has a configuration so few parts? Whatever is told, nothing changes. -/
theorem fewSome6_any (v : Value) (c : Term.C) (w : World) (hv : IsConf w v c) :
    Calls Tryz.prog 9 #[v] w fun e w' => SomeBool e ∧ Ext w w' := by
  have hbx := box_confR
  obtain ⟨s, d, rfl, hs, hd⟩ := hv
  obtain ⟨t, S, D⟩ := c
  unfold confV
  simp only at hs hd ⊢
  have HS := Lib.hid hs
  have HD := Lib.hid hd
  obtain ⟨a1, cap1, rfl, hcap1, hmax1, _, hc1⟩ := hs.open
  obtain ⟨a2, cap2, rfl, hcap2, hmax2, hc2⟩ := hd.open
  unfold maxLen at hmax1 hmax2
  clear hs hd
  have hE0 : Ext w (w.alloc (.cells #[.int .i64 t, .slice a1 S.length cap1, .slice a2 D.length cap2] 25)) := Ext.alloc _ _
  have HA0 := Lib.hid (ConfAt.new 25 w t (.slice a1 S.length cap1) (.slice a2 D.length cap2))
  clear hc1 hc2
  go_enter Tryz.func9, Tryz.ntmps9
  go_wp2_with fail
  generalize hw0 : w.alloc (.cells #[.int .i64 t, .slice a1 S.length cap1, .slice a2 D.length cap2] 25) = w0 at *
  have HW0 := Lib.hid hw0
  have HD0 := Lib.hid (HD.out.below hE0)
  clear hw0
  go_loop [3, 5, 16] (fun n _ i => ∃ k : Nat, k ≤ D.length ∧ i = .int .i64 k ∧ ∃ z : Int, n = .int .i64 z) (fun _ _ i => D.length - (intOf i).toNat)
  case atStart => exact ⟨0, by omega, rfl, _, rfl⟩
  case round =>
    obtain ⟨k, hk, rfl, z, rfl⟩ := hrel
    by_cases hlt : k < D.length
    · obtain ⟨a', cap', e', _, _, hc⟩ := HD0.out.open
      obtain ⟨b, off, x, rfl, hcell, hx⟩ := hc k hlt
      injection e' with e1 e2 e3
      subst e1
      obtain ⟨ax, cx, rfl, hcx, hmx, _⟩ := hx.open
      unfold maxLen at hmx
      clear hc hx e2 e3
      go_wp2_with fail
      go_round
      case rel => exact ⟨k + 1, by omega, by go_num, _, rfl⟩
      case measure => simp [intOf]; omega
    · go_wp2_with fail
      go_ret
      exact ⟨by unfold SomeBool; exact ⟨_, rfl⟩, hE0⟩
end Go.Proofs.YtpfodkgncachiaaGreat
