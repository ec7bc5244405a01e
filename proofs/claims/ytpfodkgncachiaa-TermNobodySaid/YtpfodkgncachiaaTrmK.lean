/-
  Layer 6: how many are more than half, who is first, who serves a shard: the program's answers, and the document's.
-/
import Derived.Test.YtpfodkgncachiaaTrmE
namespace Go.Proofs.Ytpfodkgncachiaa
set_option linter.unusedSimpArgs false
set_option linter.unusedVariables false
set_option maxRecDepth 100000
open Go.RowKit

def SomeBool (e : Ending) : Prop := ∃ b : Bool, e = .returned (.bool b)
/-- The first one, or -1. -/
def primI : List Int → Int
  | [] => -1
  | x :: _ => x
/-- Has a shard (if there is one) a node? -/
def servesI (ls : List (List Int)) (node k : Int) : Bool := decide (0 ≤ k) && (decide (k < (ls.length : Int)) && hasI (ls.getD k.toNat []) node)
theorem serves_low {ls : List (List Int)} {node k : Int} (h : k < 0) : servesI ls node k = false := by unfold servesI; rw [decide_eq_false (by omega)]; rfl
theorem serves_high {ls : List (List Int)} {node k : Int} (h : (ls.length : Int) ≤ k) : servesI ls node k = false := by unfold servesI; rw [decide_eq_false (show ¬ k < (ls.length : Int) by omega)]; simp
theorem serves_at {ls : List (List Int)} {node : Int} {k : Nat} (h : k < ls.length) : servesI ls node (k : Int) = hasI ls[k] node := by
  unfold servesI
  rw [decide_eq_true (by omega), decide_eq_true (by omega)]
  simp [h]
theorem primAt {S : List Int} (h : 0 < S.length) : primI S = S[0] := by
  cases S with
  | nil => simp at h
  | cons x S => rfl

set_option maxHeartbeats 4000000 in
theorem majority6_any (v : Value) (c : Term.C) (w : World) (hv : IsConf w v c) (h47 : c.seqs.length ≤ 140737488355328) :
    Calls Try.prog 8 #[v] w fun e w' => e = .returned (.int .i64 (Term.majority c : Nat)) ∧ Ext w w' := by
  have hbx := box_conf
  obtain ⟨s, d, rfl, hs, hd⟩ := hv
  obtain ⟨t, S, D⟩ := c
  unfold confV
  simp only at hs hd h47 ⊢
  have HS := Lib.hid hs
  have HD := Lib.hid hd
  obtain ⟨a1, cap1, rfl, hcap1, hmax1, _, hc1⟩ := hs.open
  obtain ⟨a2, cap2, rfl, hcap2, hmax2, hc2⟩ := hd.open
  unfold maxLen at hmax1 hmax2
  clear hs hd
  have hE0 : Ext w (w.alloc (.cells #[.int .i64 t, .slice a1 S.length cap1, .slice a2 D.length cap2] 26)) := Ext.alloc _ _
  have HA0 := Lib.hid (ConfAt.new 26 w t (.slice a1 S.length cap1) (.slice a2 D.length cap2))
  clear hc1 hc2
  show Calls _ _ _ _ fun e w' => e = .returned (.int .i64 ((S.length / 2 + 1 : Nat) : Int)) ∧ Ext w w'
  have HM := Lib.hid (show (S.length : Int) / 2 + 1 = ((S.length / 2 + 1 : Nat) : Int) by omega)
  generalize ((S.length / 2 + 1 : Nat) : Int) = m at *
  go_enter Try.func8, Try.ntmps8
  go_wp2_with fail
  go_ret
  exact ⟨by rw [← HM.out]; rfl, hE0⟩

set_option maxHeartbeats 4000000 in
theorem primary6_any (v : Value) (c : Term.C) (w : World) (hv : IsConf w v c) :
    Calls Try.prog 18 #[v] w fun e w' => e = .returned (.int .i64 (primI c.seqs)) ∧ Ext w w' := by
  have hbx := box_conf
  obtain ⟨s, d, rfl, hs, hd⟩ := hv
  obtain ⟨t, S, D⟩ := c
  unfold confV
  simp only at hs hd ⊢
  have HS := Lib.hid hs
  have HD := Lib.hid hd
  obtain ⟨a1, cap1, rfl, hcap1, hmax1, _, hc1⟩ := hs.open
  obtain ⟨a2, cap2, rfl, hcap2, hmax2, hc2⟩ := hd.open
  unfold maxLen at hmax1 hmax2
  clear hs hd
  have hE0 : Ext w (w.alloc (.cells #[.int .i64 t, .slice a1 S.length cap1, .slice a2 D.length cap2] 26)) := Ext.alloc _ _
  have HA0 := Lib.hid (ConfAt.new 26 w t (.slice a1 S.length cap1) (.slice a2 D.length cap2))
  clear hc2
  by_cases h0 : S.length = 0
  · have hS : S = [] := List.eq_nil_of_length_eq_zero h0
    subst hS
    clear hc1
    go_enter Try.func18, Try.ntmps18
    go_wp2_with fail
    go_ret
    exact ⟨rfl, hE0⟩
  · have hp := Lib.hid (primAt (S := S) (by omega))
    obtain ⟨b, off, rfl, hcell⟩ := hc1 0 (by omega)
    have h0' : ((S.length : Int) == 0) = false := by rw [beq_eq_false_iff_ne]; omega
    have hce : (w.alloc (.cells #[.int .i64 t, .slice (some ⟨b, off, none⟩) S.length cap1, .slice a2 D.length cap2] 26)).cell? ⟨b, off, none⟩ = some (.int .i64 S[0]) := by
      have := (hE0.cell (p := ⟨b, off + 0, none⟩) (World.block_lt_of_cell? w _ hcell)).trans hcell
      simpa using this
    have hpos : 0 < S.length := by omega
    clear hc1 hcell
    go_enter Try.func18, Try.ntmps18
    go_wp2_with fail
    go_ret
    exact ⟨by show _ = Ending.returned (.int .i64 (primI S)); rw [hp.out]; rfl, hE0⟩

set_option maxHeartbeats 4000000 in
/-- Has a configuration so few parts? Whatever is told, nothing changes. -/
theorem fewSome6_any (v : Value) (c : Term.C) (w : World) (hv : IsConf w v c) :
    Calls Try.prog 10 #[v] w fun e w' => SomeBool e ∧ Ext w w' := by
  have hbx := box_confR
  obtain ⟨s, d, rfl, hs, hd⟩ := hv
  obtain ⟨t, S, D⟩ := c
  unfold confV
  simp only at hs hd ⊢
  have HS := Lib.hid hs
  have HD := Lib.hid hd
  obtain ⟨a1, cap1, rfl, hcap1, hmax1, _, hc1⟩ := hs.open
  obtain ⟨a2, cap2, rfl, hcap2, hmax2, hc2⟩ := hd.open
  unfold maxLen at hmax1 hmax2
  clear hs hd
  have hE0 : Ext w (w.alloc (.cells #[.int .i64 t, .slice a1 S.length cap1, .slice a2 D.length cap2] 25)) := Ext.alloc _ _
  have HA0 := Lib.hid (ConfAt.new 25 w t (.slice a1 S.length cap1) (.slice a2 D.length cap2))
  clear hc1 hc2
  go_enter Try.func10, Try.ntmps10
  go_wp2_with fail
  generalize hw0 : w.alloc (.cells #[.int .i64 t, .slice a1 S.length cap1, .slice a2 D.length cap2] 25) = w0 at *
  have HW0 := Lib.hid hw0
  have HD0 := Lib.hid (HD.out.below hE0)
  clear hw0
  go_loop [3, 5, 16] (fun n _ i => ∃ k : Nat, k ≤ D.length ∧ i = .int .i64 k ∧ ∃ z : Int, n = .int .i64 z) (fun _ _ i => D.length - (intOf i).toNat)
  case atStart => exact ⟨0, by omega, rfl, _, rfl⟩
  case round =>
    obtain ⟨k, hk, rfl, z, rfl⟩ := hrel
    by_cases hlt : k < D.length
    · obtain ⟨a', cap', e', _, _, hc⟩ := HD0.out.open
      obtain ⟨b, off, x, rfl, hcell, hx⟩ := hc k hlt
      injection e' with e1 e2 e3
      subst e1
      obtain ⟨ax, cx, rfl, hcx, hmx, _⟩ := hx.open
      unfold maxLen at hmx
      clear hc hx e2 e3
      go_wp2_with fail
      go_round
      case rel => exact ⟨k + 1, by omega, by go_num, _, rfl⟩
      case measure => simp [intOf]; omega
    · go_wp2_with fail
      go_ret
      exact ⟨by unfold SomeBool; exact ⟨_, rfl⟩, hE0⟩
end Go.Proofs.Ytpfodkgncachiaa
