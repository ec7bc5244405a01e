/-
  Merged: Layer 1, the document's own answers: each call's contract.
-/
import Derived.Test.YtfgjhagfpafmoaaGreatProg
import Derived.Deep.RegionHeld3
import Derived.Deep.DeepCutAuto
import Derived.Test.YtfgjhagfpafmoaaGreatBsLib
import Derived.Test.YtfgjhagfpafmoaaGreatBsMath

set_option linter.unusedSimpArgs false
set_option linter.unusedVariables false

namespace Go.Proofs.YtfgjhagfpafmoaaGreat
set_option maxRecDepth 100000
open Go.RowKit
/- Layer 1, the document's own answers: each call's contract. -/
theorem ret_u32 {a b : Int} (h : a = b) : Ending.returned (.int .u32 a) = .returned (.int .u32 b) := by rw [h]

set_option maxHeartbeats 400000 in
theorem added_any (n : Nat) (x : UInt8) (w : World) (h : n < 4294967296) :
    Calls Tryz.prog 184 #[.int .u32 (n : Int), .int .u8 (x.toNat : Int)] w fun e w' => e = .returned (.int .u32 (Crc.byte n x : Int)) ∧ w = w' := by
  have hx := x.toNat_lt
  have h0 : n ^^^ x.toNat < 4294967296 := Crc.xor_lt _ _ h (by omega)
  have hb : bits .xor .u32 (n : Int) (x.toNat : Int) = ((n ^^^ x.toNat : Nat) : Int) := u32_xor_nat _ _ h (by omega)
  go_enter Tryz.func184, Tryz.ntmps184
  go_wp2
  go_loop [0, 5] (fun n' i => ∃ k m : Nat, k ≤ 8 ∧ m < 4294967296 ∧ i = .int .i64 k ∧ n' = .int .u32 m ∧ Hid (Crc.byte n x = Crc.steps (8 - k) m)) (fun _ i => 8 - (intOf i).toNat)
  case atStart => exact ⟨0, n ^^^ x.toNat, by omega, h0, rfl, rfl, rfl⟩
  case round =>
    obtain ⟨k, m, hk, hm, rfl, rfl, hr⟩ := hrel
    have hm2 : m / 2 < 4294967296 := by omega
    have hd : ((m : Int) / 2) = ((m / 2 : Nat) : Int) := by omega
    have hxx : bits .xor .u32 ((m : Int) / 2) 3988292384 = (((m / 2) ^^^ 3988292384 : Nat) : Int) := by rw [hd]; exact u32_xor_nat _ 3988292384 hm2 (by decide)
    have HX := Lib.hid hxx
    have HD := Lib.hid hd
    clear hxx hd hb
    by_cases hk8 : k < 8
    · have e8 : 8 - k = (8 - (k + 1)) + 1 := by omega
      have hs : Hid (Crc.byte n x = Crc.steps (8 - (k + 1)) (Crc.step m)) := by
        have := hr.out; rw [e8] at this; exact this
      have hl := Crc.step_lt m hm
      clear e8
      by_cases ho : m % 2 = 1
      · have ho' : ((m : Int) % 2 == 1) = true := by simp; omega
        have he : Hid (Crc.step m = (m / 2) ^^^ 3988292384) := by unfold Crc.step Hid; rw [if_pos ho]
        clear ho
        go_wp2
        go_round
        case rel => exact ⟨k + 1, Crc.step m, by omega, hl, by go_num, by rw [HX.out, he.out], hs⟩
        case measure => simp [intOf]; omega
      · have ho' : ((m : Int) % 2 == 1) = false := by simp; omega
        have he : Hid (Crc.step m = m / 2) := by unfold Crc.step Hid; rw [if_neg ho]
        clear ho
        go_wp2
        go_round
        case rel => exact ⟨k + 1, Crc.step m, by omega, hl, by go_num, by rw [HD.out, he.out], hs⟩
        case measure => simp [intOf]; omega
    · have hs : Hid (Crc.byte n x = m) := by
        have := hr.out; rw [show 8 - k = 0 from by omega] at this; exact this
      clear hr
      go_wp2
      go_ret
      exact ⟨ret_u32 (by rw [hs.out]), rfl⟩

set_option maxHeartbeats 400000 in
theorem more_ref (s : Nat) (v : Value) (l : List UInt8) (w : World) (h : s < 4294967296) (hv : Bytes w v l) :
    Calls Tryz.prog 174 #[.int .u32 (s : Int), v] w fun e w' => e = .returned (.int .u32 (Crc.more s l : Int)) ∧ w = w' := by
  obtain ⟨a, cap, rfl, hcap, hmax, _, hc⟩ := hv.open
  unfold maxLen at hmax
  have h0 : 4294967295 - s < 4294967296 := by omega
  have hd : (4294967295 - (s : Int)) = ((4294967295 - s : Nat) : Int) := by omega
  go_enter Tryz.func174, Tryz.ntmps174
  go_wp2
  go_loop [5, 6] (fun n' i => ∃ k m : Nat, k ≤ l.length ∧ m < 4294967296 ∧ i = .int .i64 k ∧ n' = .int .u32 m ∧ Hid (m = Crc.run (4294967295 - s) (l.take k))) (fun _ i => l.length - (intOf i).toNat)
  case atStart => exact ⟨0, 4294967295 - s, by omega, h0, rfl, rfl, rfl⟩
  case round =>
    obtain ⟨k, m, hk, hm, rfl, rfl, hr⟩ := hrel
    clear hd
    by_cases hlt : k < l.length
    · obtain ⟨b, off, rfl, hcell⟩ := hc k hlt
      clear hc
      have hn := Crc.byte_lt m l[k] hm
      go_wp2_with (go_at_call 184; refine (added_any m l[k] _ hm).mono ?_; rintro e w' ⟨rfl, rfl⟩)
      go_round
      case rel => exact ⟨k + 1, Crc.byte m l[k], by omega, hn, by go_num, rfl, by unfold Hid; rw [take_succ_getD l k hlt, Crc.run_append, ← hr.out]; rfl⟩
      case measure => simp [intOf]; omega
    · have hs : Hid (m = Crc.run (4294967295 - s) l) := by
        have := hr.out; rw [List.take_of_length_le (by omega)] at this; exact this
      clear hr hc
      go_wp2
      go_ret
      exact ⟨ret_u32 (by unfold Crc.more; rw [← hs.out]; omega), rfl⟩

set_option maxHeartbeats 400000 in
theorem sum_ref (v : Value) (l : List UInt8) (w : World) (hv : Bytes w v l) :
    Calls Tryz.prog 152 #[v] w fun e w' => e = .returned (.int .u32 (Crc.sum l : Int)) ∧ w = w' := by
  go_enter Tryz.func152, Tryz.ntmps152
  go_wp2_with (go_at_call 174; refine (more_ref 0 v l _ (by decide) hv).mono ?_; rintro e w' ⟨rfl, rfl⟩)
  go_ret
  exact ⟨rfl, rfl⟩

theorem tU8 : ElemOf Tryz.prog 22 5 (.int .u8 0) 1 := ⟨Tryz.underlying22, by kernel_rfl, rfl⟩

/-- What stands behind the k-th round: the bytes of n so far. -/
def lows (n : Nat) : Nat → List UInt8
  | 0 => []
  | k + 1 => lows n k ++ [UInt8.ofNat (n / 256 ^ k)]
theorem lows_four (n : Nat) : lows n 4 = Crc.low n := by simp [lows, Crc.low]

set_option maxRecDepth 100000 in
set_option maxHeartbeats 1000000 in
theorem put_ref (v : Value) (l : List UInt8) (w : World) (hv : Bytes w v l) (hl : l.length ≤ 100000) :
    Calls Tryz.prog 132 #[v] w (GivesBytes w (l ++ Crc.low (Crc.sum l))) := by
  have hu := u8s_one l
  have hs := Crc.more_lt 0 l
  go_enter Tryz.func132, Tryz.ntmps132
  go_wp2_with (first | (at_builtin; refine wpList_app rfl (.tmp 6) (.tmp 7) tU8 rfl (base := w.heap.size) (v := .slice (some ⟨w.heap.size, 0, none⟩) 0 0) (u := v) (n := 0) (xs := []) (ys := u8s l) rfl rfl ?c1 ?c2 hu ?c3 ?c4 ?c5 ?_; rotate_right; intro v1 w1 hown1 hg1))
  case c1 => exact World.ownsRow_made w #[] 0 (Nat.le_refl _) (by simp [maxLen]) (by simp)
  case c2 => exact hv.below ((Below.refl _ w).alloc (Nat.le_refl _) _)
  case c3 => simp [maxLen]; omega
  case c4 => simp; omega
  case c5 => simp
  have hb1 : Below w.heap.size w w1 := ((Below.refl _ w).alloc (Nat.le_refl _) _).grown hg1 (by simp) (by intro k hk; simp [Value.ownBlock] at hk; omega)
  refine (sum_ref v l w1 (hv.below hb1)).mono ?_
  rintro e w' ⟨rfl, rfl⟩
  have hown : w1.ownsRow w.heap.size 5 1 v1 l.length (u8s l) := by simpa using hown1
  clear hown1 hg1 hu
  go_wp2
  go_loopw [3, 4, 5] (fun b n i wr => ∃ k m : Nat, k ≤ 4 ∧ i = .int .i64 k ∧ n = .int .u32 m ∧ Hid (m = Crc.sum l / 256 ^ k) ∧ wr.ownsRow w.heap.size 5 1 b (l.length + k) (u8s (l ++ lows (Crc.sum l) k)) ∧ Below w.heap.size w wr) (fun _ _ i _ => 4 - (intOf i).toNat)
  case atStart => exact ⟨0, Crc.sum l, by omega, rfl, rfl, by simp [Hid], by simpa [lows] using hown, hb1⟩
  case round =>
    obtain ⟨k, m, hk, rfl, rfl, hm, ho, hbr⟩ := hrel
    have hm2 : m < 4294967296 := by
      rw [hm.out]; exact Nat.lt_of_le_of_lt (Nat.div_le_self _ _) hs
    by_cases hk4 : k < 4
    · have hone := u8s_one [UInt8.ofNat m]
      have hsz := hbr.size
      go_wp2_with (first | (at_builtin; refine wpList_app rfl (.tmp 15) (.tmp 19) tU8 rfl (base := w.heap.size) (n := l.length + k) (xs := u8s (l ++ lows (Crc.sum l) k)) (ys := u8s [UInt8.ofNat m]) rfl rfl (ho.alloc _) ?c2 hone ?c3 ?c4 ?c5 ?_; rotate_right; intro v2 w2 hown2 hg2))
      case c2 =>
        have := Sl.made wr (u8s [UInt8.ofNat m]) 5 1 (by simp) (by simp [maxLen]) (fr := (0, 0))
        simp only [u8s, List.map_cons, List.map_nil, u8_ofNat] at this ⊢
        exact this
      case c3 => simp [maxLen]; omega
      case c4 => simp; omega
      case c5 => simp; omega
      go_roundw
      case rel =>
        refine ⟨k + 1, m / 256, by omega, by go_num, by go_num, ?_, ?_, ?_⟩
        · unfold Hid; rw [hm.out, Nat.pow_succ, Nat.div_div_eq_div_mul]
        · have := hown2
          rw [hm.out] at this
          simpa [lows, Nat.add_assoc] using this
        · exact (hbr.alloc hsz _).grown hg2 (by simp; omega) (by intro k hk; have := ho.lt k hk; omega)
      case measure => simp [intOf]; omega
    · obtain rfl : k = 4 := by omega
      rw [lows_four] at ho
      go_wp2
      go_ret
      exact ⟨_, rfl, Sl.ofOwn ho, hbr⟩

/-- A call that hands back bytes and true, or none and false. -/
def GivesCut (w : World) (r : Option (List UInt8)) (e : Ending) (w' : World) : Prop :=
  Below w.heap.size w w' ∧ match r with
    | none => e = .returned (.tuple #[.slice none 0 0, .bool false])
    | some l => ∃ v, e = .returned (.tuple #[v, .bool true]) ∧ Bytes w' v l

set_option maxRecDepth 100000 in
set_option maxHeartbeats 1000000 in
theorem cut_ref (v : Value) (l : List UInt8) (w : World) (hv : Bytes w v l) (hl : l.length ≤ 100000) :
    Calls Tryz.prog 128 #[v] w (GivesCut w (Crc.cutOf l)) := by
  have hv0 := hv
  obtain ⟨a, cap, rfl, hcap, hmax, hn, hc⟩ := hv.open
  unfold maxLen at hmax
  by_cases h4 : l.length < 4
  · have hcut : Crc.cutOf l = none := by unfold Crc.cutOf; rw [if_pos h4]
    rw [hcut]
    clear hcut hc hn
    go_enter Tryz.func128, Tryz.ntmps128
    go_wp2
    go_ret2
    exact ⟨Below.refl _ _, rfl⟩
  · obtain ⟨b, off, rfl, _⟩ := hc 0 (by omega)
    go_enter Tryz.func128, Tryz.ntmps128
    clear hc hn
    have h1 : Bytes w (.slice (some ⟨b, off, none⟩) (l.length - 4) cap) (l.take (l.length - 4)) := hv0.take (l.length - 4) (by omega)
    have hs1 : ∀ w', Below w.heap.size w w' → (convert 22 9 (.slice (some ⟨b, off, none⟩) l.length cap)).run Tryz.prog w' = .ok (.string ⟨l.toArray⟩) w' := fun w' hb => run_str _ _ 5 Tryz.underlying22 Tryz.underlying5 Tryz.underlying9 (hv0.below hb)
    have hs2 : ∀ w' v' l', Bytes w' v' l' → (convert 22 9 v').run Tryz.prog w' = .ok (.string ⟨l'.toArray⟩) w' := fun w' v' l' h => run_str _ _ 5 Tryz.underlying22 Tryz.underlying5 Tryz.underlying9 h
    go_upto_region 4 with fail
    go_cut [18] (fun s18 wx => Below w.heap.size w wx ∧ s18 = .bool (decide (l.take (l.length - 4) ++ Crc.low (Crc.sum (l.take (l.length - 4))) ≠ l)))
    case first =>
      refine wp_region_facts (by kernel_rfl) Ext (fun iop v w => match iop with
          | 0 => v = .slice (some ⟨b, off, none⟩) (l.length - 4) cap
          | 1 => Bytes w v (l.take (l.length - 4) ++ Crc.low (Crc.sum (l.take (l.length - 4))))
          | 2 => v = .string ⟨(l.take (l.length - 4) ++ Crc.low (Crc.sum (l.take (l.length - 4)))).toArray⟩
          | 3 => v = .slice (some ⟨b, off, none⟩) l.length cap
          | 4 => v = .string ⟨l.toArray⟩
          | _ => v = .bool (decide (l.take (l.length - 4) ++ Crc.low (Crc.sum (l.take (l.length - 4))) ≠ l))
          ) (by kernel_rfl) (fun _ _ _ h k => Ext.trans h k) (fun a => Ext.refl a) (Ext.drew _) ?_ ?_ ?_
      · intro iop v wa wb hF hL
        rcases iop with _ | iop; exact hF
        rcases iop with _ | iop; (first | exact hF | exact Bytes.below hF hL | exact Sl.below hF hL)
        iterate 3 (rcases iop with _ | iop; exact hF)
        exact hF
      · refine Obls.cons ?_ (Obls.cons ?_ (Obls.cons ?_ (Obls.cons ?_ (Obls.cons ?_ (Obls.cons ?_ (Obls.nil))))))
        · intro ev wy hp hl hk hd
          have e4 : ev (.tmp 4) = .slice (some ⟨b, off, none⟩) (l.length - 4) cap := hk 4 (by decide)
          clear hk hd
          exact Yield.mv rfl ⟨Ext.refl _, e4⟩
        · intro ev wy hp hl hk hd
          have e13 : ev (.tmp 13) = .slice (some ⟨b, off, none⟩) (l.length - 4) cap := hk 13 (by decide)
          clear hk hd
          refine Yield.call rfl hp Tryz.func132 rfl (by kernel_rfl) ?_
          simp only [List.map_toArray, List.map_cons, List.map_nil, e13]
          exact (put_ref _ _ _ (h1.below hl) (by simp; omega)).mono fun e w' ⟨v', he, hv', hb'⟩ => ⟨v', he, hb', hv'⟩
        · intro ev wy hp hl hk hd
          have f14 : (fun (v : Value) (w : World) => Bytes w v (l.take (l.length - 4) ++ Crc.low (Crc.sum (l.take (l.length - 4))))) (ev (.tmp 14)) wy := hk 14 (by decide)
          generalize hx14 : ev (.tmp 14) = x14 at *
          clear hk hd
          exact Yield.conv rfl hx14 (hs2 _ _ _ f14) ⟨Ext.refl _, rfl⟩
        · intro ev wy hp hl hk hd
          have e0 : ev (.tmp 0) = .slice (some ⟨b, off, none⟩) l.length cap := hk 0 (by decide)
          clear hk hd
          exact Yield.mv rfl ⟨Ext.refl _, e0⟩
        · intro ev wy hp hl hk hd
          have e16 : ev (.tmp 16) = .slice (some ⟨b, off, none⟩) l.length cap := hk 16 (by decide)
          clear hk hd
          exact Yield.conv rfl e16 (hs1 _ hl) ⟨Ext.refl _, rfl⟩
        · intro ev wy hp hl hk hd
          have e15 : ev (.tmp 15) = .string ⟨(l.take (l.length - 4) ++ Crc.low (Crc.sum (l.take (l.length - 4)))).toArray⟩ := hk 15 (by decide)
          have e17 : ev (.tmp 17) = .string ⟨l.toArray⟩ := hk 17 (by decide)
          clear hk hd
          exact Yield.op (w' := wy) (by simp [execOp, go_sem, e15, e17]; rw [Bool.eq_iff_iff]; simp) ⟨Ext.refl _, rfl⟩
      · intro vals wz hz hv
        have g13 : vals 0 = .slice (some ⟨b, off, none⟩) (l.length - 4) cap := hv 0 (by decide)
        have g14 : (fun (v : Value) (w : World) => Bytes w v (l.take (l.length - 4) ++ Crc.low (Crc.sum (l.take (l.length - 4))))) (vals 1) wz := hv 1 (by decide)
        have g15 : vals 2 = .string ⟨(l.take (l.length - 4) ++ Crc.low (Crc.sum (l.take (l.length - 4)))).toArray⟩ := hv 2 (by decide)
        have g16 : vals 3 = .slice (some ⟨b, off, none⟩) l.length cap := hv 3 (by decide)
        have g17 : vals 4 = .string ⟨l.toArray⟩ := hv 4 (by decide)
        have g18 : vals 5 = .bool (decide (l.take (l.length - 4) ++ Crc.low (Crc.sum (l.take (l.length - 4))) ≠ l)) := hv 5 (by decide)
        clear hv
        simp only [putAll, Act.put, List.setIfInBounds_toArray, List.set_cons_zero, List.set_cons_succ, g13, g15, g16, g17, g18]
        clear g13
        generalize vals 1 = v14 at *
        clear g15
        clear g16
        clear g17
        clear g18
        go_wp2_with fail
        go_meet
        exact ⟨hz, rfl⟩
    case rest =>
      obtain ⟨hb, rfl⟩ := hcut
      by_cases hq : l.take (l.length - 4) ++ Crc.low (Crc.sum (l.take (l.length - 4))) = l
      · have hcut : Crc.cutOf l = some (l.take (l.length - 4)) := by unfold Crc.cutOf; rw [if_neg h4, if_pos hq]
        have hd : decide (l.take (l.length - 4) ++ Crc.low (Crc.sum (l.take (l.length - 4))) ≠ l) = false := by simp [hq]
        rw [hd]
        clear hq hs1 hs2 hd
        go_wp2
        go_ret2
        exact ⟨hb, by rw [hcut]; exact ⟨_, rfl, h1.below hb⟩⟩
      · have hcut : Crc.cutOf l = none := by unfold Crc.cutOf; rw [if_neg h4, if_neg hq]
        have hd : decide (l.take (l.length - 4) ++ Crc.low (Crc.sum (l.take (l.length - 4))) ≠ l) = true := by simp [hq]
        rw [hd]
        clear hq hs1 hs2 hd
        go_wp2
        go_ret2
        exact ⟨hb, by rw [hcut]; rfl⟩
end Go.Proofs.YtfgjhagfpafmoaaGreat
