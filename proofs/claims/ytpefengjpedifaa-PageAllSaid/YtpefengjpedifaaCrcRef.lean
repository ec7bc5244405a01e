/-
  Layer 1, the document's own answers: each call's contract.
-/
import Derived.Test.YtpefengjpedifaaProg
import Derived.Test.YtpefengjpedifaaLib
import Derived.Test.YtpefengjpedifaaRegion
import Derived.Deep.RegionHeld3
import Derived.Deep.DeepCutAuto
import Derived.Test.YtpefengjpedifaaCrcMath
namespace Go.Proofs.Ytpefengjpedifaa
set_option maxRecDepth 100000
open Go.RowKit

theorem ret_u32 {a b : Int} (h : a = b) : Ending.returned (.int .u32 a) = .returned (.int .u32 b) := by rw [h]

set_option maxHeartbeats 400000 in
theorem added_any (n : Nat) (x : UInt8) (w : World) (h : n < 4294967296) :
    Calls Try.prog 109 #[.int .u32 (n : Int), .int .u8 (x.toNat : Int)] w fun e w' => e = .returned (.int .u32 (Crc.byte n x : Int)) ∧ w = w' := by
  have hx := x.toNat_lt
  have h0 : n ^^^ x.toNat < 4294967296 := Crc.xor_lt _ _ h (by omega)
  have hb : bits .xor .u32 (n : Int) (x.toNat : Int) = ((n ^^^ x.toNat : Nat) : Int) := u32_xor_nat _ _ h (by omega)
  go_enter Try.func109, Try.ntmps109
  go_wp2
  go_loop [0, 5] (fun n' i => ∃ k m : Nat, k ≤ 8 ∧ m < 4294967296 ∧ i = .int .i64 k ∧ n' = .int .u32 m ∧ Hid (Crc.byte n x = Crc.steps (8 - k) m)) (fun _ i => 8 - (intOf i).toNat)
  case atStart => exact ⟨0, n ^^^ x.toNat, by omega, h0, rfl, rfl, rfl⟩
  case round =>
    obtain ⟨k, m, hk, hm, rfl, rfl, hr⟩ := hrel
    have hm2 : m / 2 < 4294967296 := by omega
    have hd : ((m : Int) / 2) = ((m / 2 : Nat) : Int) := by omega
    have hxx : bits .xor .u32 ((m : Int) / 2) 3988292384 = (((m / 2) ^^^ 3988292384 : Nat) : Int) := by rw [hd]; exact u32_xor_nat _ 3988292384 hm2 (by decide)
    have HX := Lib.hid hxx
    have HD := Lib.hid hd
    clear hxx hd hb
    by_cases hk8 : k < 8
    · have e8 : 8 - k = (8 - (k + 1)) + 1 := by omega
      have hs : Hid (Crc.byte n x = Crc.steps (8 - (k + 1)) (Crc.step m)) := by
        have := hr.out; rw [e8] at this; exact this
      have hl := Crc.step_lt m hm
      clear e8
      by_cases ho : m % 2 = 1
      · have ho' : ((m : Int) % 2 == 1) = true := by simp; omega
        have he : Hid (Crc.step m = (m / 2) ^^^ 3988292384) := by unfold Crc.step Hid; rw [if_pos ho]
        clear ho
        go_wp2
        go_round
        case rel => exact ⟨k + 1, Crc.step m, by omega, hl, by go_num, by rw [HX.out, he.out], hs⟩
        case measure => simp [intOf]; omega
      · have ho' : ((m : Int) % 2 == 1) = false := by simp; omega
        have he : Hid (Crc.step m = m / 2) := by unfold Crc.step Hid; rw [if_neg ho]
        clear ho
        go_wp2
        go_round
        case rel => exact ⟨k + 1, Crc.step m, by omega, hl, by go_num, by rw [HD.out, he.out], hs⟩
        case measure => simp [intOf]; omega
    · have hs : Hid (Crc.byte n x = m) := by
        have := hr.out; rw [show 8 - k = 0 from by omega] at this; exact this
      clear hr
      go_wp2
      go_ret
      exact ⟨ret_u32 (by rw [hs.out]), rfl⟩

set_option maxHeartbeats 400000 in
theorem more_ref (s : Nat) (v : Value) (l : List UInt8) (w : World) (h : s < 4294967296) (hv : Bytes w v l) :
    Calls Try.prog 104 #[.int .u32 (s : Int), v] w fun e w' => e = .returned (.int .u32 (Crc.more s l : Int)) ∧ w = w' := by
  obtain ⟨a, cap, rfl, hcap, hmax, _, hc⟩ := hv.open
  unfold maxLen at hmax
  have h0 : 4294967295 - s < 4294967296 := by omega
  have hd : (4294967295 - (s : Int)) = ((4294967295 - s : Nat) : Int) := by omega
  go_enter Try.func104, Try.ntmps104
  go_wp2
  go_loop [5, 6] (fun n' i => ∃ k m : Nat, k ≤ l.length ∧ m < 4294967296 ∧ i = .int .i64 k ∧ n' = .int .u32 m ∧ Hid (m = Crc.run (4294967295 - s) (l.take k))) (fun _ i => l.length - (intOf i).toNat)
  case atStart => exact ⟨0, 4294967295 - s, by omega, h0, rfl, rfl, rfl⟩
  case round =>
    obtain ⟨k, m, hk, hm, rfl, rfl, hr⟩ := hrel
    clear hd
    by_cases hlt : k < l.length
    · obtain ⟨b, off, rfl, hcell⟩ := hc k hlt
      clear hc
      have hn := Crc.byte_lt m l[k] hm
      go_wp2_with (go_at_call 109; refine (added_any m l[k] _ hm).mono ?_; rintro e w' ⟨rfl, rfl⟩)
      go_round
      case rel => exact ⟨k + 1, Crc.byte m l[k], by omega, hn, by go_num, rfl, by unfold Hid; rw [take_succ_getD l k hlt, Crc.run_append, ← hr.out]; rfl⟩
      case measure => simp [intOf]; omega
    · have hs : Hid (m = Crc.run (4294967295 - s) l) := by
        have := hr.out; rw [List.take_of_length_le (by omega)] at this; exact this
      clear hr hc
      go_wp2
      go_ret
      exact ⟨ret_u32 (by unfold Crc.more; rw [← hs.out]; omega), rfl⟩

set_option maxHeartbeats 400000 in
theorem sum_ref (v : Value) (l : List UInt8) (w : World) (hv : Bytes w v l) :
    Calls Try.prog 93 #[v] w fun e w' => e = .returned (.int .u32 (Crc.sum l : Int)) ∧ w = w' := by
  go_enter Try.func93, Try.ntmps93
  go_wp2_with (go_at_call 104; refine (more_ref 0 v l _ (by decide) hv).mono ?_; rintro e w' ⟨rfl, rfl⟩)
  go_ret
  exact ⟨rfl, rfl⟩

theorem tU8 : ElemOf Try.prog 22 5 (.int .u8 0) 1 := ⟨Try.underlying22, by kernel_rfl, rfl⟩

/-- What stands behind the k-th round: the bytes of n so far. -/
def lows (n : Nat) : Nat → List UInt8
  | 0 => []
  | k + 1 => lows n k ++ [UInt8.ofNat (n / 256 ^ k)]
theorem lows_length (n k : Nat) : (lows n k).length = k := by
  induction k with
  | zero => rfl
  | succ k ih => simp [lows, ih]
theorem lows_four (n : Nat) : lows n 4 = Crc.low n := by simp [lows, Crc.low]

set_option maxRecDepth 100000 in
set_option maxHeartbeats 1000000 in
theorem put_ref (v : Value) (l : List UInt8) (w : World) (hv : Bytes w v l) (hl : l.length ≤ 100000) :
    Calls Try.prog 77 #[v] w (GivesBytes w (l ++ Crc.low (Crc.sum l))) := by
  have hu := u8s_one l
  have hs := Crc.more_lt 0 l
  go_enter Try.func77, Try.ntmps77
  go_wp2_with (first | (at_builtin; refine wpList_app rfl (.tmp 6) (.tmp 7) tU8 rfl (base := w.heap.size) (v := .slice (some ⟨w.heap.size, 0, none⟩) 0 0) (u := v) (n := 0) (xs := []) (ys := u8s l) rfl rfl ?c1 ?c2 hu ?c3 ?c4 ?c5 ?_; rotate_right; intro v1 w1 hown1 hg1))
  case c1 => exact World.ownsRow_made w #[] 0 (Nat.le_refl _) (by simp [maxLen]) (by simp)
  case c2 => exact hv.below ((Below.refl _ w).alloc (Nat.le_refl _) _)
  case c3 => simp [maxLen]; omega
  case c4 => simp; omega
  case c5 => simp
  have hb1 : Below w.heap.size w w1 := ((Below.refl _ w).alloc (Nat.le_refl _) _).grown hg1 (by simp) (by intro k hk; simp [Value.ownBlock] at hk; omega)
  refine (sum_ref v l w1 (hv.below hb1)).mono ?_
  rintro e w' ⟨rfl, rfl⟩
  have hown : w1.ownsRow w.heap.size 5 1 v1 l.length (u8s l) := by simpa using hown1
  clear hown1 hg1 hu
  go_wp2
  go_loopw [3, 4, 5] (fun b n i wr => ∃ k m : Nat, k ≤ 4 ∧ i = .int .i64 k ∧ n = .int .u32 m ∧ Hid (m = Crc.sum l / 256 ^ k) ∧ wr.ownsRow w.heap.size 5 1 b (l.length + k) (u8s (l ++ lows (Crc.sum l) k)) ∧ Below w.heap.size w wr) (fun _ _ i _ => 4 - (intOf i).toNat)
  case atStart => exact ⟨0, Crc.sum l, by omega, rfl, rfl, by simp [Hid], by simpa [lows] using hown, hb1⟩
  case round =>
    obtain ⟨k, m, hk, rfl, rfl, hm, ho, hbr⟩ := hrel
    have hm2 : m < 4294967296 := by
      rw [hm.out]; exact Nat.lt_of_le_of_lt (Nat.div_le_self _ _) hs
    by_cases hk4 : k < 4
    · have hone := u8s_one [UInt8.ofNat m]
      have hsz := hbr.size
      go_wp2_with (first | (at_builtin; refine wpList_app rfl (.tmp 15) (.tmp 19) tU8 rfl (base := w.heap.size) (n := l.length + k) (xs := u8s (l ++ lows (Crc.sum l) k)) (ys := u8s [UInt8.ofNat m]) rfl rfl (ho.alloc _) ?c2 hone ?c3 ?c4 ?c5 ?_; rotate_right; intro v2 w2 hown2 hg2))
      case c2 =>
        have := Sl.made wr (u8s [UInt8.ofNat m]) 5 1 (by simp) (by simp [maxLen]) (fr := (0, 0))
        simp only [u8s, List.map_cons, List.map_nil, u8_ofNat] at this ⊢
        exact this
      case c3 => simp [maxLen]; omega
      case c4 => simp; omega
      case c5 => simp; omega
      go_roundw
      case rel =>
        refine ⟨k + 1, m / 256, by omega, by go_num, by go_num, ?_, ?_, ?_⟩
        · unfold Hid; rw [hm.out, Nat.pow_succ, Nat.div_div_eq_div_mul]
        · have := hown2
          rw [hm.out] at this
          simpa [lows, Nat.add_assoc] using this
        · exact (hbr.alloc hsz _).grown hg2 (by simp; omega) (by intro k hk; have := ho.lt k hk; omega)
      case measure => simp [intOf]; omega
    · obtain rfl : k = 4 := by omega
      rw [lows_four] at ho
      go_wp2
      go_ret
      exact ⟨_, rfl, Sl.ofOwn ho, hbr⟩

/-- A call that hands back bytes and true, or none and false. -/
def GivesCut (w : World) (r : Option (List UInt8)) (e : Ending) (w' : World) : Prop :=
  Below w.heap.size w w' ∧ match r with
    | none => e = .returned (.tuple #[.slice none 0 0, .bool false])
    | some l => ∃ v, e = .returned (.tuple #[v, .bool true]) ∧ Bytes w' v l

end Go.Proofs.Ytpefengjpedifaa
