/-
  Layer 6, the program: has a row a number; may these be a row's nodes.
-/
import Derived.Test.YtpfodkgncachiaaTermMath
import Derived.Test.YtpfodkgncachiaaLibG
import Derived.Test.YtpfodkgncachiaaLibR
import Derived.Test.YtpfodkgncachiaaVecB
namespace Go.Proofs.Ytpfodkgncachiaa
set_option linter.unusedSimpArgs false
set_option linter.unusedVariables false
set_option maxRecDepth 100000
open Go.RowKit

/-- Has a row a number? -/
def hasI (ns : List Int) (x : Int) : Bool := ns.contains x
theorem hasSucc (ns : List Int) (x : Int) (k : Nat) (h : k < ns.length) (h1 : hasI (ns.take k) x = false) (h2 : ns[k] ≠ x) : hasI (ns.take (k + 1)) x = false := by
  rw [take_succ_getD ns k h]
  simp only [hasI, List.contains_eq_mem, decide_eq_false_iff_not, List.mem_append, List.mem_singleton, not_or] at h1 ⊢
  exact ⟨h1, fun e => h2 e.symm⟩
theorem hasHere (ns : List Int) (x : Int) (k : Nat) (h : k < ns.length) (h2 : ns[k] = x) : hasI ns x = true := by
  rw [hasI, List.contains_eq_mem, decide_eq_true_eq, ← h2]
  exact List.getElem_mem h
theorem hasEnd {ns : List Int} {x : Int} {k : Nat} (hk : k ≤ ns.length) (hlt : ¬ k < ns.length) {b : Bool} (h : hasI (ns.take k) x = b) : hasI ns x = b := by
  rw [List.take_of_length_le (by omega)] at h; exact h
theorem Ints.take {w : World} {a : Option Addr} {n cap : Nat} {ns : List Int} (h : Ints w (.slice a n cap) ns) (k : Nat) (hk : k ≤ n) : Ints w (.slice a k cap) (ns.take k) := by
  have := Sl.take h k hk
  have e : (i64s ns).take k = i64s (ns.take k) := by simp [i64s]
  rw [e] at this
  exact this

set_option maxHeartbeats 1000000 in
theorem idx6_any (v : Value) (ns : List Int) (x : Int) (w : World) (hv : Ints w v ns) :
    Calls Try.prog 40 #[v, .int .i64 x] w fun e w' => (∃ i : Int, e = .returned (.int .i64 i) ∧ (decide (0 ≤ i)) = hasI ns x) ∧ w = w' := by
  obtain ⟨a, cap, rfl, hcap, hmax, _, hc⟩ := hv.open
  unfold maxLen at hmax
  clear hv
  go_enter Try.func40, Try.ntmps40
  go_wp2
  go_loop [5, 8] (fun _ i => ∃ k : Nat, k ≤ ns.length ∧ i = .int .i64 k ∧ Hid (hasI (ns.take k) x = false)) (fun _ i => ns.length - (intOf i).toNat)
  case atStart => exact ⟨0, by omega, rfl, by simp [Hid, hasI]⟩
  case round =>
    obtain ⟨k, hk, rfl, hr⟩ := hrel
    by_cases hlt : k < ns.length
    · obtain ⟨b, off, rfl, hcell⟩ := hc k hlt
      clear hc
      by_cases h0 : ns[k] = x
      · have HS := Lib.hid (hasHere ns x k hlt h0)
        have g0 : (x == ns[k]) = true := by rw [h0]; simp
        clear h0
        go_wp2
        go_ret
        exact ⟨⟨k, rfl, by rw [HS.out]; simp⟩, rfl⟩
      · have HS := Lib.hid (hasSucc ns x k hlt hr.out h0)
        have g0 : (x == ns[k]) = false := by rw [beq_eq_false_iff_ne]; exact fun e => h0 e.symm
        clear h0
        go_wp2
        go_round
        case rel => exact ⟨k + 1, by omega, by go_num, HS.out⟩
        case measure => simp [intOf]; omega
    · have hs := Lib.hid (hasEnd hk hlt hr.out)
      clear hr hc
      go_wp2
      go_ret
      exact ⟨⟨-1, rfl, by rw [hs.out]; simp⟩, rfl⟩

set_option maxHeartbeats 1000000 in
theorem has6_any (v : Value) (ns : List Int) (x : Int) (w : World) (hv : Ints w v ns) :
    Calls Try.prog 24 #[v, .int .i64 x] w fun e w' => e = .returned (.bool (hasI ns x)) ∧ w = w' := by
  have HV := Lib.hid hv
  clear hv
  go_enter Try.func24, Try.ntmps24
  go_wp2_with fail
  refine (idx6_any v ns x _ HV.out).mono ?_
  rintro e w' ⟨⟨i, rfl, hi⟩, rfl⟩
  go_wp2_with fail
  go_ret
  exact ⟨by rw [← hi]; rfl, rfl⟩

set_option maxHeartbeats 1000000 in
theorem refHas6_any (v : Value) (ns : List Int) (x : Int) (w : World) (hv : Ints w v ns) :
    Calls Try.prog 7 #[v, .int .i64 x] w fun e w' => e = .returned (.bool (hasI ns x)) ∧ w = w' := by
  obtain ⟨a, cap, rfl, hcap, hmax, _, hc⟩ := hv.open
  unfold maxLen at hmax
  clear hv
  go_enter Try.func7, Try.ntmps7
  go_wp2
  go_loop [5] (fun i => ∃ k : Nat, k ≤ ns.length ∧ i = .int .i64 k ∧ Hid (hasI (ns.take k) x = false)) (fun i => ns.length - (intOf i).toNat)
  case atStart => exact ⟨0, by omega, rfl, by simp [Hid, hasI]⟩
  case round =>
    obtain ⟨k, hk, rfl, hr⟩ := hrel
    by_cases hlt : k < ns.length
    · obtain ⟨b, off, rfl, hcell⟩ := hc k hlt
      clear hc
      by_cases h0 : ns[k] = x
      · have HS := Lib.hid (hasHere ns x k hlt h0)
        have g0 : (ns[k] == x) = true := by rw [h0]; simp
        clear h0
        go_wp2
        go_ret
        exact ⟨by rw [HS.out]; rfl, rfl⟩
      · have HS := Lib.hid (hasSucc ns x k hlt hr.out h0)
        have g0 : (ns[k] == x) = false := by rw [beq_eq_false_iff_ne]; exact h0
        clear h0
        go_wp2
        go_round
        case rel => exact ⟨k + 1, by omega, by go_num, HS.out⟩
        case measure => simp [intOf]; omega
    · have hs := Lib.hid (hasEnd hk hlt hr.out)
      clear hr hc
      go_wp2
      go_ret
      exact ⟨by rw [hs.out]; rfl, rfl⟩

theorem unlikeSucc {ns : List Int} {k : Nat} (h : k < ns.length) (h1 : Term.unlike (ns.take k) = true) (a : 0 ≤ ns[k]) (b : ns[k] ≤ 15) (c : hasI (ns.take k) ns[k] = false) : Term.unlike (ns.take (k + 1)) = true := by
  unfold hasI at c
  rw [take_succ_getD ns k h, Term.unlike_snoc, h1, c]
  simp [Term.okNode, a, b]
theorem unlikeNot {ns : List Int} {k : Nat} (h : k < ns.length) (c : ns[k] < 0 ∨ 15 < ns[k] ∨ hasI (ns.take k) ns[k] = true) : Term.unlike ns = false := by
  rw [← Bool.not_eq_true]
  intro hu
  have := Term.unlike_take (k + 1) hu
  rw [take_succ_getD ns k h, Term.unlike_snoc] at this
  simp only [Bool.and_eq_true, Term.okNode, decide_eq_true_eq, Bool.not_eq_true'] at this
  rcases c with c | c | c
  · omega
  · omega
  · unfold hasI at c; rw [this.2.2] at c; cases c
theorem unlikeEnd {ns : List Int} {k : Nat} (hk : k ≤ ns.length) (hlt : ¬ k < ns.length) (h : Term.unlike (ns.take k) = true) : Term.unlike ns = true := by
  rw [List.take_of_length_le (by omega)] at h; exact h
theorem to6 (w : World) (a : Option Addr) (n cap k : Nat) (hk : k ≤ cap) : (Instr.sliceAt 22 (.slice a n cap) none (some (.int .i64 (k : Int))) none).run Try.prog w = .ok (.slice a k cap) w :=
  run_sl_to Try.underlying22 (by kernel_rfl) k hk .i64

set_option maxHeartbeats 4000000 in
theorem areNodes6_any (v : Value) (ns : List Int) (m : Nat) (w : World) (hv : Ints w v ns) (hm : m ≤ 100) :
    Calls Try.prog 13 #[v, .int .i64 m] w fun e w' => e = .returned (.bool (decide (1 ≤ ns.length ∧ ns.length ≤ m) && Term.unlike ns)) ∧ w = w' := by
  have HV := Lib.hid hv
  obtain ⟨a, cap, rfl, hcap, hmax, _, hc⟩ := hv.open
  unfold maxLen at hmax
  have HC := Lib.hid hc
  clear hv hc
  by_cases g1 : (ns.length : Int) < 1
  · have e : decide (1 ≤ ns.length ∧ ns.length ≤ m) = false := by rw [decide_eq_false_iff_not]; omega
    rw [e]
    clear e
    go_enter Try.func13, Try.ntmps13
    go_wp2
    go_ret
    exact ⟨rfl, rfl⟩
  by_cases g2 : (m : Int) < (ns.length : Int)
  · have e : decide (1 ≤ ns.length ∧ ns.length ≤ m) = false := by rw [decide_eq_false_iff_not]; omega
    rw [e]
    clear e
    go_enter Try.func13, Try.ntmps13
    go_wp2
    go_ret
    exact ⟨rfl, rfl⟩
  have e : decide (1 ≤ ns.length ∧ ns.length ≤ m) = true := by rw [decide_eq_true_eq]; omega
  rw [e, Bool.true_and]
  clear e
  have hsl := fun (k : Nat) (hk : k ≤ cap) wy => to6 wy a ns.length cap k hk
  have HSL := Lib.hid hsl
  clear hsl
  go_enter Try.func13, Try.ntmps13
  go_wp2_with fail
  go_loop [5, 6, 18] (fun _ _ i => ∃ k : Nat, k ≤ ns.length ∧ i = .int .i64 k ∧ Hid (Term.unlike (ns.take k) = true)) (fun _ _ i => ns.length - (intOf i).toNat)
  case atStart => exact ⟨0, by omega, rfl, by simp [Hid, Term.unlike]⟩
  case round =>
    obtain ⟨k, hk, rfl, hr⟩ := hrel
    by_cases hlt : k < ns.length
    · obtain ⟨b, off, rfl, hcell⟩ := HC.out k hlt
      have hs1 := HSL.out k (by omega) w
      by_cases h0 : ns[k] < 0
      · have HS := Lib.hid (unlikeNot hlt (.inl h0))
        go_wp2_with fail
        go_ret
        exact ⟨by rw [HS.out]; rfl, rfl⟩
      by_cases h2 : 16 ≤ ns[k]
      · have HS := Lib.hid (unlikeNot hlt (.inr (.inl (by omega))))
        go_wp2_with fail
        go_ret
        exact ⟨by rw [HS.out]; rfl, rfl⟩
      have HT := Lib.hid (HV.out.take k (by omega))
      cases hb : hasI (ns.take k) ns[k] with
      | true =>
        have HS := Lib.hid (unlikeNot hlt (.inr (.inr hb)))
        have HB := Lib.hid hb
        clear hb
        go_wp2_with fail
        refine (has6_any _ _ _ _ HT.out).mono ?_
        rw [HB.out]
        rintro e w' ⟨rfl, rfl⟩
        go_wp2_with fail
        go_ret
        exact ⟨by rw [HS.out]; rfl, rfl⟩
      | false =>
        have HS := Lib.hid (unlikeSucc hlt hr.out (by omega) (by omega) hb)
        have HB := Lib.hid hb
        clear hb
        go_wp2_with fail
        refine (has6_any _ _ _ _ HT.out).mono ?_
        rw [HB.out]
        rintro e w' ⟨rfl, rfl⟩
        go_wp2_with fail
        go_round
        case rel => exact ⟨k + 1, by omega, by go_num, HS.out⟩
        case measure => simp [intOf]; omega
    · have hs := Lib.hid (unlikeEnd hk hlt hr.out)
      clear hr
      go_wp2_with fail
      go_ret
      exact ⟨by rw [hs.out]; rfl, rfl⟩

end Go.Proofs.Ytpfodkgncachiaa
