/-
  Layer 3, the program: what asks whether rows of numbers are vectors.
-/
import Derived.Test.YtboopfbflfimlaaVecMath
import Derived.Test.YtboopfbflfimlaaPackWrite
import Derived.Test.YtboopfbflfimlaaPackRead
namespace Go.Proofs.Ytboopfbflfimlaa
open Go.RowKit

theorem tI : ElemOf Try.prog 22 3 (.int .i64 0) 8 := ⟨Try.underlying22, by kernel_rfl, rfl⟩
theorem i64s_one (l : List Int) : ∀ y ∈ i64s l, y.oneCell' = true := by
  intro y hy
  obtain ⟨_, _, rfl⟩ := List.mem_map.1 hy
  rfl
@[simp] theorem i64s_append (l m : List Int) : i64s (l ++ m) = i64s l ++ i64s m := by simp [i64s]
theorem Ints.isSlice {w : World} {v : Value} {l : List Int} (h : Ints w v l) : ∃ a n c, v = .slice a n c := by
  obtain ⟨a, cap, rfl, _⟩ := h.open
  exact ⟨_, _, _, rfl⟩
theorem Ints.len {w : World} {a : Option Addr} {n c : Nat} {l : List Int} (h : Ints w (.slice a n c) l) : n = l.length ∧ n ≤ c ∧ c ≤ 9223372036854775807 := by
  obtain ⟨_, _, e, h1, h2, _⟩ := h.open
  injection e with e1 e2 e3
  subst e3
  unfold maxLen at h2
  omega
theorem Ints.inj {w : World} {v : Value} {l m : List Int} (h : Ints w v l) (k : Ints w v m) : l = m := by
  obtain ⟨a, cap, rfl, h1, h2, _, h3⟩ := h.open
  obtain ⟨a', cap', e, k1, k2, _, k3⟩ := k.open
  injection e with e1 e2 e3
  subst e1 e3
  refine List.ext_getElem e2 fun i hi hi' => ?_
  obtain ⟨b, off, rfl, hc⟩ := h3 i hi
  obtain ⟨b', off', e', hc'⟩ := k3 i hi'
  injection e' with e'; injection e' with e4 e5
  subst e4 e5
  rw [hc] at hc'
  injection hc' with hc'; injection hc' with _ hc'
theorem ints_none (w : World) : Ints w (.slice none 0 0) [] := ⟨none, 0, rfl, Nat.le_refl _, by simp [maxLen], fun _ => rfl, fun i hi => absurd hi (by simp [i64s])⟩

set_option maxRecDepth 100000 in
set_option maxHeartbeats 1000000 in
theorem isCount_any (n : Int) (w : World) : Calls Try.prog 64 #[.int .i64 n] w fun e w' => e = .returned (.bool (Vec.okOne n)) ∧ w = w' := by
  by_cases h0 : 0 ≤ n
  · by_cases h1 : n ≤ 1099511627776
    · have e : Vec.okOne n = true := by unfold Vec.okOne; simp; omega
      rw [e]
      clear e
      go_enter Try.func64, Try.ntmps64
      go_wp2
      go_ret
      exact ⟨rfl, rfl⟩
    · have e : Vec.okOne n = false := by unfold Vec.okOne; simp; omega
      rw [e]
      clear e
      go_enter Try.func64, Try.ntmps64
      go_wp2
      go_ret
      exact ⟨rfl, rfl⟩
  · have e : Vec.okOne n = false := by unfold Vec.okOne; simp; omega
    rw [e]
    clear e
    go_enter Try.func64, Try.ntmps64
    go_wp2
    go_ret
    exact ⟨rfl, rfl⟩

set_option maxRecDepth 100000 in
set_option maxHeartbeats 1000000 in
theorem wrongOne_any (n : Int) (w : World) : Calls Try.prog 63 #[.int .i64 n] w fun e w' => e = .returned (.bool (!Vec.okOne n)) ∧ w = w' := by
  go_enter Try.func63, Try.ntmps63
  go_wp2_with (go_at_call 64; refine (isCount_any n _).mono ?_; rintro e w' ⟨rfl, rfl⟩)
  go_ret
  exact ⟨rfl, rfl⟩

set_option maxRecDepth 100000 in
set_option maxHeartbeats 1000000 in
theorem index3_any (v : Value) (ns : List Int) (w : World) (hv : Ints w v ns) :
    Calls Try.prog 71 #[v, .func (.func 63) #[] #[]] w fun e w' => (∃ i : Int, e = .returned (.int .i64 i) ∧ (decide (0 ≤ i)) = !(ns.all Vec.okOne)) ∧ w = w' := by
  obtain ⟨a, cap, rfl, hcap, hmax, _, hc⟩ := hv.open
  unfold maxLen at hmax
  go_enter Try.func71, Try.ntmps71
  go_wp2
  go_loop [5, 8] (fun _ i => ∃ k : Nat, k ≤ ns.length ∧ i = .int .i64 k ∧ Hid ((ns.take k).all Vec.okOne = true)) (fun _ i => ns.length - (intOf i).toNat)
  case atStart => exact ⟨0, by omega, rfl, by simp [Hid]⟩
  case round =>
    obtain ⟨k, hk, rfl, hr⟩ := hrel
    by_cases hlt : k < ns.length
    · obtain ⟨b, off, rfl, hcell⟩ := hc k hlt
      clear hc
      cases hb : Vec.okOne ns[k] with
      | true =>
        have HB := Lib.hid hb
        clear hb
        go_wp2_with (go_at_call 63; refine (wrongOne_any ns[k] _).mono ?_; rintro e w' ⟨rfl, rfl⟩; rw [HB.out])
        go_round
        case rel => exact ⟨k + 1, by omega, by go_num, by unfold Hid; rw [take_succ_getD ns k hlt, List.all_append, hr.out]; simp [HB.out]⟩
        case measure => simp [intOf]; omega
      | false =>
        have HB := Lib.hid hb
        clear hb
        go_wp2_with (go_at_call 63; refine (wrongOne_any ns[k] _).mono ?_; rintro e w' ⟨rfl, rfl⟩; rw [HB.out])
        go_ret
        refine ⟨⟨k, rfl, ?_⟩, rfl⟩
        have : ns.all Vec.okOne = false := by
          rw [List.all_eq_false]
          exact ⟨ns[k], List.getElem_mem _, by rw [HB.out]; simp⟩
        rw [this]
        simp
    · have hs : Hid (ns.all Vec.okOne = true) := by
        have := hr.out; rw [List.take_of_length_le (by omega)] at this; exact this
      clear hr hc
      go_wp2
      go_ret
      exact ⟨⟨-1, rfl, by rw [hs.out]; simp⟩, rfl⟩

set_option maxRecDepth 100000 in
set_option maxHeartbeats 1000000 in
theorem contains3_any (v : Value) (ns : List Int) (w : World) (hv : Ints w v ns) :
    Calls Try.prog 57 #[v, .func (.func 63) #[] #[]] w fun e w' => e = .returned (.bool (!(ns.all Vec.okOne))) ∧ w = w' := by
  go_enter Try.func57, Try.ntmps57
  go_wp2_with (go_at_call 71; refine (index3_any v ns _ hv).mono ?_; rintro e w' ⟨⟨i, rfl, hi⟩, rfl⟩)
  go_ret
  exact ⟨by rw [← hi]; rfl, rfl⟩

set_option maxRecDepth 100000 in
set_option maxHeartbeats 1000000 in
theorem right_any (v : Value) (ns : List Int) (w : World) (hv : Ints w v ns) :
    Calls Try.prog 38 #[v] w fun e w' => e = .returned (.bool (Vec.right ns)) ∧ w = w' := by
  have HV := Lib.hid hv
  obtain ⟨a, cap, rfl, hcap, hmax, _, _⟩ := hv.open
  unfold maxLen at hmax
  clear hv
  by_cases h1 : (ns.length : Int) < 1
  · have e : Vec.right ns = false := by unfold Vec.right; simp; omega
    rw [e]
    clear e
    go_enter Try.func38, Try.ntmps38
    go_wp2
    go_ret
    exact ⟨rfl, rfl⟩
  · by_cases h8 : (8 : Int) < (ns.length : Int)
    · have e : Vec.right ns = false := by unfold Vec.right; simp; omega
      rw [e]
      clear e
      go_enter Try.func38, Try.ntmps38
      go_wp2
      go_ret
      exact ⟨rfl, rfl⟩
    · have e : Vec.right ns = ns.all Vec.okOne := by
        unfold Vec.right
        rw [decide_eq_true (by omega), Bool.and_true]
      rw [e]
      clear e
      go_enter Try.func38, Try.ntmps38
      go_wp2_with (go_at_call 57; refine (contains3_any _ ns _ HV.out).mono ?_; rintro e w' ⟨rfl, rfl⟩)
      go_ret
      exact ⟨by simp, rfl⟩

set_option maxRecDepth 100000 in
set_option maxHeartbeats 1000000 in
theorem oneKind_any (v u : Value) (ns ms : List Int) (w : World) (hv : Ints w v ns) (hu : Ints w u ms) :
    Calls Try.prog 54 #[v, u] w fun e w' => e = .returned (.bool (Vec.kind ns ms)) ∧ w = w' := by
  have HV := Lib.hid hv
  have HU := Lib.hid hu
  obtain ⟨a, cap, rfl, hcap, hmax, _, _⟩ := hv.open
  obtain ⟨a2, cap2, rfl, hcap2, hmax2, _, _⟩ := hu.open
  unfold maxLen at hmax hmax2
  clear hv hu
  by_cases h1 : ns.length = ms.length
  · have h1' : ((ns.length : Int) == (ms.length : Int)) = true := by rw [h1]; simp
    have HL := Lib.hid h1
    cases hr : Vec.right ns with
    | true =>
      have e : Vec.kind ns ms = Vec.right ms := by unfold Vec.kind; rw [hr, decide_eq_true h1]; simp
      rw [e]
      have HR := Lib.hid hr
      clear e hr h1
      go_enter Try.func54, Try.ntmps54
      go_wp2_with fail
      refine (right_any _ ns _ HV.out).mono ?_
      rintro e w1 ⟨rfl, rfl⟩
      rw [HR.out]
      go_wp2_with fail
      refine (right_any _ ms _ HU.out).mono ?_
      rintro e w1 ⟨rfl, rfl⟩
      go_wp2_with fail
      go_ret
      exact ⟨rfl, rfl⟩
    | false =>
      have e : Vec.kind ns ms = false := by unfold Vec.kind; rw [hr]; simp
      rw [e]
      have HR := Lib.hid hr
      clear e hr h1
      go_enter Try.func54, Try.ntmps54
      go_wp2_with fail
      refine (right_any _ ns _ HV.out).mono ?_
      rintro e w1 ⟨rfl, rfl⟩
      rw [HR.out]
      go_wp2_with fail
      go_ret
      exact ⟨rfl, rfl⟩
  · have e : Vec.kind ns ms = false := by unfold Vec.kind; rw [decide_eq_false h1]; simp
    rw [e]
    have h1' : ((ns.length : Int) == (ms.length : Int)) = false := by rw [beq_eq_false_iff_ne]; omega
    have HL := Lib.hid h1
    clear h1 e
    go_enter Try.func54, Try.ntmps54
    go_wp2
    go_ret
    exact ⟨rfl, rfl⟩

set_option maxRecDepth 100000 in
set_option maxHeartbeats 1000000 in
theorem refRight_any (v : Value) (ns : List Int) (w : World) (hv : Ints w v ns) :
    Calls Try.prog 39 #[v] w fun e w' => e = .returned (.bool (Vec.right ns)) ∧ w = w' := by
  obtain ⟨a, cap, rfl, hcap, hmax, _, hc⟩ := hv.open
  unfold maxLen at hmax
  go_enter Try.func39, Try.ntmps39
  go_wp2
  go_loop [3] (fun i => ∃ k : Nat, k ≤ ns.length ∧ i = .int .i64 k ∧ Hid ((ns.take k).all Vec.okOne = true)) (fun i => ns.length - (intOf i).toNat)
  case atStart => exact ⟨0, by omega, rfl, by simp [Hid]⟩
  case round =>
    obtain ⟨k, hk, rfl, hr⟩ := hrel
    by_cases hlt : k < ns.length
    · obtain ⟨b, off, rfl, hcell⟩ := hc k hlt
      clear hc
      have bad : Vec.okOne ns[k] = false → Vec.right ns = false := by
        intro h
        have : ns.all Vec.okOne = false := by
          rw [List.all_eq_false]
          exact ⟨ns[k], List.getElem_mem _, by rw [h]; simp⟩
        unfold Vec.right
        rw [this]
        rfl
      by_cases h0 : ns[k] < 0
      · have e := Lib.hid (bad (by unfold Vec.okOne; simp; omega))
        clear bad
        go_wp2
        go_ret
        exact ⟨by rw [e.out]; rfl, rfl⟩
      · by_cases h1 : (1099511627776 : Int) < ns[k]
        · have e := Lib.hid (bad (by unfold Vec.okOne; simp; omega))
          clear bad
          go_wp2
          go_ret
          exact ⟨by rw [e.out]; rfl, rfl⟩
        · have ok := Lib.hid (show Vec.okOne ns[k] = true by unfold Vec.okOne; simp; omega)
          clear bad
          go_wp2
          go_round
          case rel => exact ⟨k + 1, by omega, by go_num, by unfold Hid; rw [take_succ_getD ns k hlt, List.all_append, hr.out]; simp [ok.out]⟩
          case measure => simp [intOf]; omega
    · have hs : Hid (ns.all Vec.okOne = true) := by
        have := hr.out; rw [List.take_of_length_le (by omega)] at this; exact this
      clear hr hc
      by_cases g1 : (0 : Int) < (ns.length : Int)
      · by_cases g9 : (ns.length : Int) < 9
        · have e := Lib.hid (show Vec.right ns = true by unfold Vec.right; rw [hs.out]; simp; omega)
          go_wp2
          go_ret
          exact ⟨by rw [e.out]; rfl, rfl⟩
        · have e := Lib.hid (show Vec.right ns = false by unfold Vec.right; simp; omega)
          go_wp2
          go_ret
          exact ⟨by rw [e.out]; rfl, rfl⟩
      · have e := Lib.hid (show Vec.right ns = false by unfold Vec.right; simp; omega)
        go_wp2
        go_ret
        exact ⟨by rw [e.out]; rfl, rfl⟩

set_option maxRecDepth 100000 in
set_option maxHeartbeats 1000000 in
theorem refKind_any (v u : Value) (ns ms : List Int) (w : World) (hv : Ints w v ns) (hu : Ints w u ms) :
    Calls Try.prog 75 #[v, u] w fun e w' => e = .returned (.bool (Vec.kind ns ms)) ∧ w = w' := by
  have HV := Lib.hid hv
  have HU := Lib.hid hu
  obtain ⟨a, cap, rfl, hcap, hmax, _, _⟩ := hv.open
  obtain ⟨a2, cap2, rfl, hcap2, hmax2, _, _⟩ := hu.open
  unfold maxLen at hmax hmax2
  clear hv hu
  cases hr : Vec.right ns with
  | true =>
    have HR := Lib.hid hr
    cases hs : Vec.right ms with
    | true =>
      have HS := Lib.hid hs
      have e : Vec.kind ns ms = ((ns.length : Int) == (ms.length : Int)) := by
        unfold Vec.kind; rw [hr, hs]
        rw [Bool.eq_iff_iff]
        simp
        constructor <;> intro h <;> omega
      rw [e]
      clear e hr hs
      go_enter Try.func75, Try.ntmps75
      go_wp2_with fail
      refine (refRight_any _ ns _ HV.out).mono ?_
      rintro e w1 ⟨rfl, rfl⟩
      rw [HR.out]
      go_wp2_with fail
      refine (refRight_any _ ms _ HU.out).mono ?_
      rintro e w1 ⟨rfl, rfl⟩
      rw [HS.out]
      go_wp2_with fail
      go_ret
      exact ⟨rfl, rfl⟩
    | false =>
      have HS := Lib.hid hs
      have e : Vec.kind ns ms = false := by unfold Vec.kind; rw [hs]; simp
      rw [e]
      clear e hr hs
      go_enter Try.func75, Try.ntmps75
      go_wp2_with fail
      refine (refRight_any _ ns _ HV.out).mono ?_
      rintro e w1 ⟨rfl, rfl⟩
      rw [HR.out]
      go_wp2_with fail
      refine (refRight_any _ ms _ HU.out).mono ?_
      rintro e w1 ⟨rfl, rfl⟩
      rw [HS.out]
      go_wp2_with fail
      go_ret
      exact ⟨rfl, rfl⟩
  | false =>
    have e : Vec.kind ns ms = false := by unfold Vec.kind; rw [hr]; simp
    rw [e]
    have HR := Lib.hid hr
    clear e hr
    go_enter Try.func75, Try.ntmps75
    go_wp2_with fail
    refine (refRight_any _ ns _ HV.out).mono ?_
    rintro e w1 ⟨rfl, rfl⟩
    rw [HR.out]
    go_wp2_with fail
    go_ret
    exact ⟨rfl, rfl⟩

/-- A row of numbers of the call's own. -/
def OwnI (w : World) (base : Nat) (v : Value) (l : List Int) : Prop := w.ownsRow base 3 1 v l.length (i64s l)
theorem OwnI.ints {w : World} {base : Nat} {v : Value} {l : List Int} (h : OwnI w base v l) : Ints w v l := Sl.ofOwn h
theorem OwnI.nil (w : World) (base : Nat) : OwnI w base (.slice none 0 0) [] := World.ownsRow_nil _ _ _ _
/-- A call that hands back an own row of numbers. -/
def GivesOwnI (base : Nat) (w : World) (l : List Int) (e : Ending) (w' : World) : Prop := ∃ u, e = .returned u ∧ OwnI w' base u l ∧ Below base w w'
/-- A call that hands back numbers and a word, and leaves all as it was. -/
def GivesInts (w : World) (l : List Int) (is : Bool) (e : Ending) (w' : World) : Prop := ∃ u, e = .returned (.tuple #[u, .bool is]) ∧ Ints w' u l ∧ Ext w w'

/-- These, or none. -/
def orNone : Bool → List Int → List Int
  | true, l => l
  | false, _ => []
@[simp] theorem orNone_true (l : List Int) : orNone true l = l := rfl
@[simp] theorem orNone_false (l : List Int) : orNone false l = [] := rfl

/-- How many zeros. -/
def zeros (n : Int) : List Int := if 1 ≤ n ∧ n ≤ 8 then List.replicate n.toNat 0 else []
theorem made_zeros (m : Nat) : (madeCells (Value.int .i64 0).cells (m * 1)).toList = i64s (List.replicate m 0) := by
  rw [Nat.mul_one, show (Value.int .i64 0).cells = #[Value.int .i64 0] from rfl, toList_madeCells_one]
  simp [i64s]
set_option maxRecDepth 100000 in
set_option maxHeartbeats 1000000 in
theorem zero_any (n : Int) (w : World) : Calls Try.prog 52 #[.int .i64 n] w (GivesOwnI w.heap.size w (zeros n)) := by
  by_cases h1 : n < 1
  · have e : zeros n = [] := by unfold zeros; rw [if_neg (by omega)]
    rw [e]
    clear e
    go_enter Try.func52, Try.ntmps52
    go_wp2
    go_ret
    exact ⟨_, rfl, OwnI.nil _ _, Below.refl _ _⟩
  · by_cases h8 : (8 : Int) < n
    · have e : zeros n = [] := by unfold zeros; rw [if_neg (by omega)]
      rw [e]
      clear e
      go_enter Try.func52, Try.ntmps52
      go_wp2
      go_ret
      exact ⟨_, rfl, OwnI.nil _ _, Below.refl _ _⟩
    · obtain ⟨m, rfl⟩ : ∃ m : Nat, n = (m : Int) := ⟨n.toNat, by omega⟩
      have e : zeros (m : Int) = List.replicate m 0 := by unfold zeros; rw [if_pos (by omega)]; simp
      rw [e]
      clear e
      have hm : m ≤ 9223372036854775807 := by omega
      have hm2 : 8 * m ≤ 281474976710656 := by omega
      go_enter Try.func52, Try.ntmps52
      go_wp2_with (refine wpList_mkfull rfl (.tmp 9) (.tmp 9) tI rfl w.heap.size m rfl rfl hm2 (by unfold maxLen; omega) (Nat.le_refl _) ?_; intro w1 hown1 hg1)
      go_ret
      exact ⟨_, rfl, by rw [made_zeros] at hown1; simpa [OwnI] using hown1, (Below.refl _ w).grown hg1 (Nat.le_refl _) (fun k hk => by cases hk)⟩
end Go.Proofs.Ytboopfbflfimlaa
