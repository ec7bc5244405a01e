/-
  Merged: Layer 3, the program: what asks whether rows of numbers are vectors; Layer 3, the program: what compares rows of numbers, and adds them up; Rows of numbers of the call's own: what stage 3's later texts share; Layer 3, the program: a vector as bytes; Layer 3: bytes as a vector: mathematics, the program; Layer 3, mathematics: what was written as a vector is read as it was; Layer 3: a vector as bytes, and bytes as a vector: the document's own answers; Rows of rows of numbers, all of the call's own; The library's slices; Layer 3, the program: rows of rows of numbers, and the iterator that goes through the numbers of one shard; Layer 3, mathematics: the number that stands so far from the end of a sorted row is what so many have; Layer 3, the program: what so many have; What comes in, as rows of numbers.
-/
import Derived.Laws.OwnMore
import Derived.Lib.ConvBytes
import Derived.RangeFuncNested
import Derived.RangeFuncBound
import Derived.RangeFuncCalls
import Derived.RangeFuncLeaves
import Derived.RangeFuncBox
import Derived.Shelf.Abstract
import Derived.OwnWalkIn
import Derived.TacticsInMore
import Derived.LoopNIn
import Derived.LoopIn
import Derived.Sort.OwnSortedInts
import Derived.Shelf.SortM.SortNone
import Derived.Maps.AppendAt
import Derived.Test.YtnoeconcpgdjlaaSortI
import Derived.Test.YtnoeconcpgdjlaaBsLib
import Derived.Test.YtnoeconcpgdjlaaBsMath
import Derived.Test.YtnoeconcpgdjlaaBsPack

set_option linter.unusedSimpArgs false
set_option linter.unusedVariables false

namespace Go.Proofs.Ytnoeconcpgdjlaa
open Go.RowKit
/- Layer 3, the program: what asks whether rows of numbers are vectors. -/
theorem tI : ElemOf Try.prog 22 3 (.int .i64 0) 8 := ⟨Try.underlying22, by kernel_rfl, rfl⟩
theorem i64s_one (l : List Int) : ∀ y ∈ i64s l, y.oneCell' = true := by
  intro y hy
  obtain ⟨_, _, rfl⟩ := List.mem_map.1 hy
  rfl
@[simp] theorem i64s_append (l m : List Int) : i64s (l ++ m) = i64s l ++ i64s m := by simp [i64s]
theorem Ints.isSlice {w : World} {v : Value} {l : List Int} (h : Ints w v l) : ∃ a n c, v = .slice a n c := by
  obtain ⟨a, cap, rfl, _⟩ := h.open
  exact ⟨_, _, _, rfl⟩
theorem Ints.len {w : World} {a : Option Addr} {n c : Nat} {l : List Int} (h : Ints w (.slice a n c) l) : n = l.length ∧ n ≤ c ∧ c ≤ 9223372036854775807 := by
  obtain ⟨_, _, e, h1, h2, _⟩ := h.open
  injection e with e1 e2 e3
  subst e3
  unfold maxLen at h2
  omega
theorem Ints.inj {w : World} {v : Value} {l m : List Int} (h : Ints w v l) (k : Ints w v m) : l = m := by
  obtain ⟨a, cap, rfl, h1, h2, _, h3⟩ := h.open
  obtain ⟨a', cap', e, k1, k2, _, k3⟩ := k.open
  injection e with e1 e2 e3
  subst e1 e3
  refine List.ext_getElem e2 fun i hi hi' => ?_
  obtain ⟨b, off, rfl, hc⟩ := h3 i hi
  obtain ⟨b', off', e', hc'⟩ := k3 i hi'
  injection e' with e'; injection e' with e4 e5
  subst e4 e5
  rw [hc] at hc'
  injection hc' with hc'; injection hc' with _ hc'
theorem ints_none (w : World) : Ints w (.slice none 0 0) [] := ⟨none, 0, rfl, Nat.le_refl _, by simp [maxLen], fun _ => rfl, fun i hi => absurd hi (by simp [i64s])⟩

set_option maxRecDepth 100000 in
set_option maxHeartbeats 1000000 in
theorem isCount_any (n : Int) (w : World) : Calls Try.prog 89 #[.int .i64 n] w fun e w' => e = .returned (.bool (Vec.okOne n)) ∧ w = w' := by
  by_cases h0 : 0 ≤ n
  · by_cases h1 : n ≤ 1099511627776
    · have e : Vec.okOne n = true := by unfold Vec.okOne; simp; omega
      rw [e]
      clear e
      go_enter Try.func89, Try.ntmps89
      go_wp2
      go_ret
      exact ⟨rfl, rfl⟩
    · have e : Vec.okOne n = false := by unfold Vec.okOne; simp; omega
      rw [e]
      clear e
      go_enter Try.func89, Try.ntmps89
      go_wp2
      go_ret
      exact ⟨rfl, rfl⟩
  · have e : Vec.okOne n = false := by unfold Vec.okOne; simp; omega
    rw [e]
    clear e
    go_enter Try.func89, Try.ntmps89
    go_wp2
    go_ret
    exact ⟨rfl, rfl⟩

set_option maxRecDepth 100000 in
set_option maxHeartbeats 1000000 in
theorem wrongOne_any (n : Int) (w : World) : Calls Try.prog 88 #[.int .i64 n] w fun e w' => e = .returned (.bool (!Vec.okOne n)) ∧ w = w' := by
  go_enter Try.func88, Try.ntmps88
  go_wp2_with (go_at_call 89; refine (isCount_any n _).mono ?_; rintro e w' ⟨rfl, rfl⟩)
  go_ret
  exact ⟨rfl, rfl⟩

set_option maxRecDepth 100000 in
set_option maxHeartbeats 1000000 in
theorem index3_any (v : Value) (ns : List Int) (w : World) (hv : Ints w v ns) :
    Calls Try.prog 101 #[v, .func (.func 88) #[] #[]] w fun e w' => (∃ i : Int, e = .returned (.int .i64 i) ∧ (decide (0 ≤ i)) = !(ns.all Vec.okOne)) ∧ w = w' := by
  obtain ⟨a, cap, rfl, hcap, hmax, _, hc⟩ := hv.open
  unfold maxLen at hmax
  go_enter Try.func101, Try.ntmps101
  go_wp2
  go_loop [5, 8] (fun _ i => ∃ k : Nat, k ≤ ns.length ∧ i = .int .i64 k ∧ Hid ((ns.take k).all Vec.okOne = true)) (fun _ i => ns.length - (intOf i).toNat)
  case atStart => exact ⟨0, by omega, rfl, by simp [Hid]⟩
  case round =>
    obtain ⟨k, hk, rfl, hr⟩ := hrel
    by_cases hlt : k < ns.length
    · obtain ⟨b, off, rfl, hcell⟩ := hc k hlt
      clear hc
      cases hb : Vec.okOne ns[k] with
      | true =>
        have HB := Lib.hid hb
        clear hb
        go_wp2_with (go_at_call 88; refine (wrongOne_any ns[k] _).mono ?_; rintro e w' ⟨rfl, rfl⟩; rw [HB.out])
        go_round
        case rel => exact ⟨k + 1, by omega, by go_num, by unfold Hid; rw [take_succ_getD ns k hlt, List.all_append, hr.out]; simp [HB.out]⟩
        case measure => simp [intOf]; omega
      | false =>
        have HB := Lib.hid hb
        clear hb
        go_wp2_with (go_at_call 88; refine (wrongOne_any ns[k] _).mono ?_; rintro e w' ⟨rfl, rfl⟩; rw [HB.out])
        go_ret
        refine ⟨⟨k, rfl, ?_⟩, rfl⟩
        have : ns.all Vec.okOne = false := by
          rw [List.all_eq_false]
          exact ⟨ns[k], List.getElem_mem _, by rw [HB.out]; simp⟩
        rw [this]
        simp
    · have hs : Hid (ns.all Vec.okOne = true) := by
        have := hr.out; rw [List.take_of_length_le (by omega)] at this; exact this
      clear hr hc
      go_wp2
      go_ret
      exact ⟨⟨-1, rfl, by rw [hs.out]; simp⟩, rfl⟩

set_option maxRecDepth 100000 in
set_option maxHeartbeats 1000000 in
theorem contains3_any (v : Value) (ns : List Int) (w : World) (hv : Ints w v ns) :
    Calls Try.prog 87 #[v, .func (.func 88) #[] #[]] w fun e w' => e = .returned (.bool (!(ns.all Vec.okOne))) ∧ w = w' := by
  go_enter Try.func87, Try.ntmps87
  go_wp2_with (go_at_call 101; refine (index3_any v ns _ hv).mono ?_; rintro e w' ⟨⟨i, rfl, hi⟩, rfl⟩)
  go_ret
  exact ⟨by rw [← hi]; rfl, rfl⟩

set_option maxRecDepth 100000 in
set_option maxHeartbeats 1000000 in
theorem right_any (v : Value) (ns : List Int) (w : World) (hv : Ints w v ns) :
    Calls Try.prog 77 #[v] w fun e w' => e = .returned (.bool (Vec.right ns)) ∧ w = w' := by
  have HV := Lib.hid hv
  obtain ⟨a, cap, rfl, hcap, hmax, _, _⟩ := hv.open
  unfold maxLen at hmax
  clear hv
  by_cases h1 : (ns.length : Int) < 1
  · have e : Vec.right ns = false := by unfold Vec.right; simp; omega
    rw [e]
    clear e
    go_enter Try.func77, Try.ntmps77
    go_wp2
    go_ret
    exact ⟨rfl, rfl⟩
  · by_cases h8 : (8 : Int) < (ns.length : Int)
    · have e : Vec.right ns = false := by unfold Vec.right; simp; omega
      rw [e]
      clear e
      go_enter Try.func77, Try.ntmps77
      go_wp2
      go_ret
      exact ⟨rfl, rfl⟩
    · have e : Vec.right ns = ns.all Vec.okOne := by
        unfold Vec.right
        rw [decide_eq_true (by omega), Bool.and_true]
      rw [e]
      clear e
      go_enter Try.func77, Try.ntmps77
      go_wp2_with (go_at_call 87; refine (contains3_any _ ns _ HV.out).mono ?_; rintro e w' ⟨rfl, rfl⟩)
      go_ret
      exact ⟨by simp, rfl⟩

set_option maxRecDepth 100000 in
set_option maxHeartbeats 1000000 in
theorem oneKind_any (v u : Value) (ns ms : List Int) (w : World) (hv : Ints w v ns) (hu : Ints w u ms) :
    Calls Try.prog 61 #[v, u] w fun e w' => e = .returned (.bool (Vec.kind ns ms)) ∧ w = w' := by
  have HV := Lib.hid hv
  have HU := Lib.hid hu
  obtain ⟨a, cap, rfl, hcap, hmax, _, _⟩ := hv.open
  obtain ⟨a2, cap2, rfl, hcap2, hmax2, _, _⟩ := hu.open
  unfold maxLen at hmax hmax2
  clear hv hu
  by_cases h1 : ns.length = ms.length
  · have h1' : ((ns.length : Int) == (ms.length : Int)) = true := by rw [h1]; simp
    have HL := Lib.hid h1
    cases hr : Vec.right ns with
    | true =>
      have e : Vec.kind ns ms = Vec.right ms := by unfold Vec.kind; rw [hr, decide_eq_true h1]; simp
      rw [e]
      have HR := Lib.hid hr
      clear e hr h1
      go_enter Try.func61, Try.ntmps61
      go_wp2_with fail
      refine (right_any _ ns _ HV.out).mono ?_
      rintro e w1 ⟨rfl, rfl⟩
      rw [HR.out]
      go_wp2_with fail
      refine (right_any _ ms _ HU.out).mono ?_
      rintro e w1 ⟨rfl, rfl⟩
      go_wp2_with fail
      go_ret
      exact ⟨rfl, rfl⟩
    | false =>
      have e : Vec.kind ns ms = false := by unfold Vec.kind; rw [hr]; simp
      rw [e]
      have HR := Lib.hid hr
      clear e hr h1
      go_enter Try.func61, Try.ntmps61
      go_wp2_with fail
      refine (right_any _ ns _ HV.out).mono ?_
      rintro e w1 ⟨rfl, rfl⟩
      rw [HR.out]
      go_wp2_with fail
      go_ret
      exact ⟨rfl, rfl⟩
  · have e : Vec.kind ns ms = false := by unfold Vec.kind; rw [decide_eq_false h1]; simp
    rw [e]
    have h1' : ((ns.length : Int) == (ms.length : Int)) = false := by rw [beq_eq_false_iff_ne]; omega
    have HL := Lib.hid h1
    clear h1 e
    go_enter Try.func61, Try.ntmps61
    go_wp2
    go_ret
    exact ⟨rfl, rfl⟩

set_option maxRecDepth 100000 in
set_option maxHeartbeats 1000000 in
theorem refRight_any (v : Value) (ns : List Int) (w : World) (hv : Ints w v ns) :
    Calls Try.prog 85 #[v] w fun e w' => e = .returned (.bool (Vec.right ns)) ∧ w = w' := by
  obtain ⟨a, cap, rfl, hcap, hmax, _, hc⟩ := hv.open
  unfold maxLen at hmax
  go_enter Try.func85, Try.ntmps85
  go_wp2
  go_loop [3] (fun i => ∃ k : Nat, k ≤ ns.length ∧ i = .int .i64 k ∧ Hid ((ns.take k).all Vec.okOne = true)) (fun i => ns.length - (intOf i).toNat)
  case atStart => exact ⟨0, by omega, rfl, by simp [Hid]⟩
  case round =>
    obtain ⟨k, hk, rfl, hr⟩ := hrel
    by_cases hlt : k < ns.length
    · obtain ⟨b, off, rfl, hcell⟩ := hc k hlt
      clear hc
      have bad : Vec.okOne ns[k] = false → Vec.right ns = false := by
        intro h
        have : ns.all Vec.okOne = false := by
          rw [List.all_eq_false]
          exact ⟨ns[k], List.getElem_mem _, by rw [h]; simp⟩
        unfold Vec.right
        rw [this]
        rfl
      by_cases h0 : ns[k] < 0
      · have e := Lib.hid (bad (by unfold Vec.okOne; simp; omega))
        clear bad
        go_wp2
        go_ret
        exact ⟨by rw [e.out]; rfl, rfl⟩
      · by_cases h1 : (1099511627776 : Int) < ns[k]
        · have e := Lib.hid (bad (by unfold Vec.okOne; simp; omega))
          clear bad
          go_wp2
          go_ret
          exact ⟨by rw [e.out]; rfl, rfl⟩
        · have ok := Lib.hid (show Vec.okOne ns[k] = true by unfold Vec.okOne; simp; omega)
          clear bad
          go_wp2
          go_round
          case rel => exact ⟨k + 1, by omega, by go_num, by unfold Hid; rw [take_succ_getD ns k hlt, List.all_append, hr.out]; simp [ok.out]⟩
          case measure => simp [intOf]; omega
    · have hs : Hid (ns.all Vec.okOne = true) := by
        have := hr.out; rw [List.take_of_length_le (by omega)] at this; exact this
      clear hr hc
      by_cases g1 : (0 : Int) < (ns.length : Int)
      · by_cases g9 : (ns.length : Int) < 9
        · have e := Lib.hid (show Vec.right ns = true by unfold Vec.right; rw [hs.out]; simp; omega)
          go_wp2
          go_ret
          exact ⟨by rw [e.out]; rfl, rfl⟩
        · have e := Lib.hid (show Vec.right ns = false by unfold Vec.right; simp; omega)
          go_wp2
          go_ret
          exact ⟨by rw [e.out]; rfl, rfl⟩
      · have e := Lib.hid (show Vec.right ns = false by unfold Vec.right; simp; omega)
        go_wp2
        go_ret
        exact ⟨by rw [e.out]; rfl, rfl⟩

set_option maxRecDepth 100000 in
set_option maxHeartbeats 1000000 in
theorem refKind_any (v u : Value) (ns ms : List Int) (w : World) (hv : Ints w v ns) (hu : Ints w u ms) :
    Calls Try.prog 86 #[v, u] w fun e w' => e = .returned (.bool (Vec.kind ns ms)) ∧ w = w' := by
  have HV := Lib.hid hv
  have HU := Lib.hid hu
  obtain ⟨a, cap, rfl, hcap, hmax, _, _⟩ := hv.open
  obtain ⟨a2, cap2, rfl, hcap2, hmax2, _, _⟩ := hu.open
  unfold maxLen at hmax hmax2
  clear hv hu
  cases hr : Vec.right ns with
  | true =>
    have HR := Lib.hid hr
    cases hs : Vec.right ms with
    | true =>
      have HS := Lib.hid hs
      have e : Vec.kind ns ms = ((ns.length : Int) == (ms.length : Int)) := by
        unfold Vec.kind; rw [hr, hs]
        rw [Bool.eq_iff_iff]
        simp
        constructor <;> intro h <;> omega
      rw [e]
      clear e hr hs
      go_enter Try.func86, Try.ntmps86
      go_wp2_with fail
      refine (refRight_any _ ns _ HV.out).mono ?_
      rintro e w1 ⟨rfl, rfl⟩
      rw [HR.out]
      go_wp2_with fail
      refine (refRight_any _ ms _ HU.out).mono ?_
      rintro e w1 ⟨rfl, rfl⟩
      rw [HS.out]
      go_wp2_with fail
      go_ret
      exact ⟨rfl, rfl⟩
    | false =>
      have HS := Lib.hid hs
      have e : Vec.kind ns ms = false := by unfold Vec.kind; rw [hs]; simp
      rw [e]
      clear e hr hs
      go_enter Try.func86, Try.ntmps86
      go_wp2_with fail
      refine (refRight_any _ ns _ HV.out).mono ?_
      rintro e w1 ⟨rfl, rfl⟩
      rw [HR.out]
      go_wp2_with fail
      refine (refRight_any _ ms _ HU.out).mono ?_
      rintro e w1 ⟨rfl, rfl⟩
      rw [HS.out]
      go_wp2_with fail
      go_ret
      exact ⟨rfl, rfl⟩
  | false =>
    have e : Vec.kind ns ms = false := by unfold Vec.kind; rw [hr]; simp
    rw [e]
    have HR := Lib.hid hr
    clear e hr
    go_enter Try.func86, Try.ntmps86
    go_wp2_with fail
    refine (refRight_any _ ns _ HV.out).mono ?_
    rintro e w1 ⟨rfl, rfl⟩
    rw [HR.out]
    go_wp2_with fail
    go_ret
    exact ⟨rfl, rfl⟩

/-- A row of numbers of the call's own. -/
def OwnI (w : World) (base : Nat) (v : Value) (l : List Int) : Prop := w.ownsRow base 3 1 v l.length (i64s l)
theorem OwnI.ints {w : World} {base : Nat} {v : Value} {l : List Int} (h : OwnI w base v l) : Ints w v l := Sl.ofOwn h
theorem OwnI.nil (w : World) (base : Nat) : OwnI w base (.slice none 0 0) [] := World.ownsRow_nil _ _ _ _
/-- A call that hands back an own row of numbers. -/
def GivesOwnI (base : Nat) (w : World) (l : List Int) (e : Ending) (w' : World) : Prop := ∃ u, e = .returned u ∧ OwnI w' base u l ∧ Below base w w'
/-- A call that hands back numbers and a word, and leaves all as it was. -/
def GivesInts (w : World) (l : List Int) (is : Bool) (e : Ending) (w' : World) : Prop := ∃ u, e = .returned (.tuple #[u, .bool is]) ∧ Ints w' u l ∧ Ext w w'

/-- These, or none. -/
def orNone : Bool → List Int → List Int
  | true, l => l
  | false, _ => []
@[simp] theorem orNone_true (l : List Int) : orNone true l = l := rfl
@[simp] theorem orNone_false (l : List Int) : orNone false l = [] := rfl

/-- How many zeros. -/
def zeros (n : Int) : List Int := if 1 ≤ n ∧ n ≤ 8 then List.replicate n.toNat 0 else []
theorem made_zeros (m : Nat) : (madeCells (Value.int .i64 0).cells (m * 1)).toList = i64s (List.replicate m 0) := by
  rw [Nat.mul_one, show (Value.int .i64 0).cells = #[Value.int .i64 0] from rfl, toList_madeCells_one]
  simp [i64s]
set_option maxRecDepth 100000 in
set_option maxHeartbeats 1000000 in
theorem zero_any (n : Int) (w : World) : Calls Try.prog 62 #[.int .i64 n] w (GivesOwnI w.heap.size w (zeros n)) := by
  by_cases h1 : n < 1
  · have e : zeros n = [] := by unfold zeros; rw [if_neg (by omega)]
    rw [e]
    clear e
    go_enter Try.func62, Try.ntmps62
    go_wp2
    go_ret
    exact ⟨_, rfl, OwnI.nil _ _, Below.refl _ _⟩
  · by_cases h8 : (8 : Int) < n
    · have e : zeros n = [] := by unfold zeros; rw [if_neg (by omega)]
      rw [e]
      clear e
      go_enter Try.func62, Try.ntmps62
      go_wp2
      go_ret
      exact ⟨_, rfl, OwnI.nil _ _, Below.refl _ _⟩
    · obtain ⟨m, rfl⟩ : ∃ m : Nat, n = (m : Int) := ⟨n.toNat, by omega⟩
      have e : zeros (m : Int) = List.replicate m 0 := by unfold zeros; rw [if_pos (by omega)]; simp
      rw [e]
      clear e
      have hm : m ≤ 9223372036854775807 := by omega
      have hm2 : 8 * m ≤ 281474976710656 := by omega
      go_enter Try.func62, Try.ntmps62
      go_wp2_with (refine wpList_mkfull rfl (.tmp 9) (.tmp 9) tI rfl w.heap.size m rfl rfl hm2 (by unfold maxLen; omega) (Nat.le_refl _) ?_; intro w1 hown1 hg1)
      go_ret
      exact ⟨_, rfl, by rw [made_zeros] at hown1; simpa [OwnI] using hown1, (Below.refl _ w).grown hg1 (Nat.le_refl _) (fun k hk => by cases hk)⟩
/- Layer 3, the program: what compares rows of numbers, and adds them up. -/
theorem Vec.ge_none {a b : List Int} (hl : a.length = b.length) (k : Nat) (hk : k < a.length) (hb : k < b.length) (h : a[k] < b[k]) : Vec.ge a b = false := by
  rw [← Bool.not_eq_true, Vec.ge_iff a b hl]
  intro g
  have := g k hk hb
  omega
theorem Vec.ge_all {a b : List Int} (hl : a.length = b.length) (h : ∀ i, i < a.length → ∀ (h1 : i < a.length) (h2 : i < b.length), b[i] ≤ a[i]) : Vec.ge a b = true := by
  rw [Vec.ge_iff a b hl]
  intro i h1 h2
  exact h i h1 h1 h2

set_option maxRecDepth 100000 in
set_option maxHeartbeats 1000000 in
theorem covers_any (v u : Value) (ns ms : List Int) (w : World) (hv : Ints w v ns) (hu : Ints w u ms) :
    Calls Try.prog 50 #[v, u] w fun e w' => e = .returned (.bool (Vec.covers ns ms)) ∧ w = w' := by
  have HV := Lib.hid hv
  have HU := Lib.hid hu
  obtain ⟨a, cap, rfl, hcap, hmax, _, hc⟩ := hv.open
  obtain ⟨a2, cap2, rfl, hcap2, hmax2, _, hc2⟩ := hu.open
  unfold maxLen at hmax hmax2
  clear hv hu
  cases hk : Vec.kind ns ms with
  | false =>
    have HK := Lib.hid hk
    have e : Vec.covers ns ms = false := by unfold Vec.covers; rw [hk]; rfl
    rw [e]
    clear e hk hc hc2
    go_enter Try.func50, Try.ntmps50
    go_wp2_with fail
    refine (oneKind_any _ _ ns ms _ HV.out HU.out).mono ?_
    rintro e w1 ⟨rfl, rfl⟩
    rw [HK.out]
    go_wp2_with fail
    go_ret
    exact ⟨rfl, rfl⟩
  | true =>
    have HK := Lib.hid hk
    have HC := Lib.hid hc
    have HC2 := Lib.hid hc2
    have HL := Lib.hid (Vec.kind_ok hk).2.2
    have e : Vec.covers ns ms = Vec.ge ns ms := by unfold Vec.covers; rw [hk]; rfl
    rw [e]
    clear e hk hc hc2
    go_enter Try.func50, Try.ntmps50
    go_wp2_with fail
    refine (oneKind_any _ _ ns ms _ HV.out HU.out).mono ?_
    rintro e w1 ⟨rfl, rfl⟩
    rw [HK.out]
    go_wp2_with fail
    go_loop [5, 6, 13] (fun _ _ i => ∃ k : Nat, k ≤ ns.length ∧ i = .int .i64 k ∧ Hid (∀ i, i < k → ∀ (h1 : i < ns.length) (h2 : i < ms.length), ms[i] ≤ ns[i])) (fun _ _ i => ns.length - (intOf i).toNat)
    case atStart => exact ⟨0, by omega, rfl, fun i hi => absurd hi (by omega)⟩
    case round =>
      obtain ⟨k, hk, rfl, hr⟩ := hrel
      by_cases hlt : k < ns.length
      · have hlt2 : k < ms.length := by have := HL.out; omega
        obtain ⟨b, off, rfl, hcell⟩ := HC.out k hlt
        obtain ⟨b2, off2, rfl, hcell2⟩ := HC2.out k hlt2
        by_cases h0 : ns[k] < ms[k]
        · go_wp2
          go_ret
          exact ⟨by rw [Vec.ge_none HL.out k hlt hlt2 h0]; rfl, rfl⟩
        · go_wp2
          go_round
          case rel =>
            refine ⟨k + 1, by omega, by go_num, fun i hi h1 h2 => ?_⟩
            rcases Nat.lt_or_ge i k with h | h
            · exact hr.out i h h1 h2
            · obtain rfl : i = k := by omega
              omega
          case measure => simp [intOf]; omega
      · have hs := Lib.hid (Vec.ge_all HL.out (fun i h => hr.out i (by omega)))
        clear hr
        go_wp2
        go_ret
        exact ⟨by rw [hs.out]; rfl, rfl⟩

set_option maxRecDepth 100000 in
set_option maxHeartbeats 1000000 in
theorem refCovers_any (v u : Value) (ns ms : List Int) (w : World) (hv : Ints w v ns) (hu : Ints w u ms) :
    Calls Try.prog 76 #[v, u] w fun e w' => e = .returned (.bool (Vec.covers ns ms)) ∧ Ext w w' := by
  have HV := Lib.hid hv
  have HU := Lib.hid hu
  obtain ⟨a, cap, rfl, hcap, hmax, _, hc⟩ := hv.open
  obtain ⟨a2, cap2, rfl, hcap2, hmax2, _, hc2⟩ := hu.open
  unfold maxLen at hmax hmax2
  clear hv hu
  cases hk : Vec.kind ns ms with
  | false =>
    have HK := Lib.hid hk
    have e : Vec.covers ns ms = false := by unfold Vec.covers; rw [hk]; rfl
    rw [e]
    clear e hk hc hc2
    go_enter Try.func76, Try.ntmps76
    go_wp2_with fail
    refine (refKind_any _ _ ns ms _ HV.out HU.out).mono ?_
    rintro e w1 ⟨rfl, rfl⟩
    rw [HK.out]
    go_wp2_with fail
    go_ret
    exact ⟨rfl, Ext.refl _⟩
  | true =>
    have HK := Lib.hid hk
    have HC := Lib.hid hc
    have HC2 := Lib.hid hc2
    have HL := Lib.hid (Vec.kind_ok hk).2.2
    have e : Vec.covers ns ms = Vec.ge ns ms := by unfold Vec.covers; rw [hk]; rfl
    rw [e]
    clear e hk hc hc2
    go_enter Try.func76, Try.ntmps76
    go_wp2_with fail
    refine (refKind_any _ _ ns ms _ HV.out HU.out).mono ?_
    rintro e w1 ⟨rfl, rfl⟩
    rw [HK.out]
    go_wp2_with fail
    go_loopw [5] (fun i wr => ∃ k : Nat, k ≤ ns.length ∧ i = .int .i64 k ∧ Hid (∀ i, i < k → ∀ (h1 : i < ns.length) (h2 : i < ms.length), ms[i] ≤ ns[i]) ∧ Ext w wr) (fun i _ => ns.length - (intOf i).toNat)
    case atStart => exact ⟨0, by omega, rfl, fun i hi => absurd hi (by omega), Ext.refl _⟩
    case round =>
      obtain ⟨k, hk, rfl, hr, hE⟩ := hrel
      by_cases hlt : k < ns.length
      · have hlt2 : k < ms.length := by have := HL.out; omega
        obtain ⟨a', cap', e', _, _, _, hc⟩ := ((HV.out.below hE).below (Ext.drew wr)).open
        obtain ⟨b, off, rfl, hcell⟩ := hc k hlt
        injection e' with e1 e2 e3
        subst e1
        obtain ⟨a3, cap3, e', _, _, _, hc2⟩ := ((HU.out.below hE).below (Ext.drew wr)).open
        obtain ⟨b2, off2, rfl, hcell2⟩ := hc2 k hlt2
        injection e' with e4 e5 e6
        subst e4
        clear hc hc2 e2 e3 e5 e6
        by_cases h0 : ns[k] < ms[k]
        · go_wp2_with fail
          go_region
          go_wp2
          go_ret
          exact ⟨by rw [Vec.ge_none HL.out k hlt hlt2 h0]; rfl, hE.trans (Ext.drew _)⟩
        · go_wp2_with fail
          go_region
          go_wp2
          go_roundw
          case rel =>
            refine ⟨k + 1, by omega, by go_num, fun i hi h1 h2 => ?_, hE.trans (Ext.drew _)⟩
            rcases Nat.lt_or_ge i k with h | h
            · exact hr.out i h h1 h2
            · obtain rfl : i = k := by omega
              omega
          case measure => simp [intOf]; omega
      · have hs := Lib.hid (Vec.ge_all HL.out (fun i h => hr.out i (by omega)))
        clear hr
        go_wp2
        go_ret
        exact ⟨by rw [hs.out]; rfl, hE⟩

theorem list_ne {a b : List Int} (k : Nat) (h1 : k < a.length) (h2 : k < b.length) (h : a[k] ≠ b[k]) : (a == b) = false := by
  rw [beq_eq_false_iff_ne]
  rintro rfl
  exact h rfl
theorem list_same {a b : List Int} (hl : a.length = b.length) (h : ∀ i, i < a.length → ∀ (h1 : i < a.length) (h2 : i < b.length), a[i] = b[i]) : (a == b) = true := by
  rw [beq_iff_eq]
  exact List.ext_getElem hl fun i h1 h2 => h i h1 h1 h2
theorem list_other {a b : List Int} (hl : ¬ a.length = b.length) : (a == b) = false := by
  rw [beq_eq_false_iff_ne]
  rintro rfl
  exact hl rfl

set_option maxRecDepth 100000 in
set_option maxHeartbeats 1000000 in
theorem equal3_any (v u : Value) (ns ms : List Int) (w : World) (hv : Ints w v ns) (hu : Ints w u ms) :
    Calls Try.prog 60 #[v, u] w fun e w' => e = .returned (.bool (ns == ms)) ∧ Ext w w' := by
  have HV := Lib.hid hv
  have HU := Lib.hid hu
  obtain ⟨a, cap, rfl, hcap, hmax, _, hc⟩ := hv.open
  obtain ⟨a2, cap2, rfl, hcap2, hmax2, _, hc2⟩ := hu.open
  unfold maxLen at hmax hmax2
  clear hv hu
  by_cases hl : ns.length = ms.length
  · have h1' : ((ns.length : Int) == (ms.length : Int)) = true := by rw [hl]; simp
    have HC := Lib.hid hc
    have HC2 := Lib.hid hc2
    have HL := Lib.hid hl
    clear hc hc2 hl
    go_enter Try.func60, Try.ntmps60
    go_wp2_with fail
    go_loopw [5] (fun i wr => ∃ k : Nat, k ≤ ns.length ∧ i = .int .i64 k ∧ Hid (∀ i, i < k → ∀ (h1 : i < ns.length) (h2 : i < ms.length), ns[i] = ms[i]) ∧ Ext w wr) (fun i _ => ns.length - (intOf i).toNat)
    case atStart => exact ⟨0, by omega, rfl, fun i hi => absurd hi (by omega), Ext.refl _⟩
    case round =>
      obtain ⟨k, hk, rfl, hr, hE⟩ := hrel
      by_cases hlt : k < ns.length
      · have hlt2 : k < ms.length := by have := HL.out; omega
        obtain ⟨a', cap', e', _, _, _, hc⟩ := ((HV.out.below hE).below (Ext.drew wr)).open
        obtain ⟨b, off, rfl, hcell⟩ := hc k hlt
        injection e' with e1 e2 e3
        subst e1
        obtain ⟨a3, cap3, e', _, _, _, hc2⟩ := ((HU.out.below hE).below (Ext.drew wr)).open
        obtain ⟨b2, off2, rfl, hcell2⟩ := hc2 k hlt2
        injection e' with e4 e5 e6
        subst e4
        clear hc hc2 e2 e3 e5 e6
        by_cases h0 : ns[k] = ms[k]
        · have h0' : (ns[k] == ms[k]) = true := by rw [h0]; simp
          have H0 := Lib.hid h0
          clear h0
          go_wp2_with fail
          go_region
          go_wp2
          go_roundw
          case rel =>
            refine ⟨k + 1, by omega, by go_num, fun i hi h1 h2 => ?_, hE.trans (Ext.drew _)⟩
            rcases Nat.lt_or_ge i k with h | h
            · exact hr.out i h h1 h2
            · obtain rfl : i = k := by omega
              exact H0.out
          case measure => simp [intOf]; omega
        · have h0' : (ns[k] == ms[k]) = false := by rw [beq_eq_false_iff_ne]; exact h0
          have H0 := Lib.hid (list_ne k hlt hlt2 h0)
          clear h0
          go_wp2_with fail
          go_region
          go_wp2
          go_ret
          exact ⟨by rw [H0.out]; rfl, hE.trans (Ext.drew _)⟩
      · have hs := Lib.hid (list_same HL.out (fun i h => hr.out i (by omega)))
        clear hr
        go_wp2
        go_ret
        exact ⟨by rw [hs.out]; rfl, hE⟩
  · have h1' : ((ns.length : Int) == (ms.length : Int)) = false := by rw [beq_eq_false_iff_ne]; omega
    have HL := Lib.hid (list_other hl)
    clear hc hc2 hl
    go_enter Try.func60, Try.ntmps60
    go_wp2
    go_ret
    exact ⟨by rw [HL.out]; rfl, Ext.refl _⟩

set_option maxRecDepth 100000 in
set_option maxHeartbeats 1000000 in
theorem equalS_any (v u : Value) (ns ms : List Int) (w : World) (hv : Ints w v ns) (hu : Ints w u ms) :
    Calls Try.prog 58 #[v, u] w fun e w' => e = .returned (.bool (ns == ms)) ∧ Ext w w' := by
  have HV := Lib.hid hv
  have HU := Lib.hid hu
  obtain ⟨a, cap, rfl, hcap, hmax, _, hc⟩ := hv.open
  obtain ⟨a2, cap2, rfl, hcap2, hmax2, _, hc2⟩ := hu.open
  unfold maxLen at hmax hmax2
  clear hv hu
  by_cases hl : ns.length = ms.length
  · have h1' : ((ns.length : Int) == (ms.length : Int)) = true := by rw [hl]; simp
    have HC := Lib.hid hc
    have HC2 := Lib.hid hc2
    have HL := Lib.hid hl
    clear hc hc2 hl
    go_enter Try.func58, Try.ntmps58
    go_wp2_with fail
    go_loopw [5, 13] (fun _ i wr => ∃ k : Nat, k ≤ ns.length ∧ i = .int .i64 k ∧ Hid (∀ i, i < k → ∀ (h1 : i < ns.length) (h2 : i < ms.length), ns[i] = ms[i]) ∧ Ext w wr) (fun _ i _ => ns.length - (intOf i).toNat)
    case atStart => exact ⟨0, by omega, rfl, fun i hi => absurd hi (by omega), Ext.refl _⟩
    case round =>
      obtain ⟨k, hk, rfl, hr, hE⟩ := hrel
      by_cases hlt : k < ns.length
      · have hlt2 : k < ms.length := by have := HL.out; omega
        obtain ⟨a', cap', e', _, _, _, hc⟩ := ((HV.out.below hE).below (Ext.drew wr)).open
        obtain ⟨b, off, rfl, hcell⟩ := hc k hlt
        injection e' with e1 e2 e3
        subst e1
        obtain ⟨a3, cap3, e', _, _, _, hc2⟩ := ((HU.out.below hE).below (Ext.drew wr)).open
        obtain ⟨b2, off2, rfl, hcell2⟩ := hc2 k hlt2
        injection e' with e4 e5 e6
        subst e4
        clear hc hc2 e2 e3 e5 e6
        by_cases h0 : ns[k] = ms[k]
        · have h0' : (ns[k] == ms[k]) = true := by rw [h0]; simp
          have H0 := Lib.hid h0
          clear h0
          go_wp2_with fail
          go_region
          go_wp2
          go_roundw
          case rel =>
            refine ⟨k + 1, by omega, by go_num, fun i hi h1 h2 => ?_, hE.trans (Ext.drew _)⟩
            rcases Nat.lt_or_ge i k with h | h
            · exact hr.out i h h1 h2
            · obtain rfl : i = k := by omega
              exact H0.out
          case measure => simp [intOf]; omega
        · have h0' : (ns[k] == ms[k]) = false := by rw [beq_eq_false_iff_ne]; exact h0
          have H0 := Lib.hid (list_ne k hlt hlt2 h0)
          clear h0
          go_wp2_with fail
          go_region
          go_wp2
          go_ret
          exact ⟨by rw [H0.out]; rfl, hE.trans (Ext.drew _)⟩
      · have hs := Lib.hid (list_same HL.out (fun i h => hr.out i (by omega)))
        clear hr
        go_wp2
        go_ret
        exact ⟨by rw [hs.out]; rfl, hE⟩
  · have h1' : ((ns.length : Int) == (ms.length : Int)) = false := by rw [beq_eq_false_iff_ne]; omega
    have HL := Lib.hid (list_other hl)
    clear hc hc2 hl
    go_enter Try.func58, Try.ntmps58
    go_wp2
    go_ret
    exact ⟨by rw [HL.out]; rfl, Ext.refl _⟩

theorem Vec.same_is (a b : List Int) : Vec.same a b = (Vec.kind a b && (a == b)) := by
  rw [Bool.eq_iff_iff, Bool.and_eq_true, beq_iff_eq]
  constructor
  · intro h
    refine ⟨?_, Vec.same_eq h⟩
    unfold Vec.same at h
    simp only [Bool.and_eq_true] at h
    exact Vec.covers_kind h.1
  · rintro ⟨h, rfl⟩
    exact Vec.same_self (Vec.kind_ok h).1

set_option maxRecDepth 100000 in
set_option maxHeartbeats 1000000 in
theorem same_any (v u : Value) (ns ms : List Int) (w : World) (hv : Ints w v ns) (hu : Ints w u ms) :
    Calls Try.prog 51 #[v, u] w fun e w' => e = .returned (.bool (Vec.same ns ms)) ∧ Ext w w' := by
  have HV := Lib.hid hv
  have HU := Lib.hid hu
  clear hv hu
  rw [Vec.same_is]
  cases hk : Vec.kind ns ms with
  | false =>
    have HK := Lib.hid hk
    clear hk
    go_enter Try.func51, Try.ntmps51
    go_wp2_with fail
    refine (oneKind_any _ _ ns ms _ HV.out HU.out).mono ?_
    rintro e w1 ⟨rfl, rfl⟩
    rw [HK.out]
    go_wp2_with fail
    go_ret
    exact ⟨rfl, Ext.refl _⟩
  | true =>
    have HK := Lib.hid hk
    clear hk
    go_enter Try.func51, Try.ntmps51
    go_wp2_with fail
    refine (oneKind_any _ _ ns ms _ HV.out HU.out).mono ?_
    rintro e w1 ⟨rfl, rfl⟩
    rw [HK.out]
    go_wp2_with fail
    refine (equalS_any _ _ ns ms _ HV.out HU.out).mono ?_
    rintro e w2 ⟨rfl, hE2⟩
    obtain ⟨bb, hbb⟩ : ∃ bb, (ns == ms) = bb := ⟨_, rfl⟩
    rw [hbb]
    have HB := Lib.hid hbb
    clear hbb
    go_wp2_with fail
    go_ret
    exact ⟨by rw [HB.out]; rfl, hE2⟩

/- Rows of numbers of the call's own: what stage 3's later texts share; no program. -/
theorem i64s_set2 (l : List Int) (k : Nat) (x : Int) : i64s (l.set k x) = (i64s l).set k (.int .i64 x) := by simp [i64s, List.map_set]
theorem Ext.grown {w w' : World} (h : Ext w w') : w.grownBy w' none := ⟨h.os, h.tape, h.output, h.size, fun k hk _ => h.block k hk⟩
theorem row_cells {w : World} {base e g n cap : Nat} {xs : List Value} (h : w.ownsRow base e 1 (.slice (some ⟨g, 0, none⟩) n cap) n xs) : ∃ cur, w.heap[g]? = some (.cells cur e (0, 0)) ∧ n ≤ cap ∧ cap ≤ maxLen ∧ cur.size = cap ∧ cur.toList.take n = xs := by
  obtain ⟨_, h0 | ⟨g', cap', cur, h1, h2, h3, h4, h5, h6, h7⟩⟩ := h
  · simp at h0
  · injection h1 with h1 _ h8
    injection h1 with h1
    injection h1 with h1
    subst h1 h8
    exact ⟨cur, h3, h4, h5, by simpa using h6, by simpa using h7⟩
/- Layer 3, the program: a vector as bytes. -/
/-- A vector's bytes. -/
def Vec.enc (v : List Int) : List UInt8 := Pack.num v.length ++ nums v
def bytesOr : Bool → List UInt8 → List UInt8
  | true, l => l
  | false, _ => []
@[simp] theorem bytesOr_true (l : List UInt8) : bytesOr true l = l := rfl
@[simp] theorem bytesOr_false (l : List UInt8) : bytesOr false l = [] := rfl
def formErr : Bool → Int
  | true => 0
  | false => 30
@[simp] theorem formErr_true : formErr true = 0 := rfl
@[simp] theorem formErr_false : formErr false = 30 := rfl
/- Layer 3: bytes as a vector: mathematics, the program. -/
/-- So many numbers, one behind the other. -/
def readsTo (s : Pack.St) : Nat → Pack.St × List Int
  | 0 => (s, [])
  | k + 1 => (((readsTo s k).1.num 1099511627776).1, (readsTo s k).2 ++ [(((readsTo s k).1.num 1099511627776).2 : Int)])
def decN (l : List UInt8) : Nat := (Pack.St.num ⟨l, 0⟩ 8).2
def decS (l : List UInt8) : Pack.St × List Int := readsTo (Pack.St.num ⟨l, 0⟩ 8).1 (decN l)
def decOk (l : List UInt8) : Bool := decide (1 ≤ decN l) && ((decS l).1.done == 0)
/-- What is there when k numbers are read. -/
def readRow (s : Pack.St) (m k : Nat) : List Int := (readsTo s k).2 ++ List.replicate (m - k) 0
def GivesDec (w : World) (l : List UInt8) (e : Ending) (w' : World) : Prop := ∃ u, e = .returned (.tuple #[u, .int .i64 (formErr (decOk l))]) ∧ Ints w' u (orNone (decOk l) (decS l).2) ∧ Ext w w'

/-- The same, and what is read is the call's own. -/
def GivesDecO (w : World) (l : List UInt8) (e : Ending) (w' : World) : Prop := ∃ u, e = .returned (.tuple #[u, .int .i64 (formErr (decOk l))]) ∧ w'.ownsRow w.heap.size 3 1 u (orNone (decOk l) (decS l).2).length (i64s (orNone (decOk l) (decS l).2)) ∧ Ext w w'
theorem GivesDecO.any {w w' : World} {l : List UInt8} {e : Ending} (h : GivesDecO w l e w') : GivesDec w l e w' := by
  obtain ⟨u, he, ho, hE⟩ := h
  exact ⟨u, he, Sl.ofOwn ho, hE⟩
/- Layer 3, mathematics: what was written as a vector is read as it was. -/
/- Layer 3: a vector as bytes, and bytes as a vector: the document's own answers. -/
set_option linter.unusedSimpArgs false
set_option linter.unusedVariables false
set_option maxRecDepth 100000
/- Rows of rows of numbers, all of the call's own. No function of the program. -/
theorem tRow : ElemOf Try.prog 23 22 (.slice none 0 0) 24 := ⟨Try.underlying23, by kernel_rfl, rfl⟩
theorem OwnI.ext {w w' : World} {base : Nat} {v : Value} {l : List Int} (h : OwnI w base v l) (hE : Ext w w') : OwnI w' base v l := rowExt h hE
theorem OwnI.lower {w : World} {base b : Nat} {v : Value} {l : List Int} (h : OwnI w base v l) (hb : b ≤ base) : OwnI w b v l := rowLower h hb
theorem OwnI.but {w w' : World} {base p : Nat} {v : Value} {l : List Int} {cs : Array Value} {t : TypeId} {fr : Nat × Nat} (h : OwnI w base v l) (hp : w.heap[p]? = some (.cells cs t fr)) (ht : t ≠ 3) (hB : But p w w') : OwnI w' base v l :=
  rowBut h (rowBeside h hp ht) hB
theorem OwnI.slice {w : World} {base : Nat} {v : Value} {l : List Int} (h : OwnI w base v l) : ∃ a n c, v = .slice a n c := ownSlice h
/-- A row beside a row that grows. -/
theorem OwnI.grown {w w' : World} {base b n : Nat} {v u : Value} {l : List Int} {xs : List Value} (h : OwnI w base v l) (hu : w.ownsRow b 22 1 u n xs) (hg : w.grownBy w' u.ownBlock) : OwnI w' base v l := by
  rcases hu.2 with ⟨rfl, _⟩ | ⟨g, cap, cur, rfl, _, hgb, _⟩
  · exact h.kept hg (by
      rcases h.2 with ⟨rfl, _⟩ | ⟨g, cap, cur, rfl, _⟩
      · exact .inl rfl
      · exact .inr (by simp [Value.ownBlock]))
  · exact h.kept hg (.inr (Ne.symm (rowBeside h hgb (by decide))))

/-- Own rows, in a row of the call's own. -/
def OwnRR (w : World) (base : Nat) (v : Value) (ls : List (List Int)) : Prop :=
  ∃ xs : List Value, w.ownsRow base 22 1 v ls.length xs ∧ xs.length = ls.length ∧ ∀ i (h : i < xs.length) (h' : i < ls.length), OwnI w base xs[i] ls[i]
theorem OwnRR.rows {w : World} {base : Nat} {v : Value} {ls : List (List Int)} (h : OwnRR w base v ls) : IRows w v ls := by
  obtain ⟨xs, h1, h2, h3⟩ := h
  exact ⟨xs, Sl.ofOwn h1, h2, fun i h h' => (h3 i h h').ints⟩
theorem OwnRR.nil (w : World) (base : Nat) : OwnRR w base (.slice none 0 0) [] := ⟨[], World.ownsRow_nil _ _ _ _, rfl, fun i h _ => absurd h (by simp)⟩
theorem OwnRR.ext {w w' : World} {base : Nat} {v : Value} {ls : List (List Int)} (h : OwnRR w base v ls) (hE : Ext w w') : OwnRR w' base v ls := by
  obtain ⟨xs, h1, h2, h3⟩ := h
  exact ⟨xs, rowExt h1 hE, h2, fun i h h' => (h3 i h h').ext hE⟩
theorem OwnRR.but {w w' : World} {base p : Nat} {v : Value} {ls : List (List Int)} {cs : Array Value} {t : TypeId} {fr : Nat × Nat} (h : OwnRR w base v ls) (hp : w.heap[p]? = some (.cells cs t fr)) (ht : t ≠ 3) (ht2 : t ≠ 22) (hB : But p w w') : OwnRR w' base v ls := by
  obtain ⟨xs, h1, h2, h3⟩ := h
  exact ⟨xs, rowBut h1 (rowBeside h1 hp ht2) hB, h2, fun i h h' => (h3 i h h').but hp ht hB⟩
theorem OwnRR.slice {w : World} {base : Nat} {v : Value} {ls : List (List Int)} (h : OwnRR w base v ls) : ∃ a n c, v = .slice a n c := by
  obtain ⟨xs, h1, _⟩ := h
  exact ownSlice h1
theorem OwnRR.lower {w : World} {base b : Nat} {v : Value} {ls : List (List Int)} (h : OwnRR w base v ls) (hb : b ≤ base) : OwnRR w b v ls := by
  obtain ⟨xs, h1, h2, h3⟩ := h
  exact ⟨xs, rowLower h1 hb, h2, fun i h h' => (h3 i h h').lower hb⟩
/-- One row more. -/
theorem OwnRR.snoc {w w' : World} {base : Nat} {v v' x : Value} {ls : List (List Int)} {l : List Int} {xs : List Value} (h1 : w.ownsRow base 22 1 v ls.length xs) (h2 : xs.length = ls.length) (h3 : ∀ i (h : i < xs.length) (h' : i < ls.length), OwnI w base xs[i] ls[i])
    (hx : OwnI w base x l) (hg : w.grownBy w' v.ownBlock) (hn : w'.ownsRow base 22 1 v' (ls.length + 1) (xs ++ [x])) : OwnRR w' base v' (ls ++ [l]) := by
  refine ⟨xs ++ [x], by simpa using hn, by simp [h2], fun i hi hi' => ?_⟩
  simp only [List.length_append, List.length_cons, List.length_nil] at hi hi'
  rcases Nat.lt_or_ge i xs.length with hlt | hge
  · rw [List.getElem_append_left hlt, List.getElem_append_left (by omega)]
    exact (h3 i hlt (by omega)).grown h1 hg
  · obtain rfl : i = xs.length := by omega
    rw [List.getElem_append_right (by omega), List.getElem_append_right (by omega)]
    simpa [h2] using hx.grown h1 hg
theorem oneSlice {x : Value} (h : ∃ a n c, x = .slice a n c) : ∀ y ∈ [x], y.oneCell' = true := by
  intro y hy
  obtain ⟨a, n, c, rfl⟩ := h
  obtain rfl := List.mem_singleton.1 hy
  rfl
theorem slOne (w : World) (x : Value) (e : TypeId) : Sl (w.alloc (.cells #[x] e)) (.slice (some ⟨w.heap.size, 0, none⟩) 1 1) [x] :=
  Sl.made w [x] e 1 (by simp) (by simp [maxLen]) (fr := (0, 0))
/-- A number of 64 bits. -/
def Wf64 (x : Int) : Prop := (Lit.int .i64 x).wf = true
theorem ints0 (w : World) : Ints w (.slice none 0 0) [] := Sl.ofOwn (World.ownsRow_nil w 0 3 1)
theorem irows0 (w : World) : IRows w (.slice none 0 0) [] := (OwnRR.nil w 0).rows
/- The library's slices.Clone at rows of ints. No function of the program's own. -/
set_option maxHeartbeats 2000000 in
theorem cloneI_any (v : Value) (ns : List Int) (w : World) (hv : Ints w v ns) (hl : ns.length ≤ 1000000) :
    Calls Try.prog 31 #[v] w fun x w' => ∃ u, x = .returned u ∧ w'.ownsRow w.heap.size 3 1 u ns.length (i64s ns) ∧ Ext w w' := by
  have hv0 := hv
  obtain ⟨a, cap, rfl, hcap, hmax, hn, hc⟩ := hv.open
  have e1 := fun (w : World) (a : Option Addr) (n c : Nat) => Lib.run_eql_slice_nil (P := Try.prog) w 22 3 a n c 0 0 Try.underlying22
  cases a with
  | none =>
    obtain rfl := hn rfl
    have : ns = [] := List.eq_nil_of_length_eq_zero (by omega)
    subst this
    clear hc
    go_enter Try.func31, Try.ntmps31
    go_wp2
    go_ret
    exact ⟨_, rfl, World.ownsRow_nil _ _ _ _, Below.refl _ _⟩
  | some ad =>
    have hu := i64s_one ns
    have ti := tI
    clear hc
    have hown0 : (w.alloc (.cells #[] 3)).ownsRow w.heap.size 3 1 (.slice (some ⟨w.heap.size, 0, none⟩) 0 0) 0 [] := World.ownsRow_made w #[] 0 (Nat.le_refl _) (by simp [maxLen]) (by simp)
    have hsl : Sl (w.alloc (.cells #[] 3)) (.slice (some ad) ns.length cap) (i64s ns) := hv0.below (Ext.alloc _ _)
    have hc1 : 0 + (i64s ns).length ≤ maxLen := by simp; unfold maxLen; omega
    have hc2 : (0 + (i64s ns).length) * 8 ≤ 140737488355328 := by simp; omega
    go_enter Try.func31, Try.ntmps31
    go_wp2_with (first | (at_builtin; refine wpList_app rfl (.tmp 5) (.tmp 6) ti rfl rfl rfl hown0 hsl hu hc1 hc2 (by simp) ?_; intro v2 w2 hown2 hg2))
    go_ret
    exact ⟨_, rfl, by simpa using hown2, ((Below.refl _ w).alloc (Nat.le_refl _) _).grown hg2 (by simp) (fun k hk => (hown0.lt k hk).1)⟩
end Go.Proofs.Ytnoeconcpgdjlaa

namespace Go.Proofs.Ytnoeconcpgdjlaa
open Go.RowKit Go.Shelf
/- Layer 3, the program: rows of rows of numbers, and the iterator that goes through the numbers of one shard. -/
attribute [local go_sem] Oper.semAt_some

/-- The numbers that they have of one shard. -/
def column (ls : List (List Int)) (k : Nat) : List Int := ls.map fun r => r.getD k 0
@[simp] theorem column_length (ls : List (List Int)) (k : Nat) : (column ls k).length = ls.length := by simp [column]
theorem column_take_succ (ls : List (List Int)) (k j : Nat) (hj : j < ls.length) (hk : k < ls[j].length) : (column ls k).take (j + 1) = (column ls k).take j ++ [ls[j][k]] := by
  rw [take_succ_getD _ j (by simpa using hj)]
  simp [column, hk]

/-- What a round of a loop over them keeps: what lay ahead, and the box of the shard's number. -/
def Kept (n₀ B : Nat) (W W' : World) : Prop := Below n₀ W W' ∧ ∀ v, W.cell? ⟨B, 0, none⟩ = some v → W'.cell? ⟨B, 0, none⟩ = some v
theorem Kept.refl (n₀ B : Nat) (W : World) : Kept n₀ B W W := ⟨Below.refl _ _, fun _ h => h⟩
theorem Kept.trans {n₀ B : Nat} {a b c : World} (h : Kept n₀ B a b) (k : Kept n₀ B b c) : Kept n₀ B a c := ⟨h.1.trans k.1, fun v hv => k.2 v (h.2 v hv)⟩
theorem kept_b {n₀ B : Nat} {w : World} (hn : n₀ ≤ w.heap.size) (W : World) (l : Nat) (o o' : Obj) (hl : w.heap.size ≤ l) (h : W.heap[l]? = some o) (h1 : o.isCells = false) (h2 : o.isWalk = false) : Kept n₀ B W (W.putObj l o') :=
  ⟨belowK_b hn W l o o' hl h h1 h2, fun v hv => cell_kept hv (grownBy_putObj' W l o') (fun r e => by cases e; exact ⟨o, h, h1⟩)⟩

set_option maxRecDepth 100000 in
set_option maxHeartbeats 2000000 in
theorem numbers1_in (F : Fence) (n : Nat) (h70 : F.fn 78) (hro : F.round = none) (hn : 1 ≤ n) (l Bl Bs : Nat) (lv : Value) (ls : List (List Int)) (k : Nat) (wq : World) (hL : IRows wq lv ls) (hlong : ∀ r ∈ ls, k < r.length)
    (J Jx : List Int → World → Prop)
    (hY : ∀ pre x W, J pre W → pre.length < ls.length → YieldAt F (n - 1) Try.prog l #[.int .i64 x] W fun e W' =>
      (e = .returned (.bool true) ∧ J (pre ++ [x]) W' ∧ Kept wq.heap.size Bs W W') ∨ (e = .returned (.bool false) ∧ Jx (pre ++ [x]) W'))
    (W : World) (hW : Below wq.heap.size wq W) (hBl : W.cell? ⟨Bl, 0, none⟩ = some lv) (hBs : W.cell? ⟨Bs, 0, none⟩ = some (.int .i64 (k : Int))) (h0 : J [] W) :
    CallsIn F n Try.prog 78 #[.func (.yield l) #[] #[], .pointer (some ⟨Bl, 0, none⟩), .pointer (some ⟨Bs, 0, none⟩)] W fun e W' => (∃ v, e = .returned v) ∧
      ((∃ ys, ys = column ls k ∧ J ys W') ∨ (∃ pre, pre <+: column ls k ∧ Jx pre W')) := by
  obtain ⟨a, cap, rfl, hcap, hmax, _⟩ := hL.open
  unfold maxLen at hmax
  have HL := Lib.hid hL
  clear hL
  refine callsIn_of_wp Try.func78 rfl h70 ?_ hro
  simp only [Try.ntmps78, List.size_toArray, List.length_cons, List.length_nil, Nat.reduceAdd, Nat.reduceSub, Array.replicate_succ, Array.replicate_zero, List.push_toArray, List.append_toArray, List.nil_append, List.cons_append]
  gi_wp2
  gi_loopw [5, 8] (fun _ i wr => ∃ j : Nat, j ≤ ls.length ∧ i = .int .i64 j ∧ J ((column ls k).take j) wr ∧ Kept wq.heap.size Bs W wr)
    (fun _ i _ => ls.length - (intOf i).toNat)
  case atStart => exact ⟨0, by omega, rfl, h0, Kept.refl _ _ _⟩
  case round =>
    obtain ⟨j, hj, rfl, hJs, hnx⟩ := hrel
    by_cases hlt : j < ls.length
    · have hkl : k < ls[j].length := hlong _ (List.getElem_mem hlt)
      obtain ⟨a2, cap2, e2, _, _, hrow⟩ := (HL.out.below (hW.trans hnx.1)).open
      obtain ⟨b, off, x, rfl, hcx, hix⟩ := hrow j hlt
      injection e2 with e3 e4 e5
      obtain ⟨ax, capx, rfl, hcapx, hmaxx, _, hnum⟩ := hix.open
      obtain ⟨bx, offx, rfl, hcn⟩ := hnum k hkl
      unfold maxLen at hmaxx
      subst e3
      have hbs := hnx.2 _ hBs
      have hsucc := Lib.hid (column_take_succ ls k j hlt hkl)
      obtain ⟨fn, tmps, assign, body, hy, hR⟩ := hY _ ls[j][k] wr hJs (by simp; omega)
      clear hrow hnum hix e4 e5
      gi_wp2
      refine hR.mono ?_
      rintro e W3 (⟨rfl, hJ3, hk3⟩ | ⟨rfl, hJx3⟩)
      · gi_wp2
        go_roundw
        case rel => exact ⟨j + 1, by omega, by simp, by rw [hsucc.out]; exact hJ3, hnx.trans hk3⟩
        case measure => simp [intOf]; omega
      · gi_wp2
        refine bodyPost_ret (results_none rfl _ _ _) rfl ?_
        exact ⟨⟨_, rfl⟩, .inr ⟨_, by rw [← hsucc.out]; exact List.take_prefix _ _, hJx3⟩⟩
    · obtain rfl : j = ls.length := by omega
      gi_wp2
      go_end0
      exact ⟨⟨_, rfl⟩, .inl ⟨_, rfl, by rw [List.take_of_length_le (by simp)] at hJs; exact hJs⟩⟩

theorem ext_two' (w : World) (x y : Obj) : Ext w ((w.alloc x).alloc y) := (Ext.alloc _ _).trans (Ext.alloc _ _)

theorem numbers_stops (F : Fence) (n : Nat) (h70 : F.fn 78) (hro : F.round = none) (hn : 1 ≤ n) (Bl Bs : Nat) (lv : Value) (ls : List (List Int)) (k : Nat) (wq w : World) (hL : IRows wq lv ls) (hlong : ∀ r ∈ ls, k < r.length)
    (hw : Below wq.heap.size wq w) (hBl : w.cell? ⟨Bl, 0, none⟩ = some lv) (hBs : w.cell? ⟨Bs, 0, none⟩ = some (.int .i64 (k : Int))) (hBl' : Bl < w.heap.size) (hBs' : Bs < w.heap.size) :
    SeqStopsK F n Try.prog 78 #[.pointer (some ⟨Bl, 0, none⟩), .pointer (some ⟨Bs, 0, none⟩)] (fun x : Int => #[Value.int .i64 x]) (Kept wq.heap.size Bs) (fun ys => ys = column ls k) (fun pre => pre <+: column ls k) ls.length w := fun l J Jx W hW _ _ hY h0 =>
  numbers1_in F n h70 hro hn l Bl Bs lv ls k wq hL hlong J Jx hY W (hw.trans (hW.mono hw.size)) ((hW.cell (p := ⟨Bl, 0, none⟩) hBl').trans hBl) ((hW.cell (p := ⟨Bs, 0, none⟩) hBs').trans hBs) h0

set_option maxRecDepth 100000 in
set_option maxHeartbeats 1000000 in
theorem numbers_any (v : Value) (k : Int) (w : World) (hv : ∃ a n c, v = .slice a n c) :
    Calls Try.prog 63 #[v, .int .i64 k] w fun e w' => ∃ Bl Bs : Nat, e = .returned (.func (.func 78) #[] #[.pointer (some ⟨Bl, 0, none⟩), .pointer (some ⟨Bs, 0, none⟩)]) ∧
      Ext w w' ∧ w'.cell? ⟨Bl, 0, none⟩ = some v ∧ w'.cell? ⟨Bs, 0, none⟩ = some (.int .i64 k) ∧ Bl < w'.heap.size ∧ Bs < w'.heap.size ∧ w.heap.size ≤ Bs := by
  obtain ⟨a, n, c, rfl⟩ := hv
  go_enter Try.func63, Try.ntmps63
  go_wp2
  go_ret
  refine ⟨w.heap.size, w.heap.size + 1, rfl, ext_two' _ _ _, ?_, ?_, by simp; omega, by simp, by simp⟩
  · have h1 := World.alloc_heap_new w (.cells #[.slice a n c] 23)
    have h2 := Below.heap_alloc (w.alloc (.cells #[.slice a n c] 23)) (.cells #[.int .i64 k] 3) w.heap.size (by simp)
    rw [cell_of_heap (h2.trans h1)]
    rfl
  · have h1 := World.alloc_heap_new (w.alloc (.cells #[.slice a n c] 23)) (.cells #[.int .i64 k] 3)
    rw [World.size_alloc] at h1
    rw [cell_of_heap h1]
    rfl
end Go.Proofs.Ytnoeconcpgdjlaa

/- Layer 3, mathematics: the number that stands so far from the end of a sorted row is what so many have. -/
namespace Go.Proofs.Ytnoeconcpgdjlaa.Vec

theorem sorted_quorum {xs s : List Int} (hp : s.Perm xs) (hs : s.Pairwise (· ≤ ·)) (h0 : ∀ x ∈ xs, 0 ≤ x) (need : Nat) (h1 : 1 ≤ need) (hn : need ≤ xs.length) (hi : s.length - need < s.length) :
    IsQuorum xs need s[s.length - need] := by
  have hl : s.length = xs.length := hp.length_eq
  have hm : ∀ n, many xs n = many s n := fun n => (hp.countP_eq _).symm
  have le_of : ∀ a b (ha : a < s.length) (hb : b < s.length), a ≤ b → s[a] ≤ s[b] := by
    intro a b ha hb hab
    rcases Nat.lt_or_ge a b with h | h
    · exact (List.pairwise_iff_getElem.1 hs) a b ha hb h
    · obtain rfl : a = b := by omega
      exact Int.le_refl _
  refine ⟨h0 _ (hp.mem_iff.1 (List.getElem_mem hi)), ?_, fun n hq => ?_⟩
  · rw [hm]
    unfold many
    have e : s.countP (fun x => decide (s[s.length - need] ≤ x)) = (s.take (s.length - need)).countP (fun x => decide (s[s.length - need] ≤ x)) + (s.drop (s.length - need)).countP (fun x => decide (s[s.length - need] ≤ x)) := by
      rw [← List.countP_append, List.take_append_drop]
    have e2 : (s.drop (s.length - need)).countP (fun x => decide (s[s.length - need] ≤ x)) = need := by
      have e3 : (s.drop (s.length - need)).length = need := by simp; omega
      rw [List.countP_eq_length.2, e3]
      intro x hx
      obtain ⟨i, hi', rfl⟩ := List.getElem_of_mem hx
      rw [List.getElem_drop]
      exact decide_eq_true (le_of _ _ hi (by simp at hi'; omega) (by omega))
    omega
  · rw [hm]
    unfold many
    have e : s.countP (fun x => decide (n ≤ x)) = (s.take (s.length - need + 1)).countP (fun x => decide (n ≤ x)) + (s.drop (s.length - need + 1)).countP (fun x => decide (n ≤ x)) := by
      rw [← List.countP_append, List.take_append_drop]
    have e2 : (s.take (s.length - need + 1)).countP (fun x => decide (n ≤ x)) = 0 := by
      rw [List.countP_eq_zero]
      intro x hx
      obtain ⟨i, hi', rfl⟩ := List.getElem_of_mem hx
      rw [List.getElem_take]
      have := le_of i (s.length - need) (by simp at hi'; omega) hi (by simp at hi'; omega)
      simp only [decide_eq_true_eq]
      omega
    have e3 : (s.drop (s.length - need + 1)).countP (fun x => decide (n ≤ x)) ≤ (s.drop (s.length - need + 1)).length := List.countP_le_length
    have e4 : (s.drop (s.length - need + 1)).length = need - 1 := by simp; omega
    omega

theorem sort_quorum (xs : List Int) (h0 : ∀ x ∈ xs, 0 ≤ x) (need : Nat) (h1 : 1 ≤ need) (hn : need ≤ xs.length) (hi : xs.length - need < (xs.mergeSort fun x y => decide (x ≤ y)).length) :
    (xs.mergeSort fun x y => decide (x ≤ y))[xs.length - need] = quorumNum xs need := by
  have hp : (xs.mergeSort fun x y => decide (x ≤ y)).Perm xs := List.mergeSort_perm _ _
  have hs : (xs.mergeSort fun x y => decide (x ≤ y)).Pairwise (· ≤ ·) := by
    have := List.pairwise_mergeSort (le := fun (x y : Int) => decide (x ≤ y)) (by intro a b c; simp; omega) (by intro a b; simp; omega) xs
    rw [List.pairwise_iff_getElem] at this ⊢
    intro i j hi hj hij
    simpa using this i j hi hj hij
  have hl : (xs.mergeSort fun x y => decide (x ≤ y)).length = xs.length := hp.length_eq
  have h := sorted_quorum hp hs h0 need h1 hn (by omega)
  have h2 := quorum_unique h (quorum_is h0 (by omega) (by omega))
  rw [← h2]
  congr 1
  omega
end Go.Proofs.Ytnoeconcpgdjlaa.Vec

namespace Go.Proofs.Ytnoeconcpgdjlaa
open Go.RowKit Go.Shelf Go.Sort
/- Layer 3, the program: what so many have. -/
attribute [local go_sem] Oper.semAt_some

def firstRow : List (List Int) → List Int
  | [] => []
  | r :: _ => r
def rowLen (ls : List (List Int)) : Nat := (firstRow ls).length
/-- What so many have, shard by shard. -/
def quor (ls : List (List Int)) (need : Int) : List Int := (List.range (rowLen ls)).map fun k => Vec.quorumNum (column ls k) need
/-- Are they all of one kind, and so many? -/
def quorOk (ls : List (List Int)) (need : Int) : Bool := decide (1 ≤ need ∧ need ≤ ls.length) && ls.all fun r => Vec.kind r (firstRow ls)
theorem quorOk_need {ls : List (List Int)} {need : Int} (h : ¬ (1 ≤ need ∧ need ≤ ls.length)) : quorOk ls need = false := by
  unfold quorOk
  rw [decide_eq_false h]
  rfl
theorem quorOk_kind {ls : List (List Int)} {need : Int} (k : Nat) (hk : k < ls.length) (h : Vec.kind ls[k] (firstRow ls) = false) : quorOk ls need = false := by
  unfold quorOk
  have : (ls.all fun r => Vec.kind r (firstRow ls)) = false := by
    rw [List.all_eq_false]
    exact ⟨ls[k], List.getElem_mem _, by rw [h]; simp⟩
  rw [this, Bool.and_false]
theorem quorOk_all {ls : List (List Int)} {need : Int} (h1 : 1 ≤ need ∧ need ≤ ls.length) (h : (ls.take ls.length).all (fun r => Vec.kind r (firstRow ls)) = true) : quorOk ls need = true := by
  unfold quorOk
  rw [List.take_length] at h
  rw [h, decide_eq_true h1]
  rfl
theorem headD_eq {ls : List (List Int)} (h : 0 < ls.length) : firstRow ls = ls[0] := by
  cases ls with
  | nil => simp at h
  | cons a l => rfl

/-- What is there when the first k numbers of these are there. -/
def filled (q : List Int) (k : Nat) : List Int := q.take k ++ List.replicate (q.length - k) 0
theorem filled_zero (q : List Int) : filled q 0 = List.replicate q.length 0 := by simp [filled]
theorem filled_all (q : List Int) : filled q q.length = q := by simp [filled]
theorem filled_succ (q : List Int) (k : Nat) (hk : k < q.length) : filled q (k + 1) = (filled q k).set k q[k] := by
  have hz : (q.take k).length = k := by simp; omega
  unfold filled
  rw [List.set_append_right _ _ (by omega), hz, Nat.sub_self, take_succ_getD q k hk]
  rw [show q.length - k = (q.length - (k + 1)) + 1 from by omega, List.replicate_succ, List.set_cons_zero, List.append_assoc]
  rfl
theorem filled_len (q : List Int) (k : Nat) (hk : k ≤ q.length) : (filled q k).length = q.length := by simp [filled]; omega
@[simp] theorem quor_length (ls : List (List Int)) (need : Int) : (quor ls need).length = rowLen ls := by simp [quor]
theorem quor_get (ls : List (List Int)) (need : Int) (k : Nat) (hk : k < (quor ls need).length) : (quor ls need)[k] = Vec.quorumNum (column ls k) need := by simp [quor]

/-- The blocks for the rounds' deferred calls, of all loops that are over. -/
def marks (Ds : List Nat) : List Deferred := Ds.map fun D => { target := .collected D, args := #[] }
theorem leaves_marks {F : Fence} {n n₀ : Nat} {P : Program} {fn : Func} {tmps : Array Value} {R : Ending → World → Prop} (Pw : World → Prop)
    (hP : ∀ (W : World) (D : Nat), Pw W → n₀ ≤ D → W.heap[D]? = some (.deferred (some [])) → Pw (W.putObj D (.deferred none)))
    (hend : ∀ W, Pw W → LeavesIn F n P fn tmps R [] .returning W) : ∀ (Ds : List Nat) (W : World), Pw W → Ds.Nodup → (∀ D ∈ Ds, n₀ ≤ D ∧ W.heap[D]? = some (.deferred (some []))) → LeavesInM F n P fn tmps R (marks Ds) .returning W := by
  intro Ds
  induction Ds with
  | nil => intro W hw _ _; exact hend W hw
  | cons D Ds ih =>
    intro W hw hnd hm
    obtain ⟨h1, h2⟩ := hm D (by simp)
    rw [List.nodup_cons] at hnd
    refine ⟨by simp, .inl ⟨D, _, rfl, run_takeDeferred h2, ih _ (hP W D hw h1 h2) hnd.2 fun D' hD' => ?_⟩⟩
    obtain ⟨h3, h4⟩ := hm D' (by simp [hD'])
    exact ⟨h3, (World.putObj_heap_other (by rintro rfl; exact hnd.1 hD')).trans h4⟩

/-- Between two shards. -/
structure QInv (w : World) (q : List Int) (g h B nx cap1 L k : Nat) (Ds : List Nat) (m : Nat) (W : World) : Prop where
  ext : Below w.heap.size w W
  out : W.ownsRow w.heap.size 3 1 (.slice (some ⟨g, 0, none⟩) nx cap1) nx (i64s (filled q k))
  box : Boxed W B 22 (.slice (some ⟨h, 0, none⟩) m L)
  col : ∃ xs, W.ownsRow h 3 1 (.slice (some ⟨h, 0, none⟩) m L) m xs
  mks : ∀ D ∈ Ds, w.heap.size ≤ D ∧ D < W.heap.size ∧ W.heap[D]? = some (.deferred (some []))
theorem ownRow_own {β : Type} {base size n : Nat} {e : TypeId} {v : Value} {xs : List Value} : Go.Own (fun (_ : β) W => W.ownsRow base e size v n xs) := by
  rintro s X Y row hr hg hrow
  refine hr.kept hg ?_
  rcases hr.2 with ⟨rfl, _⟩ | ⟨g, cap, cur, rfl, _, hgb, _⟩
  · exact .inl rfl
  · refine .inr fun e' => ?_
    obtain ⟨o, ho, hc⟩ := hrow g (by simpa [Value.ownBlock] using e'.symm)
    rw [hgb] at ho; cases ho; cases hc
theorem box_own {β : Type} {B : Nat} {t : TypeId} {f : β → Value} : Go.Own (fun (s : β) W => Boxed W B t (f s)) := by
  rintro s X Y row hv hg hrow
  refine hv.kept hg (fun e' => ?_)
  obtain ⟨o, ho, hc⟩ := hrow B e'.symm
  rw [show X.heap[B]? = _ from hv] at ho; cases ho; cases hc
theorem rows_own {β : Type} {base size : Nat} {e : TypeId} {v : β → Value} {n : β → Nat} {xs : β → List Value} : Go.Own (fun (s : β) W => W.ownsRow base e size (v s) (n s) (xs s)) := by
  rintro s X Y row hr hg hrow
  refine hr.kept hg ?_
  rcases hr.2 with ⟨h0, _⟩ | ⟨g, cap, cur, h0, _, hgb, _⟩
  · rw [h0]; exact .inl rfl
  · rw [h0]
    refine .inr fun e' => ?_
    obtain ⟨o, ho, hc⟩ := hrow g (by simpa [Value.ownBlock] using e'.symm)
    rw [hgb] at ho; cases ho; cases hc
theorem marks_own {β : Type} {B n₀ : Nat} {Ds : List Nat} (h : ∀ D ∈ Ds, D < B) : OwnFrom B (fun (_ : β) W => ∀ D ∈ Ds, n₀ ≤ D ∧ D < W.heap.size ∧ W.heap[D]? = some (.deferred (some []))) := by
  rintro s X Y row hm hg hrow D hD
  obtain ⟨h1, h2, h3⟩ := hm D hD
  exact ⟨h1, Nat.lt_of_lt_of_le h2 hg.size, (hg.block D h2 (fun e => by have := (hrow D e.symm).1; have := h D hD; omega)).trans h3⟩
theorem row_short {w : World} {base e g n cap : Nat} {xs : List Value} (h : w.ownsRow base e 1 (.slice (some ⟨g, 0, none⟩) n cap) n xs) : w.ownsRow base e 1 (.slice (some ⟨g, 0, none⟩) 0 cap) 0 [] := by
  obtain ⟨_, h0 | ⟨g', cap', cur, h1, h2, h3, _, h5, h6, _⟩⟩ := h
  · simp at h0
  · injection h1 with h1 _ h7
    injection h1 with h1
    injection h1 with h1
    subst h1 h7
    exact ⟨rfl, .inr ⟨g, cap, cur, rfl, h2, h3, Nat.zero_le _, h5, h6, rfl⟩⟩

set_option maxRecDepth 100000 in
set_option maxHeartbeats 4000000 in
theorem quorum_any (v : Value) (ls : List (List Int)) (need : Int) (w : World) (hv : IRows w v ls) (hlen : ls.length ≤ 1000000) :
    Calls Try.prog 42 #[v, .int .i64 need] w (GivesInts w (orNone (quorOk ls need) (quor ls need)) (quorOk ls need)) := by
  have HL := Lib.hid hv
  obtain ⟨a, cap, rfl, hcap, hmax, _⟩ := hv.open
  unfold maxLen at hmax
  clear hv
  refine (callsIn_wide (n := 3)).1 ?_
  by_cases h1 : need < 1
  · rw [quorOk_need (by omega)]
    refine callsIn_of_wp_marks Try.func42 rfl trivial ?_ rfl
    refine wpIn_wide.2 ?_
    simp only [Try.ntmps42, List.size_toArray, List.length_cons, List.length_nil, Nat.reduceAdd, Nat.reduceSub, Array.replicate_succ, Array.replicate_zero, List.push_toArray, List.append_toArray, List.nil_append, List.cons_append]
    go_wp2
    exact ⟨_, results_tmp2 rfl _ _ _, _, rfl, ints_none _, Ext.refl _⟩
  · by_cases h2 : (ls.length : Int) < need
    · rw [quorOk_need (by omega)]
      refine callsIn_of_wp_marks Try.func42 rfl trivial ?_ rfl
      refine wpIn_wide.2 ?_
      simp only [Try.ntmps42, List.size_toArray, List.length_cons, List.length_nil, Nat.reduceAdd, Nat.reduceSub, Array.replicate_succ, Array.replicate_zero, List.push_toArray, List.append_toArray, List.nil_append, List.cons_append]
      go_wp2
      exact ⟨_, results_tmp2 rfl _ _ _, _, rfl, ints_none _, Ext.refl _⟩
    · obtain ⟨nd, rfl⟩ : ∃ nd : Nat, need = (nd : Int) := ⟨need.toNat, by omega⟩
      refine callsIn_of_wp_marks Try.func42 rfl trivial ?_ rfl
      refine wpIn_wide.2 ?_
      simp only [Try.ntmps42, List.size_toArray, List.length_cons, List.length_nil, Nat.reduceAdd, Nat.reduceSub, Array.replicate_succ, Array.replicate_zero, List.push_toArray, List.append_toArray, List.nil_append, List.cons_append]
      go_wp2_with fail
      go_loop [7, 22] (fun _ i => ∃ k : Nat, k ≤ ls.length ∧ i = .int .i64 k ∧ Hid ((ls.take k).all (fun r => Vec.kind r (firstRow ls)) = true)) (fun _ i => ls.length - (intOf i).toNat)
      case atStart => exact ⟨0, by omega, rfl, by simp [Hid]⟩
      case round =>
        obtain ⟨k, hk, rfl, hr⟩ := hrel
        by_cases hlt : k < ls.length
        · obtain ⟨a2, cap2, e2, _, _, hrow⟩ := HL.out.open
          obtain ⟨b, off, x, rfl, hcx, hix⟩ := hrow k hlt
          obtain ⟨b', off', x0, e6, hcx0, hix0⟩ := hrow 0 (by omega)
          injection e2 with e3 e4 e5
          subst e3
          injection e6 with e6
          injection e6 with e7 e8
          subst e7 e8
          rw [Nat.add_zero] at hcx0
          have hk0 := headD_eq (ls := ls) (by omega)
          obtain ⟨ax, nx, cx, rfl⟩ := hix.isSlice
          obtain ⟨ax0, nx0, cx0, rfl⟩ := hix0.isSlice
          have hcall := oneKind_any _ _ _ _ _ hix hix0
          rw [← hk0] at hcall
          have HC := Lib.hid hcall
          clear hcall hrow e4 e5 hk0 hix hix0
          cases hb : Vec.kind ls[k] (firstRow ls) with
          | true =>
            have HB := Lib.hid hb
            clear hb
            go_wp2_with (go_at_call 61; refine HC.out.mono ?_; rintro e w' ⟨rfl, rfl⟩; rw [HB.out])
            go_round
            case rel => exact ⟨k + 1, by omega, by go_num, by unfold Hid; rw [take_succ_getD ls k hlt, List.all_append, hr.out]; simp [HB.out]⟩
            case measure => simp [intOf]; omega
          | false =>
            have HB := Lib.hid hb
            have HQ := Lib.hid (quorOk_kind (need := (nd : Int)) k hlt hb)
            clear hb
            go_wp2_with (go_at_call 61; refine HC.out.mono ?_; rintro e w' ⟨rfl, rfl⟩; rw [HB.out])
            exact ⟨_, results_tmp2 rfl _ _ _, _, by rw [HQ.out]; rfl, by rw [HQ.out]; exact ints_none _, Ext.refl _⟩
        · obtain rfl : k = ls.length := by omega
          have hok := quorOk_all (need := (nd : Int)) ⟨by omega, by omega⟩ hr.out
          have hne : 0 < ls.length := by omega
          have hk0 := headD_eq hne
          obtain ⟨a2, cap2, e2, _, _, hrow⟩ := HL.out.open
          obtain ⟨b', off', x0, rfl, hcx0, hix0⟩ := hrow 0 hne
          injection e2 with e3 e4 e5
          subst e3
          rw [Nat.add_zero] at hcx0
          obtain ⟨ax0, nx0, cx0, rfl⟩ := hix0.isSlice
          have hnx := hix0.len.1
          rw [← hk0] at hnx
          have hkind0 := (List.all_eq_true.1 hr.out) ls[0] (by rw [List.take_length]; exact List.getElem_mem _)
          rw [← hk0] at hkind0
          have HR := Lib.hid (Vec.right_ok (Vec.kind_ok hkind0).1)
          have hz : zeros ((nx0 : Nat) : Int) = List.replicate nx0 0 := by unfold zeros; rw [if_pos (by have := HR.out; omega)]; simp
          have HZ := Lib.hid hz
          have HN := Lib.hid hnx
          have hn1 : 1 ≤ nx0 := by have := HR.out; omega
          have hn8 : nx0 ≤ 8 := by have := HR.out; omega
          have HK := Lib.hid hr.out
          have HOK := Lib.hid hok
          have hzero := Lib.hid (zero_any (nx0 : Int) w)
          clear hk0 hrow e4 e5 hnx hkind0 hz hr hok hix0
          go_wp2_with fail
          refine hzero.out.mono ?_
          rintro e w1 ⟨v1, rfl, ho1, hb1⟩
          rw [HZ.out] at ho1
          unfold OwnI at ho1
          rw [List.length_replicate] at ho1
          obtain ⟨g, cap1, rfl⟩ := Joins.ownsRow_form ho1 (by omega)
          have hglt := (ho1.lt g rfl).2
          have hge := (ho1.lt g rfl).1
          have hm1 : 8 * ls.length ≤ 281474976710656 := by omega
          have hm2 : ls.length ≤ maxLen := by unfold maxLen; omega
          go_wp2_with (refine wpList_mk rfl _ (.tmp 39) tI rfl w1.heap.size ls.length rfl rfl rfl hm1 hm2 (Nat.le_refl _) ?_; intro w2 hown2 hg2)
          have hmax2 := hm2
          refine wp_loop (fun a' wr => ∃ (k m : Nat) (Ds : List Nat) (u10 u44 u45 u46 u47 u48 u49 u50 u56 u57 u58 u59 u60 u61 u62 u63 u64 u65 u66 u67 u68 : Value), k ≤ nx0 ∧ m ≤ ls.length ∧ Ds.Nodup ∧ QInv w (quor ls nd) g w1.heap.size w2.heap.size nx0 cap1 ls.length k Ds m wr ∧ a' = { tmps := #[Value.slice (some ⟨b', off', none⟩) ls.length cap, Value.int IntKind.i64 (nd : Int), undef, undef, u4, u5, undef, u7, Value.slice (some ⟨g, 0, none⟩) nx0 cap1, Value.pointer (some ⟨w2.heap.size, 0, none⟩), u10, undef, Value.int IntKind.i64 (nd : Int), Value.bool false, Value.bool false, Value.int IntKind.i64 (nd : Int), Value.slice (some ⟨b', off', none⟩) ls.length cap, Value.int IntKind.i64 ↑ls.length, Value.bool false, Value.bool false, Value.slice (some ⟨b', off', none⟩) ls.length cap, Value.int IntKind.i64 ↑ls.length, Value.int IntKind.i64 ↑ls.length, Value.bool false, u24, u25, u26, u27, u28, u29, u30, u31, u32, Value.slice (some ⟨b', off', none⟩) ls.length cap, Value.pointer (some ⟨b', off', none⟩), Value.slice ax0 nx0 cx0, Value.int IntKind.i64 ↑nx0, Value.slice (some ⟨g, 0, none⟩) nx0 cap1, Value.slice (some ⟨b', off', none⟩) ls.length cap, Value.int IntKind.i64 ↑ls.length, Value.slice (some ⟨w1.heap.size, 0, none⟩) 0 ls.length, Value.slice (some ⟨g, 0, none⟩) nx0 cap1, Value.int IntKind.i64 ↑nx0, Value.int IntKind.i64 ↑k, u44, u45, u46, u47, u48, u49, u50, undef, undef, undef, undef, undef, u56, u57, u58, u59, u60, u61, u62, u63, u64, u65, u66, u67, u68, undef], defers := marks Ds }) (fun a' _ => nx0 - (intOf (a'.tmps.getD 43 undef)).toNat) ?_ ?_
          · refine ⟨0, 0, [], _, _, _, _, _, _, _, _, _, _, _, _, _, _, _, _, _, _, _, _, _, by omega, by omega, by simp, ?_, rfl⟩
            have hrl : (quor ls nd).length = nx0 := by rw [quor_length]; exact HN.out.symm
            have e1 : i64s (filled (quor ls nd) 0) = i64s (List.replicate nx0 0) := by rw [filled_zero, hrl]
            have hB : Boxed (w2.alloc (.cells #[.slice (some ⟨w1.heap.size, 0, none⟩) 0 ls.length] 22)) w2.heap.size 22 (.slice (some ⟨w1.heap.size, 0, none⟩) 0 ls.length) := Boxed.new w2 _ _
            exact ⟨((hb1.grown hg2 hb1.size (fun k hk => by cases hk)).alloc (Nat.le_trans hb1.size hg2.size) _), by rw [e1]; exact (ho1.kept hg2 (.inr (by simp [Value.ownBlock]))).alloc _, hB, ⟨[], hown2.alloc _⟩, fun D hD => by cases hD⟩
          · rintro a' wr ⟨k, m, Ds, u10, u44, u45, u46, u47, u48, u49, u50, u56, u57, u58, u59, u60, u61, u62, u63, u64, u65, u66, u67, u68, hk, hmL, hnd, hI, rfl⟩
            by_cases hlt : k < nx0
            · have hbc := hI.box.cell
              have hbf := hI.box.frozen
              have hBlt := hI.box.lt
              have hwB : w.heap.size ≤ w2.heap.size := Nat.le_trans hb1.size hg2.size
              have hhB : w1.heap.size < w2.heap.size := (hown2.lt _ rfl).2
              have hgx := grownBy_setCell' wr w2.heap.size (.slice (some ⟨w1.heap.size, 0, none⟩) 0 ls.length)
              have hxo := hI.out.kept hgx (.inr (by simp [Value.ownBlock]; omega))
              have hxb := hI.box.set (.slice (some ⟨w1.heap.size, 0, none⟩) 0 ls.length)
              have hxc := (row_short hI.col.choose_spec).kept hgx (.inr (by simp [Value.ownBlock]; omega))
              have hxe := hI.ext.setCell (p := ⟨w2.heap.size, 0, none⟩) hwB (.slice (some ⟨w1.heap.size, 0, none⟩) 0 ls.length)
              have hxm : ∀ D ∈ Ds, w.heap.size ≤ D ∧ D < wr.heap.size ∧ (wr.setCell ⟨w2.heap.size, 0, none⟩ (.slice (some ⟨w1.heap.size, 0, none⟩) 0 ls.length)).heap[D]? = some (.deferred (some [])) := by
                intro D hD
                obtain ⟨q1, q2, q3⟩ := hI.mks D hD
                refine ⟨q1, q2, (hgx.block D q2 ?_).trans q3⟩
                intro e
                injection e with e
                rw [e, show wr.heap[w2.heap.size]? = _ from hI.box] at q3
                cases q3
              have hxs : (wr.setCell ⟨w2.heap.size, 0, none⟩ (.slice (some ⟨w1.heap.size, 0, none⟩) 0 ls.length)).heap.size = wr.heap.size := by simp [World.setCell]
              obtain ⟨wx, hwx⟩ : ∃ wx, wr.setCell ⟨w2.heap.size, 0, none⟩ (.slice (some ⟨w1.heap.size, 0, none⟩) 0 ls.length) = wx := ⟨_, rfl⟩
              rw [hwx] at hgx hxo hxb hxc hxe hxm hxs
              have HX := Lib.hid hwx
              clear hwx
              go_wp2_with fail
              rw [HX.out]
              refine (numbers_any _ _ wx ⟨_, _, _, rfl⟩).mono ?_
              rintro e W3 ⟨Bl, Bs, rfl, hE3, hcl, hcs, hBl, hBs, hBs2⟩
              have hg3 := hE3.grown
              have h3o := hxo.kept hg3 (.inr (by simp [Value.ownBlock]))
              have h3b := hxb.kept hg3 (by simp)
              have h3c := hxc.kept hg3 (.inr (by simp [Value.ownBlock]))
              have h3e := hxe.trans (Below.mono hE3 hxe.size)
              have h3m : ∀ D ∈ Ds, w.heap.size ≤ D ∧ D < W3.heap.size ∧ W3.heap[D]? = some (.deferred (some [])) := by
                intro D hD
                obtain ⟨q1, q2, q3⟩ := hxm D hD
                exact ⟨q1, Nat.lt_of_lt_of_le (by rw [hxs]; exact q2) hE3.size, (hE3.block D (by rw [hxs]; exact q2)).trans q3⟩
              clear hxo hxb hxc hxm hgx hbc hbf
              go_wp2_with fail
              have hall : ∀ r ∈ ls, Vec.kind r (firstRow ls) = true := fun r hr => (List.all_eq_true.1 HK.out) r (by rw [List.take_length]; exact hr)
              have hlong : ∀ r ∈ ls, k < r.length := fun r hr => by rw [(Vec.kind_ok (hall r hr)).2.2, ← HN.out]; exact hlt
              have hpos : ∀ x ∈ column ls k, 0 ≤ x := by
                intro x hx
                obtain ⟨r, hr, rfl⟩ := List.mem_map.1 hx
                have h5 := hlong r hr
                rw [List.getD_eq_getElem?_getD, List.getElem?_eq_getElem h5]
                exact ((Vec.right_ok (Vec.kind_ok (hall r hr)).1).1 _ (List.getElem_mem h5)).1
              have HALL := Lib.hid hall
              have HLONG := Lib.hid hlong
              have HPOS := Lib.hid hpos
              clear hall hlong hpos
              have hBs3 : w2.heap.size < Bs := by omega
              obtain ⟨i0, hi0, hz0, hs0, hby0⟩ := info_parts tI.info
              have hwW3 : w.heap.size ≤ W3.heap.size := h3e.size
              refine (wpIn_wide (n := 3)).1 ?_
              refine wpIn_rangeFunc_ownG (n := 3) rfl (by omega) (gf := 78) (lb := #[.pointer (some ⟨Bl, 0, none⟩), .pointer (some ⟨Bs, 0, none⟩)]) rfl trivial (enters_of Try.func78 (by kernel_rfl) rfl)
                (numbers_stops Fence.wide (3 - 1) trivial rfl (by omega) Bl Bs _ ls k w W3 HL.out HLONG.out h3e hcl hcs hBl hBs) (fun h k => Kept.trans h k) (kept_b hwW3) (Below.refl _ _) (fun _ => rfl)
                (fun pre W => Boxed W w2.heap.size 22 (.slice (some ⟨w1.heap.size, 0, none⟩) pre.length ls.length) ∧ (W.ownsRow w1.heap.size 3 1 (.slice (some ⟨w1.heap.size, 0, none⟩) pre.length ls.length) pre.length (i64s pre) ∧
                  (W.ownsRow w.heap.size 3 1 (.slice (some ⟨g, 0, none⟩) nx0 cap1) nx0 (i64s (filled (quor ls nd) k)) ∧ (Below w.heap.size w W ∧ ∀ D ∈ Ds, w.heap.size ≤ D ∧ D < W.heap.size ∧ W.heap[D]? = some (.deferred (some []))))))
                (fun _ _ _ => False)
                (OwnFrom.and (Go.Own.from box_own _) (OwnFrom.and (Go.Own.from rows_own _) (OwnFrom.and (Go.Own.from ownRow_own _) (OwnFrom.and (ownFrom_below (Nat.le_refl _) hwW3) (marks_own (fun D hD => (h3m D hD).2.1))))))
                (fun _ _ _ _ _ hs _ _ => hs)
                ⟨h3b, h3c, h3o, h3e, h3m⟩
                (fun x => { tmps := #[Value.slice (some ⟨b', off', none⟩) ls.length cap, Value.int IntKind.i64 (nd : Int), undef, undef, u4, u5, undef, u7, Value.slice (some ⟨g, 0, none⟩) nx0 cap1, Value.pointer (some ⟨w2.heap.size, 0, none⟩), Value.int IntKind.i64 ↑k, Value.int IntKind.i64 x, Value.int IntKind.i64 (nd : Int), Value.bool false, Value.bool false, Value.int IntKind.i64 (nd : Int), Value.slice (some ⟨b', off', none⟩) ls.length cap, Value.int IntKind.i64 ↑ls.length, Value.bool false, Value.bool false, Value.slice (some ⟨b', off', none⟩) ls.length cap, Value.int IntKind.i64 ↑ls.length, Value.int IntKind.i64 ↑ls.length, Value.bool false, u24, u25, u26, u27, u28, u29, u30, u31, u32, Value.slice (some ⟨b', off', none⟩) ls.length cap, Value.pointer (some ⟨b', off', none⟩), Value.slice ax0 nx0 cx0, Value.int IntKind.i64 ↑nx0, Value.slice (some ⟨g, 0, none⟩) nx0 cap1, Value.slice (some ⟨b', off', none⟩) ls.length cap, Value.int IntKind.i64 ↑ls.length, Value.slice (some ⟨w1.heap.size, 0, none⟩) 0 ls.length, Value.slice (some ⟨g, 0, none⟩) nx0 cap1, Value.int IntKind.i64 ↑nx0, Value.int IntKind.i64 ↑k, Value.bool true, Value.int IntKind.i64 ↑k, Value.slice (some ⟨w1.heap.size, 0, none⟩) m ls.length, Value.slice (some ⟨w1.heap.size, 0, none⟩) 0 ls.length, Value.slice (some ⟨b', off', none⟩) ls.length cap, Value.int IntKind.i64 ↑k, Value.func (Fn.func 78) #[] #[Value.pointer (some ⟨Bl, 0, none⟩), Value.pointer (some ⟨Bs, 0, none⟩)], Value.int IntKind.i64 x, undef, undef, undef, undef, u56, u57, u58, u59, u60, u61, u62, u63, u64, u65, u66, u67, u68, undef], defers := [] }) ?assign ?body ?done ?stop
              case assign =>
                intro l x W K hK
                gi_wp2
                exact hK
              case stop =>
                rintro D c pre W _ _ h _
                exact h.elim
              case body =>
                rintro l pre x W ⟨hb, hc, ho, he, hm⟩ hlen
                have hbc := hb.cell
                have hbf := hb.frozen
                have hca := hc.alloc (.cells #[.int .i64 x] 3)
                have hba := hb.alloc (.cells #[.int .i64 x] 3)
                have hoa := ho.alloc (.cells #[.int .i64 x] 3)
                have hcells := row_cells hca
                have hsz := he.size
                have hpl : pre.length + 1 ≤ ls.length := hlen
                gi_wp2_with (gi_at_builtin; refine wpListIn_append_fits _ rfl _ _ 22 rfl w1.heap.size 3 i0 1 Try.underlying22 hi0 hs0 w1.heap.size pre.length ls.length (i64s pre) rfl hca ⟨W.heap.size, 0, none⟩ 1 1 [.int .i64 x] rfl rfl (cell_one_new _ _ _) (by simp [Value.oneCell']) hpl ?_; intro w4 hown4 hg4; have hb4 := hba.kept hg4 (by simp; omega); have hc4 := hb4.cell; have hf4 := hb4.frozen)
                have g5 := grownBy_setCell' w4 w2.heap.size (.slice (some ⟨w1.heap.size, 0, none⟩) (pre.length + 1) ls.length)
                have hlen1 : (pre ++ [x]).length = pre.length + 1 := by simp
                have hout := (hoa.kept hg4 (.inr (by simp [Value.ownBlock]; omega))).kept g5 (.inr (by simp [Value.ownBlock]; omega))
                have hcol := hown4.kept g5 (.inr (by simp [Value.ownBlock]; omega))
                have hbel : Below w.heap.size W (w4.setCell ⟨w2.heap.size, 0, none⟩ (.slice (some ⟨w1.heap.size, 0, none⟩) (pre.length + 1) ls.length)) :=
                  (((Below.refl w.heap.size W).alloc hsz _).grown hg4 (by simp; omega) (fun j ej => by injection ej with ej; omega)).setCell (p := ⟨w2.heap.size, 0, none⟩) hwB _
                have hothers : KeepsOthers W (w4.setCell ⟨w2.heap.size, 0, none⟩ (.slice (some ⟨w1.heap.size, 0, none⟩) (pre.length + 1) ls.length)) := by
                  refine ((KeepsOthers.alloc W _).trans (KeepsOthers.of_grownBy hg4 fun j o ej hj => ?_)).trans (KeepsOthers.setCell _ _ _)
                  injection ej with ej
                  subst ej
                  obtain ⟨cur, hcur, _⟩ := hcells
                  rw [hcur] at hj; cases hj; rfl
                refine ⟨hothers.from _, ⟨hbel, fun v hv => ?_⟩, ?_, ?_, hout, he.trans hbel, fun D hD => ?_⟩
                · exact g5.cell (hg4.cell ((World.grownBy_alloc W _ none).cell hv (by simp)) (by simp; omega)) (by simp; omega)
                · rw [hlen1]; exact hb4.set _
                · rw [hlen1, i64s_append]; exact hcol
                · obtain ⟨q1, q2, q3⟩ := hm D hD
                  exact ⟨q1, Nat.lt_of_lt_of_le q2 hothers.size, hothers.same D _ q3 rfl⟩
              case done =>
                rintro D xs W hD rfl ⟨hb, hc, ho, he, hm⟩ hK
                rw [column_length] at hb hc
                have hbc := hb.cell
                obtain ⟨cur, hcur, hcn, hcm, hcs2, hct⟩ := row_cells hc
                have hsort := AnyM.slices_Sort_int sortIntsL w1.heap.size 0 ls.length (column ls k) W (holds_of_blockI hcur (by rw [column_length]; exact hct)) (Array.getElem?_eq_some_iff.1 hcur).1 (by simp; omega)
                rw [column_length] at hsort
                have HS := Lib.hid hsort
                clear hsort
                go_wp2_with fail
                refine HS.out.mono ?_
                rintro e w6 ⟨rfl, nn, os, hw6⟩
                have g6 : W.grownBy w6 (some w1.heap.size) := by rw [hw6]; exact grownBy_sortedI _
                have hperm : ((column ls k).mergeSort fun x y => decide (x ≤ y)).Perm (column ls k) := List.mergeSort_perm _ _
                have hsl : ((column ls k).mergeSort fun x y => decide (x ≤ y)).length = ls.length := by rw [hperm.length_eq]; simp
                have c6 : w6.ownsRow w1.heap.size 3 1 (.slice (some ⟨w1.heap.size, 0, none⟩) ls.length ls.length) ls.length (i64s ((column ls k).mergeSort fun x y => decide (x ≤ y))) := by
                  have := ownsRow_sortedI (base := w1.heap.size) (n := nn) (os := os) (ss := column ls k) (ts := (column ls k).mergeSort fun x y => decide (x ≤ y)) (cap := ls.length) (by simp) (Nat.le_refl _) hcur (by simp) hm2 (by omega)
                  rw [← hw6, column_length] at this
                  exact this
                clear hw6
                have b6 := hb.kept g6 (by simp; omega)
                have o6 := ho.kept g6 (.inr (by simp [Value.ownBlock]; omega))
                have hlt6 : ls.length - nd < ls.length := by omega
                have hq := Vec.sort_quorum (column ls k) HPOS.out nd (by omega) (by simp; omega) (by rw [hsl]; simp; omega)
                have hcell6 : w6.cell? ⟨w1.heap.size, ls.length - nd, none⟩ = some (.int .i64 (Vec.quorumNum (column ls k) nd)) := by
                  rw [c6.cellAt _ (by omega), ← hq]
                  simp [i64s, hlt6, hsl]
                have hbc6 := b6.cell
                have hql : (quor ls nd).length = nx0 := by rw [quor_length]; exact HN.out.symm
                have hfl : (filled (quor ls nd) k).length = nx0 := by rw [filled_len _ _ (by omega), hql]
                obtain ⟨y6, hoc6⟩ : ∃ y, w6.cell? ⟨g, k, none⟩ = some (.int .i64 y) := by
                  refine ⟨(filled (quor ls nd) k)[k]'(by omega), ?_⟩
                  rw [o6.cellAt k (by omega)]
                  simp [i64s]
                have hof6 := o6.frozenAt k
                have hsub : IntKind.i64.wrap ((ls.length : Int) - (nd : Int)) = ((ls.length - nd : Nat) : Int) := by
                  rw [IntWalk.i64_in _ (by omega)]; omega
                have HC6 := Lib.hid c6
                have HO6 := Lib.hid o6
                have HQL := Lib.hid hql
                have hmk : ∀ D' ∈ Ds, D' ≠ D := fun D' hD' e => by have := (h3m D' hD').2.1; omega
                have hm6 : ∀ D' ∈ D :: Ds, w.heap.size ≤ D' ∧ D' < w6.heap.size ∧ w6.heap[D']? = some (.deferred (some [])) := by
                  intro D' hD'
                  have hq : w.heap.size ≤ D' ∧ D' < W.heap.size ∧ W.heap[D']? = some (.deferred (some [])) := by
                    rcases List.mem_cons.1 hD' with rfl | h
                    · exact ⟨by omega, (Array.getElem?_eq_some_iff.1 hK).1, hK⟩
                    · exact hm D' h
                  obtain ⟨q1, q2, q3⟩ := hq
                  refine ⟨q1, Nat.lt_of_lt_of_le q2 g6.size, (g6.block D' q2 (fun e => ?_)).trans q3⟩
                  injection e with e
                  rw [e, hcur] at q3
                  cases q3
                have HM6 := Lib.hid hm6
                clear c6 o6 hq hperm hsl hql hfl hm6 hmk
                go_wp2_with fail
                have hkq : k < (quor ls nd).length := by rw [HQL.out]; exact hlt
                have hst := HO6.out.stored k (.int .i64 (Vec.quorumNum (column ls k) nd))
                rw [← i64s_set2, ← quor_get ls nd k hkq, ← filled_succ _ k hkq] at hst
                rw [quor_get ls nd k hkq] at hst
                refine ⟨⟨k + 1, ls.length, D :: Ds, _, _, _, _, _, _, _, _, _, _, _, _, _, _, _, _, _, _, _, _, _, by omega, Nat.le_refl _, ?_, ?_, rfl⟩, ?_⟩
                · rw [List.nodup_cons]
                  exact ⟨fun h => by have := (h3m D h).2.1; omega, hnd⟩
                · refine ⟨(he.grown g6 he.size (fun j ej => by injection ej with ej; omega)).setCell (p := ⟨g, k, none⟩) hge _, hst.1, b6.kept hst.2 (by simp; omega), ⟨_, HC6.out.kept hst.2 (.inr (by simp [Value.ownBlock]; omega))⟩, fun D' hD' => ?_⟩
                  obtain ⟨q1, q2, q3⟩ := HM6.out D' hD'
                  refine ⟨q1, Nat.lt_of_lt_of_le q2 hst.2.size, (hst.2.block D' q2 (fun e => ?_)).trans q3⟩
                  injection e with e
                  obtain ⟨cur2, hcur2, _⟩ := row_cells HO6.out
                  rw [e, hcur2] at q3
                  cases q3
                · simp [intOf]; omega
            · obtain rfl : k = nx0 := by omega
              go_wp2
              have hrl : (quor ls nd).length = k := by rw [quor_length]; exact HN.out.symm
              have hfin := hI.out
              rw [show filled (quor ls nd) k = quor ls nd from by rw [← hrl]; exact filled_all _] at hfin
              refine leaves_marks (n₀ := w.heap.size) (fun W => Below w.heap.size w W ∧ W.ownsRow w.heap.size 3 1 (.slice (some ⟨g, 0, none⟩) k cap1) k (i64s (quor ls nd))) ?_ ?_ Ds wr ⟨hI.ext, hfin⟩ hnd (fun D hD => ⟨(hI.mks D hD).1, (hI.mks D hD).2.2⟩)
              · rintro W D ⟨h3, h4⟩ h5 h6
                exact ⟨h3.trans (belowK_b (w := w) (Nat.le_refl _) W D _ _ h5 h6 rfl rfl), ownsRow_putObj h4 _ h6 rfl⟩
              · rintro W ⟨h3, h4⟩
                exact ⟨_, results_tmp2 rfl _ _ _, _, by rw [HOK.out]; rfl, by rw [HOK.out]; exact Sl.ofOwn (by simpa [hrl] using h4), h3⟩
end Go.Proofs.Ytnoeconcpgdjlaa

namespace Go.Proofs.Ytnoeconcpgdjlaa
open Go.ChangeShapes Go.WideShapes Go.ChangeAt Go.RowKit
/- What comes in, as rows of numbers. No program. -/
section
variable {H : Type} {enc : TypeId × Value → H} {P : Program} {w : World} {base : Nat} {spare : Nat → Bool} {held : Bool}
theorem ints_of_raw {t e : TypeId} {fuel : Nat} {cs : List Value} {x : DataW H × List MemPlace} (ht : P.underlying t = some (.slice e)) (he : P.underlying e = some (.int .i64)) (hc : P.cellsOf e = 1)
    (h : DataW.trod enc P w base spare held fuel t cs = some x) : ∃ v l, cs = [v] ∧ Ints w v l := by
  obtain ⟨v, xs, rfl, hs, hx⟩ := sl_of_raw ht hc h
  have : ∀ i (hi : i < xs.length), ∃ x : Int, xs[i] = .int .i64 x := by
    intro i hi
    obtain ⟨f, y, hy⟩ := hx i hi
    obtain ⟨n, e1, _, hw⟩ := DataW.trod_int he hy
    injection e1 with e1 _
    exact ⟨n, e1⟩
  have key : ∀ l : List Value, (∀ i (hi : i < l.length), ∃ x : Int, l[i] = .int .i64 x) → ∃ m : List Int, l = i64s m := by
    intro l
    induction l with
    | nil => intro _; exact ⟨[], rfl⟩
    | cons a l ih =>
      intro hl
      obtain ⟨m, rfl⟩ := ih (fun i hi => by have := hl (i + 1) (by simpa using hi); simpa using this)
      obtain ⟨z, hz⟩ := hl 0 (by simp)
      exact ⟨z :: m, by simp only [List.getElem_cons_zero] at hz; rw [hz]; rfl⟩
  obtain ⟨m, rfl⟩ := key xs this
  exact ⟨v, m, rfl, hs⟩
end
end Go.Proofs.Ytnoeconcpgdjlaa
