/-
  Merged: Layer 3, the program: what asks whether rows of numbers are vectors; Layer 3, the program: what compares rows of numbers, and adds them up; Layer 3, the program: a vector as bytes; Rows of numbers of the call's own: what stage 3's later texts share; Layer 3: bytes as a vector: mathematics, the program; Layer 3, mathematics: what was written as a vector is read as it was; Layer 3: a vector as bytes, and bytes as a vector: the document's own answers; Rows of rows of numbers, all of the call's own; The library's slices; What comes in, as rows of numbers.
-/
import Derived.Laws.OwnMore
import Derived.Lib.ConvBytes
import Derived.Test.YtkpcmedmiiohnaaBsLib
import Derived.Test.YtkpcmedmiiohnaaBsMath
import Derived.Test.YtkpcmedmiiohnaaBsPack

set_option linter.unusedSimpArgs false
set_option linter.unusedVariables false

namespace Go.Proofs.Ytkpcmedmiiohnaa
open Go.RowKit
/- Layer 3, the program: what asks whether rows of numbers are vectors. -/
theorem tI : ElemOf Try.prog 22 3 (.int .i64 0) 8 := ⟨Try.underlying22, by kernel_rfl, rfl⟩
theorem i64s_one (l : List Int) : ∀ y ∈ i64s l, y.oneCell' = true := by
  intro y hy
  obtain ⟨_, _, rfl⟩ := List.mem_map.1 hy
  rfl
@[simp] theorem i64s_append (l m : List Int) : i64s (l ++ m) = i64s l ++ i64s m := by simp [i64s]
theorem Ints.isSlice {w : World} {v : Value} {l : List Int} (h : Ints w v l) : ∃ a n c, v = .slice a n c := by
  obtain ⟨a, cap, rfl, _⟩ := h.open
  exact ⟨_, _, _, rfl⟩
theorem Ints.len {w : World} {a : Option Addr} {n c : Nat} {l : List Int} (h : Ints w (.slice a n c) l) : n = l.length ∧ n ≤ c ∧ c ≤ 9223372036854775807 := by
  obtain ⟨_, _, e, h1, h2, _⟩ := h.open
  injection e with e1 e2 e3
  subst e3
  unfold maxLen at h2
  omega
theorem Ints.inj {w : World} {v : Value} {l m : List Int} (h : Ints w v l) (k : Ints w v m) : l = m := by
  obtain ⟨a, cap, rfl, h1, h2, _, h3⟩ := h.open
  obtain ⟨a', cap', e, k1, k2, _, k3⟩ := k.open
  injection e with e1 e2 e3
  subst e1 e3
  refine List.ext_getElem e2 fun i hi hi' => ?_
  obtain ⟨b, off, rfl, hc⟩ := h3 i hi
  obtain ⟨b', off', e', hc'⟩ := k3 i hi'
  injection e' with e'; injection e' with e4 e5
  subst e4 e5
  rw [hc] at hc'
  injection hc' with hc'; injection hc' with _ hc'
theorem ints_none (w : World) : Ints w (.slice none 0 0) [] := ⟨none, 0, rfl, Nat.le_refl _, by simp [maxLen], fun _ => rfl, fun i hi => absurd hi (by simp [i64s])⟩

set_option maxRecDepth 100000 in
set_option maxHeartbeats 1000000 in
theorem isCount_any (n : Int) (w : World) : Calls Try.prog 75 #[.int .i64 n] w fun e w' => e = .returned (.bool (Vec.okOne n)) ∧ w = w' := by
  by_cases h0 : 0 ≤ n
  · by_cases h1 : n ≤ 1099511627776
    · have e : Vec.okOne n = true := by unfold Vec.okOne; simp; omega
      rw [e]
      clear e
      go_enter Try.func75, Try.ntmps75
      go_wp2
      go_ret
      exact ⟨rfl, rfl⟩
    · have e : Vec.okOne n = false := by unfold Vec.okOne; simp; omega
      rw [e]
      clear e
      go_enter Try.func75, Try.ntmps75
      go_wp2
      go_ret
      exact ⟨rfl, rfl⟩
  · have e : Vec.okOne n = false := by unfold Vec.okOne; simp; omega
    rw [e]
    clear e
    go_enter Try.func75, Try.ntmps75
    go_wp2
    go_ret
    exact ⟨rfl, rfl⟩

set_option maxRecDepth 100000 in
set_option maxHeartbeats 1000000 in
theorem wrongOne_any (n : Int) (w : World) : Calls Try.prog 74 #[.int .i64 n] w fun e w' => e = .returned (.bool (!Vec.okOne n)) ∧ w = w' := by
  go_enter Try.func74, Try.ntmps74
  go_wp2_with (go_at_call 75; refine (isCount_any n _).mono ?_; rintro e w' ⟨rfl, rfl⟩)
  go_ret
  exact ⟨rfl, rfl⟩

set_option maxRecDepth 100000 in
set_option maxHeartbeats 1000000 in
theorem index3_any (v : Value) (ns : List Int) (w : World) (hv : Ints w v ns) :
    Calls Try.prog 76 #[v, .func (.func 74) #[] #[]] w fun e w' => (∃ i : Int, e = .returned (.int .i64 i) ∧ (decide (0 ≤ i)) = !(ns.all Vec.okOne)) ∧ w = w' := by
  obtain ⟨a, cap, rfl, hcap, hmax, _, hc⟩ := hv.open
  unfold maxLen at hmax
  go_enter Try.func76, Try.ntmps76
  go_wp2
  go_loop [5, 8] (fun _ i => ∃ k : Nat, k ≤ ns.length ∧ i = .int .i64 k ∧ Hid ((ns.take k).all Vec.okOne = true)) (fun _ i => ns.length - (intOf i).toNat)
  case atStart => exact ⟨0, by omega, rfl, by simp [Hid]⟩
  case round =>
    obtain ⟨k, hk, rfl, hr⟩ := hrel
    by_cases hlt : k < ns.length
    · obtain ⟨b, off, rfl, hcell⟩ := hc k hlt
      clear hc
      cases hb : Vec.okOne ns[k] with
      | true =>
        have HB := Lib.hid hb
        clear hb
        go_wp2_with (go_at_call 74; refine (wrongOne_any ns[k] _).mono ?_; rintro e w' ⟨rfl, rfl⟩; rw [HB.out])
        go_round
        case rel => exact ⟨k + 1, by omega, by go_num, by unfold Hid; rw [take_succ_getD ns k hlt, List.all_append, hr.out]; simp [HB.out]⟩
        case measure => simp [intOf]; omega
      | false =>
        have HB := Lib.hid hb
        clear hb
        go_wp2_with (go_at_call 74; refine (wrongOne_any ns[k] _).mono ?_; rintro e w' ⟨rfl, rfl⟩; rw [HB.out])
        go_ret
        refine ⟨⟨k, rfl, ?_⟩, rfl⟩
        have : ns.all Vec.okOne = false := by
          rw [List.all_eq_false]
          exact ⟨ns[k], List.getElem_mem _, by rw [HB.out]; simp⟩
        rw [this]
        simp
    · have hs : Hid (ns.all Vec.okOne = true) := by
        have := hr.out; rw [List.take_of_length_le (by omega)] at this; exact this
      clear hr hc
      go_wp2
      go_ret
      exact ⟨⟨-1, rfl, by rw [hs.out]; simp⟩, rfl⟩

set_option maxRecDepth 100000 in
set_option maxHeartbeats 1000000 in
theorem contains3_any (v : Value) (ns : List Int) (w : World) (hv : Ints w v ns) :
    Calls Try.prog 73 #[v, .func (.func 74) #[] #[]] w fun e w' => e = .returned (.bool (!(ns.all Vec.okOne))) ∧ w = w' := by
  go_enter Try.func73, Try.ntmps73
  go_wp2_with (go_at_call 76; refine (index3_any v ns _ hv).mono ?_; rintro e w' ⟨⟨i, rfl, hi⟩, rfl⟩)
  go_ret
  exact ⟨by rw [← hi]; rfl, rfl⟩

set_option maxRecDepth 100000 in
set_option maxHeartbeats 1000000 in
theorem right_any (v : Value) (ns : List Int) (w : World) (hv : Ints w v ns) :
    Calls Try.prog 71 #[v] w fun e w' => e = .returned (.bool (Vec.right ns)) ∧ w = w' := by
  have HV := Lib.hid hv
  obtain ⟨a, cap, rfl, hcap, hmax, _, _⟩ := hv.open
  unfold maxLen at hmax
  clear hv
  by_cases h1 : (ns.length : Int) < 1
  · have e : Vec.right ns = false := by unfold Vec.right; simp; omega
    rw [e]
    clear e
    go_enter Try.func71, Try.ntmps71
    go_wp2
    go_ret
    exact ⟨rfl, rfl⟩
  · by_cases h8 : (8 : Int) < (ns.length : Int)
    · have e : Vec.right ns = false := by unfold Vec.right; simp; omega
      rw [e]
      clear e
      go_enter Try.func71, Try.ntmps71
      go_wp2
      go_ret
      exact ⟨rfl, rfl⟩
    · have e : Vec.right ns = ns.all Vec.okOne := by
        unfold Vec.right
        rw [decide_eq_true (by omega), Bool.and_true]
      rw [e]
      clear e
      go_enter Try.func71, Try.ntmps71
      go_wp2_with (go_at_call 73; refine (contains3_any _ ns _ HV.out).mono ?_; rintro e w' ⟨rfl, rfl⟩)
      go_ret
      exact ⟨by simp, rfl⟩

set_option maxRecDepth 100000 in
set_option maxHeartbeats 1000000 in
theorem oneKind_any (v u : Value) (ns ms : List Int) (w : World) (hv : Ints w v ns) (hu : Ints w u ms) :
    Calls Try.prog 72 #[v, u] w fun e w' => e = .returned (.bool (Vec.kind ns ms)) ∧ w = w' := by
  have HV := Lib.hid hv
  have HU := Lib.hid hu
  obtain ⟨a, cap, rfl, hcap, hmax, _, _⟩ := hv.open
  obtain ⟨a2, cap2, rfl, hcap2, hmax2, _, _⟩ := hu.open
  unfold maxLen at hmax hmax2
  clear hv hu
  by_cases h1 : ns.length = ms.length
  · have h1' : ((ns.length : Int) == (ms.length : Int)) = true := by rw [h1]; simp
    have HL := Lib.hid h1
    cases hr : Vec.right ns with
    | true =>
      have e : Vec.kind ns ms = Vec.right ms := by unfold Vec.kind; rw [hr, decide_eq_true h1]; simp
      rw [e]
      have HR := Lib.hid hr
      clear e hr h1
      go_enter Try.func72, Try.ntmps72
      go_wp2_with fail
      refine (right_any _ ns _ HV.out).mono ?_
      rintro e w1 ⟨rfl, rfl⟩
      rw [HR.out]
      go_wp2_with fail
      refine (right_any _ ms _ HU.out).mono ?_
      rintro e w1 ⟨rfl, rfl⟩
      go_wp2_with fail
      go_ret
      exact ⟨rfl, rfl⟩
    | false =>
      have e : Vec.kind ns ms = false := by unfold Vec.kind; rw [hr]; simp
      rw [e]
      have HR := Lib.hid hr
      clear e hr h1
      go_enter Try.func72, Try.ntmps72
      go_wp2_with fail
      refine (right_any _ ns _ HV.out).mono ?_
      rintro e w1 ⟨rfl, rfl⟩
      rw [HR.out]
      go_wp2_with fail
      go_ret
      exact ⟨rfl, rfl⟩
  · have e : Vec.kind ns ms = false := by unfold Vec.kind; rw [decide_eq_false h1]; simp
    rw [e]
    have h1' : ((ns.length : Int) == (ms.length : Int)) = false := by rw [beq_eq_false_iff_ne]; omega
    have HL := Lib.hid h1
    clear h1 e
    go_enter Try.func72, Try.ntmps72
    go_wp2
    go_ret
    exact ⟨rfl, rfl⟩

set_option maxRecDepth 100000 in
set_option maxHeartbeats 1000000 in
theorem refRight_any (v : Value) (ns : List Int) (w : World) (hv : Ints w v ns) :
    Calls Try.prog 67 #[v] w fun e w' => e = .returned (.bool (Vec.right ns)) ∧ w = w' := by
  obtain ⟨a, cap, rfl, hcap, hmax, _, hc⟩ := hv.open
  unfold maxLen at hmax
  go_enter Try.func67, Try.ntmps67
  go_wp2
  go_loop [3] (fun i => ∃ k : Nat, k ≤ ns.length ∧ i = .int .i64 k ∧ Hid ((ns.take k).all Vec.okOne = true)) (fun i => ns.length - (intOf i).toNat)
  case atStart => exact ⟨0, by omega, rfl, by simp [Hid]⟩
  case round =>
    obtain ⟨k, hk, rfl, hr⟩ := hrel
    by_cases hlt : k < ns.length
    · obtain ⟨b, off, rfl, hcell⟩ := hc k hlt
      clear hc
      have bad : Vec.okOne ns[k] = false → Vec.right ns = false := by
        intro h
        have : ns.all Vec.okOne = false := by
          rw [List.all_eq_false]
          exact ⟨ns[k], List.getElem_mem _, by rw [h]; simp⟩
        unfold Vec.right
        rw [this]
        rfl
      by_cases h0 : ns[k] < 0
      · have e := Lib.hid (bad (by unfold Vec.okOne; simp; omega))
        clear bad
        go_wp2
        go_ret
        exact ⟨by rw [e.out]; rfl, rfl⟩
      · by_cases h1 : (1099511627776 : Int) < ns[k]
        · have e := Lib.hid (bad (by unfold Vec.okOne; simp; omega))
          clear bad
          go_wp2
          go_ret
          exact ⟨by rw [e.out]; rfl, rfl⟩
        · have ok := Lib.hid (show Vec.okOne ns[k] = true by unfold Vec.okOne; simp; omega)
          clear bad
          go_wp2
          go_round
          case rel => exact ⟨k + 1, by omega, by go_num, by unfold Hid; rw [take_succ_getD ns k hlt, List.all_append, hr.out]; simp [ok.out]⟩
          case measure => simp [intOf]; omega
    · have hs : Hid (ns.all Vec.okOne = true) := by
        have := hr.out; rw [List.take_of_length_le (by omega)] at this; exact this
      clear hr hc
      by_cases g1 : (0 : Int) < (ns.length : Int)
      · by_cases g9 : (ns.length : Int) < 9
        · have e := Lib.hid (show Vec.right ns = true by unfold Vec.right; rw [hs.out]; simp; omega)
          go_wp2
          go_ret
          exact ⟨by rw [e.out]; rfl, rfl⟩
        · have e := Lib.hid (show Vec.right ns = false by unfold Vec.right; simp; omega)
          go_wp2
          go_ret
          exact ⟨by rw [e.out]; rfl, rfl⟩
      · have e := Lib.hid (show Vec.right ns = false by unfold Vec.right; simp; omega)
        go_wp2
        go_ret
        exact ⟨by rw [e.out]; rfl, rfl⟩

set_option maxRecDepth 100000 in
set_option maxHeartbeats 1000000 in
theorem refKind_any (v u : Value) (ns ms : List Int) (w : World) (hv : Ints w v ns) (hu : Ints w u ms) :
    Calls Try.prog 69 #[v, u] w fun e w' => e = .returned (.bool (Vec.kind ns ms)) ∧ w = w' := by
  have HV := Lib.hid hv
  have HU := Lib.hid hu
  obtain ⟨a, cap, rfl, hcap, hmax, _, _⟩ := hv.open
  obtain ⟨a2, cap2, rfl, hcap2, hmax2, _, _⟩ := hu.open
  unfold maxLen at hmax hmax2
  clear hv hu
  cases hr : Vec.right ns with
  | true =>
    have HR := Lib.hid hr
    cases hs : Vec.right ms with
    | true =>
      have HS := Lib.hid hs
      have e : Vec.kind ns ms = ((ns.length : Int) == (ms.length : Int)) := by
        unfold Vec.kind; rw [hr, hs]
        rw [Bool.eq_iff_iff]
        simp
        constructor <;> intro h <;> omega
      rw [e]
      clear e hr hs
      go_enter Try.func69, Try.ntmps69
      go_wp2_with fail
      refine (refRight_any _ ns _ HV.out).mono ?_
      rintro e w1 ⟨rfl, rfl⟩
      rw [HR.out]
      go_wp2_with fail
      refine (refRight_any _ ms _ HU.out).mono ?_
      rintro e w1 ⟨rfl, rfl⟩
      rw [HS.out]
      go_wp2_with fail
      go_ret
      exact ⟨rfl, rfl⟩
    | false =>
      have HS := Lib.hid hs
      have e : Vec.kind ns ms = false := by unfold Vec.kind; rw [hs]; simp
      rw [e]
      clear e hr hs
      go_enter Try.func69, Try.ntmps69
      go_wp2_with fail
      refine (refRight_any _ ns _ HV.out).mono ?_
      rintro e w1 ⟨rfl, rfl⟩
      rw [HR.out]
      go_wp2_with fail
      refine (refRight_any _ ms _ HU.out).mono ?_
      rintro e w1 ⟨rfl, rfl⟩
      rw [HS.out]
      go_wp2_with fail
      go_ret
      exact ⟨rfl, rfl⟩
  | false =>
    have e : Vec.kind ns ms = false := by unfold Vec.kind; rw [hr]; simp
    rw [e]
    have HR := Lib.hid hr
    clear e hr
    go_enter Try.func69, Try.ntmps69
    go_wp2_with fail
    refine (refRight_any _ ns _ HV.out).mono ?_
    rintro e w1 ⟨rfl, rfl⟩
    rw [HR.out]
    go_wp2_with fail
    go_ret
    exact ⟨rfl, rfl⟩

/-- A row of numbers of the call's own. -/
def OwnI (w : World) (base : Nat) (v : Value) (l : List Int) : Prop := w.ownsRow base 3 1 v l.length (i64s l)
theorem OwnI.ints {w : World} {base : Nat} {v : Value} {l : List Int} (h : OwnI w base v l) : Ints w v l := Sl.ofOwn h
theorem OwnI.nil (w : World) (base : Nat) : OwnI w base (.slice none 0 0) [] := World.ownsRow_nil _ _ _ _
/-- A call that hands back an own row of numbers. -/
def GivesOwnI (base : Nat) (w : World) (l : List Int) (e : Ending) (w' : World) : Prop := ∃ u, e = .returned u ∧ OwnI w' base u l ∧ Below base w w'
/-- These, or none. -/
def orNone : Bool → List Int → List Int
  | true, l => l
  | false, _ => []
@[simp] theorem orNone_true (l : List Int) : orNone true l = l := rfl
@[simp] theorem orNone_false (l : List Int) : orNone false l = [] := rfl

/-- How many zeros. -/
def zeros (n : Int) : List Int := if 1 ≤ n ∧ n ≤ 8 then List.replicate n.toNat 0 else []
theorem made_zeros (m : Nat) : (madeCells (Value.int .i64 0).cells (m * 1)).toList = i64s (List.replicate m 0) := by
  rw [Nat.mul_one, show (Value.int .i64 0).cells = #[Value.int .i64 0] from rfl, toList_madeCells_one]
  simp [i64s]
set_option maxRecDepth 100000 in
set_option maxHeartbeats 1000000 in
theorem zero_any (n : Int) (w : World) : Calls Try.prog 66 #[.int .i64 n] w (GivesOwnI w.heap.size w (zeros n)) := by
  by_cases h1 : n < 1
  · have e : zeros n = [] := by unfold zeros; rw [if_neg (by omega)]
    rw [e]
    clear e
    go_enter Try.func66, Try.ntmps66
    go_wp2
    go_ret
    exact ⟨_, rfl, OwnI.nil _ _, Below.refl _ _⟩
  · by_cases h8 : (8 : Int) < n
    · have e : zeros n = [] := by unfold zeros; rw [if_neg (by omega)]
      rw [e]
      clear e
      go_enter Try.func66, Try.ntmps66
      go_wp2
      go_ret
      exact ⟨_, rfl, OwnI.nil _ _, Below.refl _ _⟩
    · obtain ⟨m, rfl⟩ : ∃ m : Nat, n = (m : Int) := ⟨n.toNat, by omega⟩
      have e : zeros (m : Int) = List.replicate m 0 := by unfold zeros; rw [if_pos (by omega)]; simp
      rw [e]
      clear e
      have hm : m ≤ 9223372036854775807 := by omega
      have hm2 : 8 * m ≤ 281474976710656 := by omega
      go_enter Try.func66, Try.ntmps66
      go_wp2_with (refine wpList_mkfull rfl (.tmp 9) (.tmp 9) tI rfl w.heap.size m rfl rfl hm2 (by unfold maxLen; omega) (Nat.le_refl _) ?_; intro w1 hown1 hg1)
      go_ret
      exact ⟨_, rfl, by rw [made_zeros] at hown1; simpa [OwnI] using hown1, (Below.refl _ w).grown hg1 (Nat.le_refl _) (fun k hk => by cases hk)⟩
/- Layer 3, the program: what compares rows of numbers, and adds them up. -/
theorem Vec.ge_none {a b : List Int} (hl : a.length = b.length) (k : Nat) (hk : k < a.length) (hb : k < b.length) (h : a[k] < b[k]) : Vec.ge a b = false := by
  rw [← Bool.not_eq_true, Vec.ge_iff a b hl]
  intro g
  have := g k hk hb
  omega
theorem Vec.ge_all {a b : List Int} (hl : a.length = b.length) (h : ∀ i, i < a.length → ∀ (h1 : i < a.length) (h2 : i < b.length), b[i] ≤ a[i]) : Vec.ge a b = true := by
  rw [Vec.ge_iff a b hl]
  intro i h1 h2
  exact h i h1 h1 h2

set_option maxRecDepth 100000 in
set_option maxHeartbeats 1000000 in
theorem covers_any (v u : Value) (ns ms : List Int) (w : World) (hv : Ints w v ns) (hu : Ints w u ms) :
    Calls Try.prog 65 #[v, u] w fun e w' => e = .returned (.bool (Vec.covers ns ms)) ∧ w = w' := by
  have HV := Lib.hid hv
  have HU := Lib.hid hu
  obtain ⟨a, cap, rfl, hcap, hmax, _, hc⟩ := hv.open
  obtain ⟨a2, cap2, rfl, hcap2, hmax2, _, hc2⟩ := hu.open
  unfold maxLen at hmax hmax2
  clear hv hu
  cases hk : Vec.kind ns ms with
  | false =>
    have HK := Lib.hid hk
    have e : Vec.covers ns ms = false := by unfold Vec.covers; rw [hk]; rfl
    rw [e]
    clear e hk hc hc2
    go_enter Try.func65, Try.ntmps65
    go_wp2_with fail
    refine (oneKind_any _ _ ns ms _ HV.out HU.out).mono ?_
    rintro e w1 ⟨rfl, rfl⟩
    rw [HK.out]
    go_wp2_with fail
    go_ret
    exact ⟨rfl, rfl⟩
  | true =>
    have HK := Lib.hid hk
    have HC := Lib.hid hc
    have HC2 := Lib.hid hc2
    have HL := Lib.hid (Vec.kind_ok hk).2.2
    have e : Vec.covers ns ms = Vec.ge ns ms := by unfold Vec.covers; rw [hk]; rfl
    rw [e]
    clear e hk hc hc2
    go_enter Try.func65, Try.ntmps65
    go_wp2_with fail
    refine (oneKind_any _ _ ns ms _ HV.out HU.out).mono ?_
    rintro e w1 ⟨rfl, rfl⟩
    rw [HK.out]
    go_wp2_with fail
    go_loop [5, 6, 13] (fun _ _ i => ∃ k : Nat, k ≤ ns.length ∧ i = .int .i64 k ∧ Hid (∀ i, i < k → ∀ (h1 : i < ns.length) (h2 : i < ms.length), ms[i] ≤ ns[i])) (fun _ _ i => ns.length - (intOf i).toNat)
    case atStart => exact ⟨0, by omega, rfl, fun i hi => absurd hi (by omega)⟩
    case round =>
      obtain ⟨k, hk, rfl, hr⟩ := hrel
      by_cases hlt : k < ns.length
      · have hlt2 : k < ms.length := by have := HL.out; omega
        obtain ⟨b, off, rfl, hcell⟩ := HC.out k hlt
        obtain ⟨b2, off2, rfl, hcell2⟩ := HC2.out k hlt2
        by_cases h0 : ns[k] < ms[k]
        · go_wp2
          go_ret
          exact ⟨by rw [Vec.ge_none HL.out k hlt hlt2 h0]; rfl, rfl⟩
        · go_wp2
          go_round
          case rel =>
            refine ⟨k + 1, by omega, by go_num, fun i hi h1 h2 => ?_⟩
            rcases Nat.lt_or_ge i k with h | h
            · exact hr.out i h h1 h2
            · obtain rfl : i = k := by omega
              omega
          case measure => simp [intOf]; omega
      · have hs := Lib.hid (Vec.ge_all HL.out (fun i h => hr.out i (by omega)))
        clear hr
        go_wp2
        go_ret
        exact ⟨by rw [hs.out]; rfl, rfl⟩

set_option maxRecDepth 100000 in
set_option maxHeartbeats 1000000 in
theorem refCovers_any (v u : Value) (ns ms : List Int) (w : World) (hv : Ints w v ns) (hu : Ints w u ms) :
    Calls Try.prog 63 #[v, u] w fun e w' => e = .returned (.bool (Vec.covers ns ms)) ∧ Ext w w' := by
  have HV := Lib.hid hv
  have HU := Lib.hid hu
  obtain ⟨a, cap, rfl, hcap, hmax, _, hc⟩ := hv.open
  obtain ⟨a2, cap2, rfl, hcap2, hmax2, _, hc2⟩ := hu.open
  unfold maxLen at hmax hmax2
  clear hv hu
  cases hk : Vec.kind ns ms with
  | false =>
    have HK := Lib.hid hk
    have e : Vec.covers ns ms = false := by unfold Vec.covers; rw [hk]; rfl
    rw [e]
    clear e hk hc hc2
    go_enter Try.func63, Try.ntmps63
    go_wp2_with fail
    refine (refKind_any _ _ ns ms _ HV.out HU.out).mono ?_
    rintro e w1 ⟨rfl, rfl⟩
    rw [HK.out]
    go_wp2_with fail
    go_ret
    exact ⟨rfl, Ext.refl _⟩
  | true =>
    have HK := Lib.hid hk
    have HC := Lib.hid hc
    have HC2 := Lib.hid hc2
    have HL := Lib.hid (Vec.kind_ok hk).2.2
    have e : Vec.covers ns ms = Vec.ge ns ms := by unfold Vec.covers; rw [hk]; rfl
    rw [e]
    clear e hk hc hc2
    go_enter Try.func63, Try.ntmps63
    go_wp2_with fail
    refine (refKind_any _ _ ns ms _ HV.out HU.out).mono ?_
    rintro e w1 ⟨rfl, rfl⟩
    rw [HK.out]
    go_wp2_with fail
    go_loopw [5] (fun i wr => ∃ k : Nat, k ≤ ns.length ∧ i = .int .i64 k ∧ Hid (∀ i, i < k → ∀ (h1 : i < ns.length) (h2 : i < ms.length), ms[i] ≤ ns[i]) ∧ Ext w wr) (fun i _ => ns.length - (intOf i).toNat)
    case atStart => exact ⟨0, by omega, rfl, fun i hi => absurd hi (by omega), Ext.refl _⟩
    case round =>
      obtain ⟨k, hk, rfl, hr, hE⟩ := hrel
      by_cases hlt : k < ns.length
      · have hlt2 : k < ms.length := by have := HL.out; omega
        obtain ⟨a', cap', e', _, _, _, hc⟩ := ((HV.out.below hE).below (Ext.drew wr)).open
        obtain ⟨b, off, rfl, hcell⟩ := hc k hlt
        injection e' with e1 e2 e3
        subst e1
        obtain ⟨a3, cap3, e', _, _, _, hc2⟩ := ((HU.out.below hE).below (Ext.drew wr)).open
        obtain ⟨b2, off2, rfl, hcell2⟩ := hc2 k hlt2
        injection e' with e4 e5 e6
        subst e4
        clear hc hc2 e2 e3 e5 e6
        by_cases h0 : ns[k] < ms[k]
        · go_wp2_with fail
          go_region
          go_wp2
          go_ret
          exact ⟨by rw [Vec.ge_none HL.out k hlt hlt2 h0]; rfl, hE.trans (Ext.drew _)⟩
        · go_wp2_with fail
          go_region
          go_wp2
          go_roundw
          case rel =>
            refine ⟨k + 1, by omega, by go_num, fun i hi h1 h2 => ?_, hE.trans (Ext.drew _)⟩
            rcases Nat.lt_or_ge i k with h | h
            · exact hr.out i h h1 h2
            · obtain rfl : i = k := by omega
              omega
          case measure => simp [intOf]; omega
      · have hs := Lib.hid (Vec.ge_all HL.out (fun i h => hr.out i (by omega)))
        clear hr
        go_wp2
        go_ret
        exact ⟨by rw [hs.out]; rfl, hE⟩

theorem list_ne {a b : List Int} (k : Nat) (h1 : k < a.length) (h2 : k < b.length) (h : a[k] ≠ b[k]) : (a == b) = false := by
  rw [beq_eq_false_iff_ne]
  rintro rfl
  exact h rfl
theorem list_same {a b : List Int} (hl : a.length = b.length) (h : ∀ i, i < a.length → ∀ (h1 : i < a.length) (h2 : i < b.length), a[i] = b[i]) : (a == b) = true := by
  rw [beq_iff_eq]
  exact List.ext_getElem hl fun i h1 h2 => h i h1 h1 h2
theorem list_other {a b : List Int} (hl : ¬ a.length = b.length) : (a == b) = false := by
  rw [beq_eq_false_iff_ne]
  rintro rfl
  exact hl rfl

set_option maxRecDepth 100000 in
set_option maxHeartbeats 1000000 in
theorem equal3_any (v u : Value) (ns ms : List Int) (w : World) (hv : Ints w v ns) (hu : Ints w u ms) :
    Calls Try.prog 51 #[v, u] w fun e w' => e = .returned (.bool (ns == ms)) ∧ Ext w w' := by
  have HV := Lib.hid hv
  have HU := Lib.hid hu
  obtain ⟨a, cap, rfl, hcap, hmax, _, hc⟩ := hv.open
  obtain ⟨a2, cap2, rfl, hcap2, hmax2, _, hc2⟩ := hu.open
  unfold maxLen at hmax hmax2
  clear hv hu
  by_cases hl : ns.length = ms.length
  · have h1' : ((ns.length : Int) == (ms.length : Int)) = true := by rw [hl]; simp
    have HC := Lib.hid hc
    have HC2 := Lib.hid hc2
    have HL := Lib.hid hl
    clear hc hc2 hl
    go_enter Try.func51, Try.ntmps51
    go_wp2_with fail
    go_loopw [5] (fun i wr => ∃ k : Nat, k ≤ ns.length ∧ i = .int .i64 k ∧ Hid (∀ i, i < k → ∀ (h1 : i < ns.length) (h2 : i < ms.length), ns[i] = ms[i]) ∧ Ext w wr) (fun i _ => ns.length - (intOf i).toNat)
    case atStart => exact ⟨0, by omega, rfl, fun i hi => absurd hi (by omega), Ext.refl _⟩
    case round =>
      obtain ⟨k, hk, rfl, hr, hE⟩ := hrel
      by_cases hlt : k < ns.length
      · have hlt2 : k < ms.length := by have := HL.out; omega
        obtain ⟨a', cap', e', _, _, _, hc⟩ := ((HV.out.below hE).below (Ext.drew wr)).open
        obtain ⟨b, off, rfl, hcell⟩ := hc k hlt
        injection e' with e1 e2 e3
        subst e1
        obtain ⟨a3, cap3, e', _, _, _, hc2⟩ := ((HU.out.below hE).below (Ext.drew wr)).open
        obtain ⟨b2, off2, rfl, hcell2⟩ := hc2 k hlt2
        injection e' with e4 e5 e6
        subst e4
        clear hc hc2 e2 e3 e5 e6
        by_cases h0 : ns[k] = ms[k]
        · have h0' : (ns[k] == ms[k]) = true := by rw [h0]; simp
          have H0 := Lib.hid h0
          clear h0
          go_wp2_with fail
          go_region
          go_wp2
          go_roundw
          case rel =>
            refine ⟨k + 1, by omega, by go_num, fun i hi h1 h2 => ?_, hE.trans (Ext.drew _)⟩
            rcases Nat.lt_or_ge i k with h | h
            · exact hr.out i h h1 h2
            · obtain rfl : i = k := by omega
              exact H0.out
          case measure => simp [intOf]; omega
        · have h0' : (ns[k] == ms[k]) = false := by rw [beq_eq_false_iff_ne]; exact h0
          have H0 := Lib.hid (list_ne k hlt hlt2 h0)
          clear h0
          go_wp2_with fail
          go_region
          go_wp2
          go_ret
          exact ⟨by rw [H0.out]; rfl, hE.trans (Ext.drew _)⟩
      · have hs := Lib.hid (list_same HL.out (fun i h => hr.out i (by omega)))
        clear hr
        go_wp2
        go_ret
        exact ⟨by rw [hs.out]; rfl, hE⟩
  · have h1' : ((ns.length : Int) == (ms.length : Int)) = false := by rw [beq_eq_false_iff_ne]; omega
    have HL := Lib.hid (list_other hl)
    clear hc hc2 hl
    go_enter Try.func51, Try.ntmps51
    go_wp2
    go_ret
    exact ⟨by rw [HL.out]; rfl, Ext.refl _⟩

set_option maxRecDepth 100000 in
set_option maxHeartbeats 1000000 in
theorem equalS_any (v u : Value) (ns ms : List Int) (w : World) (hv : Ints w v ns) (hu : Ints w u ms) :
    Calls Try.prog 41 #[v, u] w fun e w' => e = .returned (.bool (ns == ms)) ∧ Ext w w' := by
  have HV := Lib.hid hv
  have HU := Lib.hid hu
  obtain ⟨a, cap, rfl, hcap, hmax, _, hc⟩ := hv.open
  obtain ⟨a2, cap2, rfl, hcap2, hmax2, _, hc2⟩ := hu.open
  unfold maxLen at hmax hmax2
  clear hv hu
  by_cases hl : ns.length = ms.length
  · have h1' : ((ns.length : Int) == (ms.length : Int)) = true := by rw [hl]; simp
    have HC := Lib.hid hc
    have HC2 := Lib.hid hc2
    have HL := Lib.hid hl
    clear hc hc2 hl
    go_enter Try.func41, Try.ntmps41
    go_wp2_with fail
    go_loopw [5, 13] (fun _ i wr => ∃ k : Nat, k ≤ ns.length ∧ i = .int .i64 k ∧ Hid (∀ i, i < k → ∀ (h1 : i < ns.length) (h2 : i < ms.length), ns[i] = ms[i]) ∧ Ext w wr) (fun _ i _ => ns.length - (intOf i).toNat)
    case atStart => exact ⟨0, by omega, rfl, fun i hi => absurd hi (by omega), Ext.refl _⟩
    case round =>
      obtain ⟨k, hk, rfl, hr, hE⟩ := hrel
      by_cases hlt : k < ns.length
      · have hlt2 : k < ms.length := by have := HL.out; omega
        obtain ⟨a', cap', e', _, _, _, hc⟩ := ((HV.out.below hE).below (Ext.drew wr)).open
        obtain ⟨b, off, rfl, hcell⟩ := hc k hlt
        injection e' with e1 e2 e3
        subst e1
        obtain ⟨a3, cap3, e', _, _, _, hc2⟩ := ((HU.out.below hE).below (Ext.drew wr)).open
        obtain ⟨b2, off2, rfl, hcell2⟩ := hc2 k hlt2
        injection e' with e4 e5 e6
        subst e4
        clear hc hc2 e2 e3 e5 e6
        by_cases h0 : ns[k] = ms[k]
        · have h0' : (ns[k] == ms[k]) = true := by rw [h0]; simp
          have H0 := Lib.hid h0
          clear h0
          go_wp2_with fail
          go_region
          go_wp2
          go_roundw
          case rel =>
            refine ⟨k + 1, by omega, by go_num, fun i hi h1 h2 => ?_, hE.trans (Ext.drew _)⟩
            rcases Nat.lt_or_ge i k with h | h
            · exact hr.out i h h1 h2
            · obtain rfl : i = k := by omega
              exact H0.out
          case measure => simp [intOf]; omega
        · have h0' : (ns[k] == ms[k]) = false := by rw [beq_eq_false_iff_ne]; exact h0
          have H0 := Lib.hid (list_ne k hlt hlt2 h0)
          clear h0
          go_wp2_with fail
          go_region
          go_wp2
          go_ret
          exact ⟨by rw [H0.out]; rfl, hE.trans (Ext.drew _)⟩
      · have hs := Lib.hid (list_same HL.out (fun i h => hr.out i (by omega)))
        clear hr
        go_wp2
        go_ret
        exact ⟨by rw [hs.out]; rfl, hE⟩
  · have h1' : ((ns.length : Int) == (ms.length : Int)) = false := by rw [beq_eq_false_iff_ne]; omega
    have HL := Lib.hid (list_other hl)
    clear hc hc2 hl
    go_enter Try.func41, Try.ntmps41
    go_wp2
    go_ret
    exact ⟨by rw [HL.out]; rfl, Ext.refl _⟩

theorem ints_sum_snoc (l : List Int) (x : Int) : (l ++ [x]).sum = l.sum + x := by simp
theorem sum_take_bound {v : List Int} (h : Vec.right v = true) (k : Nat) : 0 ≤ (v.take k).sum ∧ (v.take k).sum ≤ 8796093022208 := by
  obtain ⟨h1, _, h3⟩ := Vec.right_ok h
  have := Vec.sum_bound (v.take k) (fun x hx => h1 x (List.mem_of_mem_take hx))
  have h4 : (v.take k).length ≤ 8 := by simp; omega
  omega

set_option maxRecDepth 100000 in
set_option maxHeartbeats 1000000 in
theorem refTotal_any (v : Value) (ns : List Int) (w : World) (hv : Ints w v ns) :
    Calls Try.prog 58 #[v] w fun e w' => e = .returned (.int .i64 (Vec.total ns)) ∧ w = w' := by
  have HV := Lib.hid hv
  obtain ⟨a, cap, rfl, hcap, hmax, _, hc⟩ := hv.open
  unfold maxLen at hmax
  clear hv
  have HC := Lib.hid hc
  clear hc
  cases hk : Vec.right ns with
  | false =>
    have HK := Lib.hid hk
    have e : Vec.total ns = 0 := by unfold Vec.total; rw [hk]; rfl
    rw [e]
    clear e hk
    go_enter Try.func58, Try.ntmps58
    go_wp2_with fail
    go_loop [3, 4] (fun s i => i = .int .i64 0 ∧ s = .int .i64 0) (fun _ i => 0)
    case atStart => exact ⟨rfl, rfl⟩
    case round =>
      obtain ⟨rfl, rfl⟩ := hrel
      go_wp2_with fail
      refine (refRight_any _ ns _ HV.out).mono ?_
      rintro e w1 ⟨rfl, rfl⟩
      rw [HK.out]
      go_wp2_with fail
      go_ret
      exact ⟨rfl, rfl⟩
  | true =>
    have HK := Lib.hid hk
    have e : Vec.total ns = ns.sum := by unfold Vec.total; rw [hk]; rfl
    rw [e]
    clear e hk
    go_enter Try.func58, Try.ntmps58
    go_wp2_with fail
    go_loop [3, 4] (fun s i => ∃ k : Nat, k ≤ ns.length ∧ i = .int .i64 k ∧ s = .int .i64 (ns.take k).sum) (fun _ i => ns.length - (intOf i).toNat)
    case atStart => exact ⟨0, by omega, rfl, rfl⟩
    case round =>
      obtain ⟨k, hk, rfl, rfl⟩ := hrel
      by_cases hlt : k < ns.length
      · obtain ⟨b, off, rfl, hcell⟩ := HC.out k hlt
        have hb1 := sum_take_bound HK.out k
        have hb2 := sum_take_bound HK.out (k + 1)
        rw [take_succ_getD ns k hlt, ints_sum_snoc] at hb2
        have hbx := (Vec.right_ok HK.out).1 ns[k] (List.getElem_mem hlt)
        go_wp2_with fail
        refine (refRight_any _ ns _ HV.out).mono ?_
        rintro e w1 ⟨rfl, rfl⟩
        rw [HK.out]
        go_wp2_with fail
        go_round
        case rel => exact ⟨k + 1, by omega, by go_num, by rw [take_succ_getD ns k hlt, ints_sum_snoc]⟩
        case measure => simp [intOf]; omega
      · have hs := Lib.hid (show ns.take k = ns from List.take_of_length_le (by omega))
        go_wp2_with fail
        refine (refRight_any _ ns _ HV.out).mono ?_
        rintro e w1 ⟨rfl, rfl⟩
        rw [HK.out]
        go_wp2_with fail
        go_ret
        exact ⟨by rw [hs.out]; rfl, rfl⟩
/- Layer 3, the program: a vector as bytes. -/
/-- A vector's bytes. -/
def Vec.enc (v : List Int) : List UInt8 := Pack.num v.length ++ nums v
def bytesOr : Bool → List UInt8 → List UInt8
  | true, l => l
  | false, _ => []
@[simp] theorem bytesOr_true (l : List UInt8) : bytesOr true l = l := rfl
@[simp] theorem bytesOr_false (l : List UInt8) : bytesOr false l = [] := rfl
def formErr : Bool → Int
  | true => 0
  | false => 30
@[simp] theorem formErr_true : formErr true = 0 := rfl
@[simp] theorem formErr_false : formErr false = 30 := rfl
/- Rows of numbers of the call's own: what stage 3's later texts share; no program. -/
theorem Ext.grown {w w' : World} (h : Ext w w') : w.grownBy w' none := ⟨h.os, h.tape, h.output, h.size, fun k hk _ => h.block k hk⟩
/- Layer 3: bytes as a vector: mathematics, the program. -/
/-- So many numbers, one behind the other. -/
def readsTo (s : Pack.St) : Nat → Pack.St × List Int
  | 0 => (s, [])
  | k + 1 => (((readsTo s k).1.num 1099511627776).1, (readsTo s k).2 ++ [(((readsTo s k).1.num 1099511627776).2 : Int)])
def decN (l : List UInt8) : Nat := (Pack.St.num ⟨l, 0⟩ 8).2
def decS (l : List UInt8) : Pack.St × List Int := readsTo (Pack.St.num ⟨l, 0⟩ 8).1 (decN l)
def decOk (l : List UInt8) : Bool := decide (1 ≤ decN l) && ((decS l).1.done == 0)
def GivesDec (w : World) (l : List UInt8) (e : Ending) (w' : World) : Prop := ∃ u, e = .returned (.tuple #[u, .int .i64 (formErr (decOk l))]) ∧ Ints w' u (orNone (decOk l) (decS l).2) ∧ Ext w w'

/-- The same, and what is read is the call's own. -/
def GivesDecO (w : World) (l : List UInt8) (e : Ending) (w' : World) : Prop := ∃ u, e = .returned (.tuple #[u, .int .i64 (formErr (decOk l))]) ∧ w'.ownsRow w.heap.size 3 1 u (orNone (decOk l) (decS l).2).length (i64s (orNone (decOk l) (decS l).2)) ∧ Ext w w'
theorem GivesDecO.any {w w' : World} {l : List UInt8} {e : Ending} (h : GivesDecO w l e w') : GivesDec w l e w' := by
  obtain ⟨u, he, ho, hE⟩ := h
  exact ⟨u, he, Sl.ofOwn ho, hE⟩
/- Layer 3, mathematics: what was written as a vector is read as it was. -/
/- Layer 3: a vector as bytes, and bytes as a vector: the document's own answers. -/
set_option linter.unusedSimpArgs false
set_option linter.unusedVariables false
set_option maxRecDepth 100000
/- Rows of rows of numbers, all of the call's own. No function of the program. -/
theorem tRow : ElemOf Try.prog 23 22 (.slice none 0 0) 24 := ⟨Try.underlying23, by kernel_rfl, rfl⟩
theorem OwnI.ext {w w' : World} {base : Nat} {v : Value} {l : List Int} (h : OwnI w base v l) (hE : Ext w w') : OwnI w' base v l := rowExt h hE
theorem OwnI.lower {w : World} {base b : Nat} {v : Value} {l : List Int} (h : OwnI w base v l) (hb : b ≤ base) : OwnI w b v l := rowLower h hb
theorem OwnI.but {w w' : World} {base p : Nat} {v : Value} {l : List Int} {cs : Array Value} {t : TypeId} {fr : Nat × Nat} (h : OwnI w base v l) (hp : w.heap[p]? = some (.cells cs t fr)) (ht : t ≠ 3) (hB : But p w w') : OwnI w' base v l :=
  rowBut h (rowBeside h hp ht) hB
theorem OwnI.slice {w : World} {base : Nat} {v : Value} {l : List Int} (h : OwnI w base v l) : ∃ a n c, v = .slice a n c := ownSlice h
/-- A row beside a row that grows. -/
theorem OwnI.grown {w w' : World} {base b n : Nat} {v u : Value} {l : List Int} {xs : List Value} (h : OwnI w base v l) (hu : w.ownsRow b 22 1 u n xs) (hg : w.grownBy w' u.ownBlock) : OwnI w' base v l := by
  rcases hu.2 with ⟨rfl, _⟩ | ⟨g, cap, cur, rfl, _, hgb, _⟩
  · exact h.kept hg (by
      rcases h.2 with ⟨rfl, _⟩ | ⟨g, cap, cur, rfl, _⟩
      · exact .inl rfl
      · exact .inr (by simp [Value.ownBlock]))
  · exact h.kept hg (.inr (Ne.symm (rowBeside h hgb (by decide))))

/-- Own rows, in a row of the call's own. -/
def OwnRR (w : World) (base : Nat) (v : Value) (ls : List (List Int)) : Prop :=
  ∃ xs : List Value, w.ownsRow base 22 1 v ls.length xs ∧ xs.length = ls.length ∧ ∀ i (h : i < xs.length) (h' : i < ls.length), OwnI w base xs[i] ls[i]
theorem OwnRR.rows {w : World} {base : Nat} {v : Value} {ls : List (List Int)} (h : OwnRR w base v ls) : IRows w v ls := by
  obtain ⟨xs, h1, h2, h3⟩ := h
  exact ⟨xs, Sl.ofOwn h1, h2, fun i h h' => (h3 i h h').ints⟩
theorem OwnRR.nil (w : World) (base : Nat) : OwnRR w base (.slice none 0 0) [] := ⟨[], World.ownsRow_nil _ _ _ _, rfl, fun i h _ => absurd h (by simp)⟩
theorem OwnRR.ext {w w' : World} {base : Nat} {v : Value} {ls : List (List Int)} (h : OwnRR w base v ls) (hE : Ext w w') : OwnRR w' base v ls := by
  obtain ⟨xs, h1, h2, h3⟩ := h
  exact ⟨xs, rowExt h1 hE, h2, fun i h h' => (h3 i h h').ext hE⟩
theorem OwnRR.but {w w' : World} {base p : Nat} {v : Value} {ls : List (List Int)} {cs : Array Value} {t : TypeId} {fr : Nat × Nat} (h : OwnRR w base v ls) (hp : w.heap[p]? = some (.cells cs t fr)) (ht : t ≠ 3) (ht2 : t ≠ 22) (hB : But p w w') : OwnRR w' base v ls := by
  obtain ⟨xs, h1, h2, h3⟩ := h
  exact ⟨xs, rowBut h1 (rowBeside h1 hp ht2) hB, h2, fun i h h' => (h3 i h h').but hp ht hB⟩
theorem OwnRR.slice {w : World} {base : Nat} {v : Value} {ls : List (List Int)} (h : OwnRR w base v ls) : ∃ a n c, v = .slice a n c := by
  obtain ⟨xs, h1, _⟩ := h
  exact ownSlice h1
theorem OwnRR.lower {w : World} {base b : Nat} {v : Value} {ls : List (List Int)} (h : OwnRR w base v ls) (hb : b ≤ base) : OwnRR w b v ls := by
  obtain ⟨xs, h1, h2, h3⟩ := h
  exact ⟨xs, rowLower h1 hb, h2, fun i h h' => (h3 i h h').lower hb⟩
/-- A number of 64 bits. -/
def Wf64 (x : Int) : Prop := (Lit.int .i64 x).wf = true
theorem irows0 (w : World) : IRows w (.slice none 0 0) [] := (OwnRR.nil w 0).rows
/- The library's slices.Clone at rows of ints. No function of the program's own. -/
set_option maxHeartbeats 2000000 in
theorem cloneIw_any (v : Value) (ns : List Int) (w : World) (hv : Ints w v ns) (hl : ns.length ≤ 17592186044416) :
    Calls Try.prog 47 #[v] w fun x w' => ∃ u, x = .returned u ∧ w'.ownsRow w.heap.size 3 1 u ns.length (i64s ns) ∧ Ext w w' := by
  have hv0 := hv
  obtain ⟨a, cap, rfl, hcap, hmax, hn, hc⟩ := hv.open
  have e1 := fun (w : World) (a : Option Addr) (n c : Nat) => Lib.run_eql_slice_nil (P := Try.prog) w 22 3 a n c 0 0 Try.underlying22
  cases a with
  | none =>
    obtain rfl := hn rfl
    have : ns = [] := List.eq_nil_of_length_eq_zero (by omega)
    subst this
    clear hc
    go_enter Try.func47, Try.ntmps47
    go_wp2
    go_ret
    exact ⟨_, rfl, World.ownsRow_nil _ _ _ _, Below.refl _ _⟩
  | some ad =>
    have hu := i64s_one ns
    have ti := tI
    clear hc
    have hown0 : (w.alloc (.cells #[] 3)).ownsRow w.heap.size 3 1 (.slice (some ⟨w.heap.size, 0, none⟩) 0 0) 0 [] := World.ownsRow_made w #[] 0 (Nat.le_refl _) (by simp [maxLen]) (by simp)
    have hsl : Sl (w.alloc (.cells #[] 3)) (.slice (some ad) ns.length cap) (i64s ns) := hv0.below (Ext.alloc _ _)
    have hc1 : 0 + (i64s ns).length ≤ maxLen := by simp; unfold maxLen; omega
    have hc2 : (0 + (i64s ns).length) * 8 ≤ 140737488355328 := by simp; omega
    go_enter Try.func47, Try.ntmps47
    go_wp2_with (first | (at_builtin; refine wpList_app rfl (.tmp 5) (.tmp 6) ti rfl rfl rfl hown0 hsl hu hc1 hc2 (by simp) ?_; intro v2 w2 hown2 hg2))
    go_ret
    exact ⟨_, rfl, by simpa using hown2, ((Below.refl _ w).alloc (Nat.le_refl _) _).grown hg2 (by simp) (fun k hk => (hown0.lt k hk).1)⟩
theorem cloneI_any (v : Value) (ns : List Int) (w : World) (hv : Ints w v ns) (hl : ns.length ≤ 1000000) :
    Calls Try.prog 47 #[v] w fun x w' => ∃ u, x = .returned u ∧ w'.ownsRow w.heap.size 3 1 u ns.length (i64s ns) ∧ Ext w w' := cloneIw_any v ns w hv (by omega)
end Go.Proofs.Ytkpcmedmiiohnaa

namespace Go.Proofs.Ytkpcmedmiiohnaa
open Go.ChangeShapes Go.WideShapes Go.ChangeAt Go.RowKit
/- What comes in, as rows of numbers. No program. -/
section
variable {H : Type} {enc : TypeId × Value → H} {P : Program} {w : World} {base : Nat} {spare : Nat → Bool} {held : Bool}
theorem ints_of_raw {t e : TypeId} {fuel : Nat} {cs : List Value} {x : DataW H × List MemPlace} (ht : P.underlying t = some (.slice e)) (he : P.underlying e = some (.int .i64)) (hc : P.cellsOf e = 1)
    (h : DataW.trod enc P w base spare held fuel t cs = some x) : ∃ v l, cs = [v] ∧ Ints w v l := by
  obtain ⟨v, xs, rfl, hs, hx⟩ := sl_of_raw ht hc h
  have : ∀ i (hi : i < xs.length), ∃ x : Int, xs[i] = .int .i64 x := by
    intro i hi
    obtain ⟨f, y, hy⟩ := hx i hi
    obtain ⟨n, e1, _, hw⟩ := DataW.trod_int he hy
    injection e1 with e1 _
    exact ⟨n, e1⟩
  have key : ∀ l : List Value, (∀ i (hi : i < l.length), ∃ x : Int, l[i] = .int .i64 x) → ∃ m : List Int, l = i64s m := by
    intro l
    induction l with
    | nil => intro _; exact ⟨[], rfl⟩
    | cons a l ih =>
      intro hl
      obtain ⟨m, rfl⟩ := ih (fun i hi => by have := hl (i + 1) (by simpa using hi); simpa using this)
      obtain ⟨z, hz⟩ := hl 0 (by simp)
      exact ⟨z :: m, by simp only [List.getElem_cons_zero] at hz; rw [hz]; rfl⟩
  obtain ⟨m, rfl⟩ := key xs this
  exact ⟨v, m, rfl, hs⟩
end
end Go.Proofs.Ytkpcmedmiiohnaa
