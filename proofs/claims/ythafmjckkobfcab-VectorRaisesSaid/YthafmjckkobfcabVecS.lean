/-
  Layer 3, the program and the document's own answers: a number is raised.
-/
import Derived.Test.YthafmjckkobfcabVecB
import Derived.Lib.SmallJoins
import Derived.Deep.RegionLaw
namespace Go.Proofs.Ythafmjckkobfcab
open Go.RowKit

/-- May number k of these be raised to n? -/
def Vec.setOk (v : List Int) (k n : Int) : Bool := Vec.right v && (decide (0 ≤ k ∧ k < v.length) && Vec.okOne n)

set_option maxRecDepth 100000 in
set_option maxHeartbeats 1000000 in
theorem cloneI_any (v : Value) (l : List Int) (w : World) (hv : Ints w v l) (h1 : 1 ≤ l.length) (hl : l.length ≤ 1000000) :
    Calls Try.prog 62 #[v] w (GivesOwnI w.heap.size w l) := by
  have hv0 := hv
  obtain ⟨a, cap, rfl, hcap, hmax, hn, hc⟩ := hv.open
  have e1 := fun (w : World) (a : Option Addr) (n c : Nat) => Lib.run_eql_slice_nil (P := Try.prog) w 32 3 a n c 0 0 Try.underlying32
  cases a with
  | none =>
    have := hn rfl
    omega
  | some ad =>
    have hu := i64s_one l
    clear hc
    have hown0 : (w.alloc (.cells #[] 3)).ownsRow w.heap.size 3 1 (.slice (some ⟨w.heap.size, 0, none⟩) 0 0) 0 [] := World.ownsRow_made w #[] 0 (Nat.le_refl _) (by simp [maxLen]) (by simp)
    have hsl : Sl (w.alloc (.cells #[] 3)) (.slice (some ad) l.length cap) (i64s l) := hv0.below (Ext.alloc _ _)
    have hc1 : 0 + (i64s l).length ≤ maxLen := by simp; unfold maxLen; omega
    have hc2 : (0 + (i64s l).length) * 8 ≤ 140737488355328 := by simp; omega
    go_enter Try.func62, Try.ntmps62
    go_wp2_with (first | (at_builtin; refine wpList_app rfl (.tmp 5) (.tmp 6) tI rfl rfl rfl hown0 hsl hu hc1 hc2 (by simp) ?_; intro v2 w2 hown2 hg2))
    go_ret
    exact ⟨_, rfl, by simpa [OwnI] using hown2, ((Below.refl _ w).alloc (Nat.le_refl _) _).grown hg2 (by simp) (fun k hk => (hown0.lt k hk).1)⟩

theorem set_eq (l : List Int) (k : Nat) (n : Int) (hk : k < l.length) : Vec.set l k n = l.set k (if l[k] < n then n else l[k]) := by
  unfold Vec.set Vec.big
  rw [List.getD_eq_getElem?_getD, List.getElem?_eq_getElem hk]
  rfl
theorem i64s_set' (l : List Int) (k : Nat) (x : Int) : i64s (l.set k x) = (i64s l).set k (.int .i64 x) := by simp [i64s, List.map_set]

set_option maxRecDepth 100000 in
set_option maxHeartbeats 2000000 in
theorem set_any (v : Value) (ns : List Int) (k n : Int) (w : World) (hv : Ints w v ns) :
    Calls Try.prog 35 #[v, .int .i64 k, .int .i64 n] w (GivesInts w (orNone (Vec.setOk ns k n) (Vec.set ns k.toNat n)) (Vec.setOk ns k n)) := by
  have HV := Lib.hid hv
  have hq := isCount_any n w
  obtain ⟨a, cap, rfl, hcap, hmax, _, hc⟩ := hv.open
  unfold maxLen at hmax
  clear hv hc
  cases hr : Vec.right ns with
  | false =>
    have e : Vec.setOk ns k n = false := by unfold Vec.setOk; rw [hr]; rfl
    rw [e]
    have HK := Lib.hid hr
    clear hr e hq
    go_enter Try.func35, Try.ntmps35
    go_wp2_with fail
    refine (right_any _ ns _ HV.out).mono ?_
    rintro e w1 ⟨rfl, rfl⟩
    rw [HK.out]
    go_wp2_with fail
    go_ret2
    exact ⟨_, rfl, ints_none _, Ext.refl _⟩
  | true =>
    by_cases h0 : k < 0
    · have e : Vec.setOk ns k n = false := by unfold Vec.setOk; rw [decide_eq_false (by omega)]; simp
      rw [e]
      have HK := Lib.hid hr
      clear hr e hq
      go_enter Try.func35, Try.ntmps35
      go_wp2_with fail
      refine (right_any _ ns _ HV.out).mono ?_
      rintro e w1 ⟨rfl, rfl⟩
      rw [HK.out]
      go_wp2_with fail
      go_ret2
      exact ⟨_, rfl, ints_none _, Ext.refl _⟩
    · by_cases h1 : (ns.length : Int) ≤ k
      · have e : Vec.setOk ns k n = false := by unfold Vec.setOk; rw [decide_eq_false (by omega)]; simp
        rw [e]
        have HK := Lib.hid hr
        clear hr e hq
        go_enter Try.func35, Try.ntmps35
        go_wp2_with fail
        refine (right_any _ ns _ HV.out).mono ?_
        rintro e w1 ⟨rfl, rfl⟩
        rw [HK.out]
        go_wp2_with fail
        go_ret2
        exact ⟨_, rfl, ints_none _, Ext.refl _⟩
      · have HQ := Lib.hid hq
        clear hq
        cases ho : Vec.okOne n with
        | false =>
          have e : Vec.setOk ns k n = false := by unfold Vec.setOk; rw [ho]; simp
          rw [e]
          have HK := Lib.hid hr
          have HO := Lib.hid ho
          clear hr e ho
          go_enter Try.func35, Try.ntmps35
          go_wp2_with fail
          refine (right_any _ ns _ HV.out).mono ?_
          rintro e w1 ⟨rfl, rfl⟩
          rw [HK.out]
          go_wp2_with fail
          refine HQ.out.mono ?_
          rintro e w1 ⟨rfl, rfl⟩
          rw [HO.out]
          go_wp2_with fail
          go_ret2
          exact ⟨_, rfl, ints_none _, Ext.refl _⟩
        | true =>
          have e : Vec.setOk ns k n = true := by unfold Vec.setOk; rw [hr, ho, decide_eq_true (by omega)]; rfl
          rw [e]
          have hR := Vec.right_ok hr
          have HK := Lib.hid hr
          have HO := Lib.hid ho
          clear hr e ho
          obtain ⟨j, rfl⟩ : ∃ j : Nat, k = (j : Int) := ⟨k.toNat, by omega⟩
          have hj : j < ns.length := by omega
          have hse := Lib.hid (set_eq ns j n hj)
          have hcl := Lib.hid (cloneI_any _ ns w HV.out (by omega) (by omega))
          have hn1 : 0 < ns.length := by omega
          have HR := Lib.hid hR
          clear hR
          go_enter Try.func35, Try.ntmps35
          go_wp2_with fail
          refine (right_any _ ns _ HV.out).mono ?_
          rintro e w1 ⟨rfl, rfl⟩
          rw [HK.out]
          go_wp2_with fail
          refine HQ.out.mono ?_
          rintro e w1 ⟨rfl, rfl⟩
          rw [HO.out]
          go_wp2_with fail
          refine hcl.out.mono ?_
          rintro e w1 ⟨v1, rfl, ho1, hb1⟩
          unfold OwnI at ho1
          obtain ⟨g, cap1, rfl⟩ := Joins.ownsRow_form ho1 hn1
          have hge := (ho1.lt g rfl).1
          have hco : w1.cell? ⟨g, j, none⟩ = some (.int .i64 ns[j]) := by
            rw [ho1.cellAt j (by omega)]
            simp [i64s, hj]
          have hfo := ho1.frozenAt j
          have hst := ho1.stored j (.int .i64 (if ns[j] < n then n else ns[j]))
          rw [← i64s_set', ← hse.out] at hst
          have HS := Lib.hid hst
          clear hst
          obtain ⟨X, hX⟩ : ∃ X, (if ns[j] < n then n else ns[j]) = X := ⟨_, rfl⟩
          rw [hX] at HS
          have hXg : (if n > ns[j] then n else ns[j]) = X := hX
          clear hX
          have hl : (Vec.set ns j n).length = ns.length := by unfold Vec.set; simp
          have HL := Lib.hid hl
          clear hl ho1
          go_wp2_with fail
          go_ret2
          refine ⟨_, rfl, ?_, hb1.setCell (p := ⟨g, j, none⟩) hge _⟩
          have := Sl.ofOwn HS.out.1
          simpa [Ints] using this

/-- What is there when the first i numbers are made. -/
theorem set_take (l : List Int) (k : Nat) (n : Int) (i : Nat) (hk : k < l.length) (hi : i < l.length) : (Vec.set l k n).take (i + 1) = (Vec.set l k n).take i ++ [if i = k ∧ l[i] < n then n else l[i]] := by
  have hl : i < (Vec.set l k n).length := by unfold Vec.set; simpa using hi
  rw [take_succ_getD _ i hl]
  congr 1
  congr 1
  simp only [set_eq l k n hk, List.getElem_set]
  by_cases h : k = i
  · subst h; simp
  · have h2 : ¬ (i = k ∧ l[i] < n) := fun h' => h h'.1.symm
    simp only [h, h2, if_false]

set_option maxRecDepth 100000 in
set_option maxHeartbeats 4000000 in
theorem refSet_any (v : Value) (ns : List Int) (k n : Int) (w : World) (hv : Ints w v ns) :
    Calls Try.prog 36 #[v, .int .i64 k, .int .i64 n] w (GivesInts w (orNone (Vec.setOk ns k n) (Vec.set ns k.toNat n)) (Vec.setOk ns k n)) := by
  have HV := Lib.hid hv
  obtain ⟨a, cap, rfl, hcap, hmax, _, hc⟩ := hv.open
  unfold maxLen at hmax
  clear hv hc
  cases hr : Vec.right ns with
  | false =>
    have e : Vec.setOk ns k n = false := by unfold Vec.setOk; rw [hr]; rfl
    rw [e]
    have HK := Lib.hid hr
    clear hr e
    go_enter Try.func36, Try.ntmps36
    go_wp2_with fail
    refine (refRight_any _ ns _ HV.out).mono ?_
    rintro e w1 ⟨rfl, rfl⟩
    rw [HK.out]
    go_wp2_with fail
    go_ret2
    exact ⟨_, rfl, ints_none _, Ext.refl _⟩
  | true =>
    have bad : ¬ (0 ≤ k ∧ k < ns.length ∧ 0 ≤ n ∧ n ≤ 1099511627776) → Vec.setOk ns k n = false := by
      intro h
      unfold Vec.setOk Vec.okOne
      rw [hr, Bool.true_and, ← Bool.not_eq_true, Bool.and_eq_true, decide_eq_true_eq, decide_eq_true_eq]
      omega
    have good : (0 ≤ k ∧ k < ns.length ∧ 0 ≤ n ∧ n ≤ 1099511627776) → Vec.setOk ns k n = true := by
      intro h
      unfold Vec.setOk Vec.okOne
      rw [hr, Bool.true_and, Bool.and_eq_true, decide_eq_true_eq, decide_eq_true_eq]
      omega
    have HR := Lib.hid (Vec.right_ok hr)
    have HK := Lib.hid hr
    clear hr
    have ways : k < 0 ∨ (¬ k < 0 ∧ (ns.length : Int) ≤ k) ∨ (¬ k < 0 ∧ ¬ (ns.length : Int) ≤ k ∧ n < 0) ∨ (¬ k < 0 ∧ ¬ (ns.length : Int) ≤ k ∧ ¬ n < 0 ∧ (1099511627776 : Int) < n) ∨ (¬ k < 0 ∧ ¬ (ns.length : Int) ≤ k ∧ ¬ n < 0 ∧ ¬ (1099511627776 : Int) < n) := by omega
    rcases ways with h1 | ⟨h1, h2⟩ | ⟨h1, h2, h3⟩ | ⟨h1, h2, h3, h4⟩ | ⟨h1, h2, h3, h4⟩
    case inr.inr.inr.inr =>
      have e := good (by omega)
      rw [e]
      clear e good bad
      obtain ⟨j, rfl⟩ : ∃ j : Nat, k = (j : Int) := ⟨k.toNat, by omega⟩
      have hj : j < ns.length := by omega
      have d1 : decide ((j : Int) < 0) = false := decide_eq_false (by omega)
      have d2 : decide ((ns.length : Int) ≤ (j : Int)) = false := decide_eq_false (by omega)
      have d2' : decide (ns.length ≤ j) = false := decide_eq_false (by omega)
      have d3 : decide (n < 0) = false := decide_eq_false (by omega)
      have d4 : decide ((1099511627776 : Int) < n) = false := decide_eq_false (by omega)
      have HT := Lib.hid (fun i (hi : i < ns.length) => set_take ns j n i hj hi)
      have HL := Lib.hid (show (Vec.set ns j n).length = ns.length by unfold Vec.set; simp)
      rw [show ((j : Int).toNat) = j from rfl]
      go_enter Try.func36, Try.ntmps36
      go_wp2_with fail
      refine (refRight_any _ ns _ HV.out).mono ?_
      rintro e w1 ⟨rfl, rfl⟩
      rw [HK.out]
      go_wp2_with fail
      go_loopw [8, 9] (fun o i wr => ∃ q : Nat, q ≤ ns.length ∧ i = .int .i64 q ∧ wr.ownsRow w.heap.size 3 1 o q (i64s ((Vec.set ns j n).take q)) ∧ Ext w wr) (fun _ i _ => ns.length - (intOf i).toNat)
      case atStart => exact ⟨0, by omega, rfl, World.ownsRow_nil _ _ _ _, Ext.refl _⟩
      case round =>
        obtain ⟨q, hq, rfl, ho, hE⟩ := hrel
        by_cases hlt : q < ns.length
        · obtain ⟨a', cap', e', _, _, _, hc⟩ := (HV.out.below hE).open
          obtain ⟨b, off, rfl, hcell⟩ := hc q hlt
          injection e' with e1 e2 e3
          subst e1
          clear hc e2 e3
          have hsz := hE.size
          have hk8 : q < 8 := by have := HR.out; omega
          have hz := HT.out q hlt
          by_cases hyes : q = j ∧ ns[q] < n
          · rw [if_pos hyes] at hz
            obtain ⟨hqj, hlt0⟩ := hyes
            have HX := Lib.hid (show i64s ((Vec.set ns j n).take q) ++ i64s [n] = i64s ((Vec.set ns j n).take (q + 1)) by rw [← i64s_append, hz])
            clear hz
            have hb1 : ((q : Int) == (j : Int)) = true := by rw [hqj]; simp
            have HQ := Lib.hid hqj
            clear hqj
            have hone := i64s_one [n]
            go_wp2_with (at_builtin; refine wpList_app rfl (.tmp 48) (.tmp 50) tI rfl (base := w.heap.size) (n := q) (xs := i64s ((Vec.set ns j n).take q)) (ys := i64s [n]) rfl rfl (ho.alloc _) (Ints.one _ _) hone ?c3 ?c4 ?c5 ?_; rotate_right; intro v2 w2 hown2 hg2)
            case c3 => (try simp only [i64s_length, List.length_cons, List.length_nil]); (try unfold maxLen); omega
            case c4 => (try simp only [i64s_length, List.length_cons, List.length_nil]); omega
            case c5 => first | (show _ ≤ (wr.alloc _).heap.size; rw [World.size_alloc]; omega) | omega
            go_roundw
            case rel =>
              rw [HX.out] at hown2
              exact ⟨q + 1, by omega, by go_num, by simpa using hown2, (Below.alloc hE hsz _).grown hg2 (by show _ ≤ (wr.alloc _).heap.size; rw [World.size_alloc]; omega) (fun j hj => (ho.lt j hj).1)⟩
            case measure => simp [intOf]; omega
          · rw [if_neg hyes] at hz
            have HX := Lib.hid (show i64s ((Vec.set ns j n).take q) ++ i64s [ns[q]] = i64s ((Vec.set ns j n).take (q + 1)) by rw [← i64s_append, hz])
            clear hz
            have hone := i64s_one [ns[q]]
            by_cases hqj : q = j
            · have hge : ¬ ns[q] < n := fun h => hyes ⟨hqj, h⟩
              have hb1 : ((q : Int) == (j : Int)) = true := by rw [hqj]; simp
              have HQ := Lib.hid hqj
              clear hyes hqj
              go_wp2_with (at_builtin; refine wpList_app rfl (.tmp 52) (.tmp 57) tI rfl (base := w.heap.size) (n := q) (xs := i64s ((Vec.set ns j n).take q)) (ys := i64s [ns[q]]) rfl rfl (ho.alloc _) (Ints.one _ _) hone ?c3 ?c4 ?c5 ?_; rotate_right; intro v2 w2 hown2 hg2)
              case c3 => (try simp only [i64s_length, List.length_cons, List.length_nil]); (try unfold maxLen); omega
              case c4 => (try simp only [i64s_length, List.length_cons, List.length_nil]); omega
              case c5 => first | (show _ ≤ (wr.alloc _).heap.size; rw [World.size_alloc]; omega) | omega
              go_roundw
              case rel =>
                rw [HX.out] at hown2
                exact ⟨q + 1, by omega, by go_num, by simpa using hown2, (Below.alloc hE hsz _).grown hg2 (by show _ ≤ (wr.alloc _).heap.size; rw [World.size_alloc]; omega) (fun j hj => (ho.lt j hj).1)⟩
              case measure => simp [intOf]; omega
            · have hb1 : ((q : Int) == (j : Int)) = false := by rw [beq_eq_false_iff_ne]; omega
              clear hyes hqj
              go_wp2_with (at_builtin; refine wpList_app rfl (.tmp 52) (.tmp 57) tI rfl (base := w.heap.size) (n := q) (xs := i64s ((Vec.set ns j n).take q)) (ys := i64s [ns[q]]) rfl rfl (ho.alloc _) (Ints.one _ _) hone ?c3 ?c4 ?c5 ?_; rotate_right; intro v2 w2 hown2 hg2)
              case c3 => (try simp only [i64s_length, List.length_cons, List.length_nil]); (try unfold maxLen); omega
              case c4 => (try simp only [i64s_length, List.length_cons, List.length_nil]); omega
              case c5 => first | (show _ ≤ (wr.alloc _).heap.size; rw [World.size_alloc]; omega) | omega
              go_roundw
              case rel =>
                rw [HX.out] at hown2
                exact ⟨q + 1, by omega, by go_num, by simpa using hown2, (Below.alloc hE hsz _).grown hg2 (by show _ ≤ (wr.alloc _).heap.size; rw [World.size_alloc]; omega) (fun j hj => (ho.lt j hj).1)⟩
              case measure => simp [intOf]; omega
        · have hs := Lib.hid (show (Vec.set ns j n).take q = Vec.set ns j n from List.take_of_length_le (by have := HL.out; omega))
          have hql := Lib.hid (show (List.take q (Vec.set ns j n)).length = q by have := HL.out; simp; omega)
          go_wp2
          go_ret2
          exact ⟨_, rfl, by show Ints _ _ (Vec.set ns j n); rw [← hs.out]; exact Sl.ofOwn (by simpa [hql.out] using ho), hE⟩
    all_goals
      have e := bad (by omega)
      rw [e]
      clear e good bad
      go_enter Try.func36, Try.ntmps36
      go_wp2_with fail
      refine (refRight_any _ ns _ HV.out).mono ?_
      rintro e w1 ⟨rfl, rfl⟩
      rw [HK.out]
      go_wp2_with fail
      go_ret2
      exact ⟨_, rfl, ints_none _, Ext.refl _⟩
end Go.Proofs.Ythafmjckkobfcab
