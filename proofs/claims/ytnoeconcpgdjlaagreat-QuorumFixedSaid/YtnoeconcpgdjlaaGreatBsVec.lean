import Derived.Laws.OwnMore
import Derived.Lib.ConvBytes
import Derived.RangeFuncNested
import Derived.RangeFuncBound
import Derived.RangeFuncCalls
import Derived.RangeFuncLeaves
import Derived.RangeFuncBox
import Derived.Shelf.Abstract
import Derived.OwnWalkIn
import Derived.TacticsInMore
import Derived.LoopNIn
import Derived.LoopIn
import Derived.Sort.OwnSortedInts
import Derived.Shelf.SortM.SortNone
import Derived.Maps.AppendAt
import Derived.Test.YtnoeconcpgdjlaaGreatSortI
import Derived.Test.YtnoeconcpgdjlaaGreatBsLib
import Derived.Test.YtnoeconcpgdjlaaGreatBsMath
import Derived.Test.YtnoeconcpgdjlaaGreatBsPack
set_option linter.unusedSimpArgs false
set_option linter.unusedVariables false
namespace Go.Proofs.YtnoeconcpgdjlaaGreat
open Go.RowKit
theorem tI : ElemOf Tryz.prog 22 3 (.int .i64 0) 8 := ⟨Tryz.underlying22, by kernel_rfl, rfl⟩
theorem zqy (l : List Int) : ∀ y ∈ i64s l, y.oneCell' = true := by
 intro y hy
 obtain ⟨_, _, rfl⟩ := List.mem_map.1 hy
 rfl
@[simp] theorem i64s_append (l m : List Int) : i64s (l ++ m) = i64s l ++ i64s m := by simp [i64s]
theorem Ints.isSlice {w : World} {v : Value} {l : List Int} (h : Ints w v l) : ∃ a n c, v = .slice a n c := by
 obtain ⟨a, cap, rfl, _⟩ := h.open
 exact ⟨_, _, _, rfl⟩
theorem Ints.len {w : World} {a : Option Addr} {n c : Nat} {l : List Int} (h : Ints w (.slice a n c) l) : n = l.length /\ n <= c /\ c <= 9223372036854775807 := by
 obtain ⟨_, _, e, h1, h2, _⟩ := h.open
 injection e with e1 e2 e3
 subst e3
 unfold maxLen at h2
 omega
theorem Ints.inj {w : World} {v : Value} {l m : List Int} (h : Ints w v l) (k : Ints w v m) : l = m := by
 obtain ⟨a, cap, rfl, h1, h2, _, h3⟩ := h.open
 obtain ⟨a', cap', e, k1, k2, _, k3⟩ := k.open
 injection e with e1 e2 e3
 subst e1 e3
 refine List.ext_getElem e2 fun i hi hi' => ?_
 obtain ⟨b, off, rfl, hc⟩ := h3 i hi
 obtain ⟨b', off', e', hc'⟩ := k3 i hi'
 injection e' with e'; injection e' with e4 e5
 subst e4 e5
 rw [hc] at hc'
 injection hc' with hc'; injection hc' with _ hc'
theorem zdh (w : World) : Ints w (.slice none 0 0) [] := ⟨none, 0, rfl, Nat.le_refl _, by simp [maxLen], fun _ => rfl, fun i hi => absurd hi (by simp [i64s])⟩
set_option maxRecDepth 100000 in
set_option maxHeartbeats 1000000 in
theorem zk1 (n : Int) (w : World) : Calls Tryz.prog 124 #[.int .i64 n] w fun e w' => e = .returned (.bool (Vec.okOne n)) /\ w = w' := by
 by_cases h0 : 0 <= n
 . by_cases h1 : n <= 1099511627776
   . have e : Vec.okOne n = true := by unfold Vec.okOne; simp; omega
     rw [e]
     clear e
     go_enter Tryz.func124, Tryz.ntmps124
     go_wp2
     go_ret
     exact ⟨rfl, rfl⟩
   . have e : Vec.okOne n = false := by unfold Vec.okOne; simp; omega
     rw [e]
     clear e
     go_enter Tryz.func124, Tryz.ntmps124
     go_wp2
     go_ret
     exact ⟨rfl, rfl⟩
 . have e : Vec.okOne n = false := by unfold Vec.okOne; simp; omega
   rw [e]
   clear e
   go_enter Tryz.func124, Tryz.ntmps124
   go_wp2
   go_ret
   exact ⟨rfl, rfl⟩
set_option maxRecDepth 100000 in
set_option maxHeartbeats 1000000 in
theorem ze6 (n : Int) (w : World) : Calls Tryz.prog 123 #[.int .i64 n] w fun e w' => e = .returned (.bool (!Vec.okOne n)) /\ w = w' := by
 go_enter Tryz.func123, Tryz.ntmps123
 go_wp2_with (go_at_call 124; refine (zk1 n _).mono ?_; rintro e w' ⟨rfl, rfl⟩)
 go_ret
 exact ⟨rfl, rfl⟩
set_option maxRecDepth 100000 in
set_option maxHeartbeats 1000000 in
theorem zm7 (v : Value) (ns : List Int) (w : World) (hv : Ints w v ns) :
 Calls Tryz.prog 150 #[v, .func (.func 123) #[] #[]] w fun e w' => (∃ i : Int, e = .returned (.int .i64 i) /\ (decide (0 <= i)) = !(ns.all Vec.okOne)) /\ w = w' := by
 obtain ⟨a, cap, rfl, hcap, hmax, _, hc⟩ := hv.open
 unfold maxLen at hmax
 go_enter Tryz.func150, Tryz.ntmps150
 go_wp2
 go_loop [5, 8] (fun _ i => ∃ k : Nat, k <= ns.length /\ i = .int .i64 k /\ Hid ((ns.take k).all Vec.okOne = true)) (fun _ i => ns.length - (intOf i).toNat)
 case atStart => exact ⟨0, by omega, rfl, by simp [Hid]⟩
 case round =>
  obtain ⟨k, hk, rfl, hr⟩ := hrel
  by_cases hlt : k < ns.length
  . obtain ⟨b, off, rfl, hcell⟩ := hc k hlt
    clear hc
    cases hb : Vec.okOne ns[k] with
    | true =>
     have HB := Hi hb
     clear hb
     go_wp2_with (go_at_call 123; refine (ze6 ns[k] _).mono ?_; rintro e w' ⟨rfl, rfl⟩; rw [HB.out])
     go_round
     case rel => exact ⟨k + 1, by omega, by go_num, by unfold Hid; rw [zam ns k hlt, List.all_append, hr.out]; simp [HB.out]⟩
     case measure => simp [intOf]; omega
    | false =>
     have HB := Hi hb
     clear hb
     go_wp2_with (go_at_call 123; refine (ze6 ns[k] _).mono ?_; rintro e w' ⟨rfl, rfl⟩; rw [HB.out])
     go_ret
     refine ⟨⟨k, rfl, ?_⟩, rfl⟩
     have : ns.all Vec.okOne = false := by
      rw [List.all_eq_false]
      exact ⟨ns[k], List.getElem_mem _, by rw [HB.out]; simp⟩
     rw [this]
     simp
  . have hs : Hid (ns.all Vec.okOne = true) := by
     have := hr.out; rw [List.take_of_length_le (by omega)] at this; exact this
    clear hr hc
    go_wp2
    go_ret
    exact ⟨⟨-1, rfl, by rw [hs.out]; simp⟩, rfl⟩
set_option maxRecDepth 100000 in
set_option maxHeartbeats 1000000 in
theorem zh1 (v : Value) (ns : List Int) (w : World) (hv : Ints w v ns) :
 Calls Tryz.prog 122 #[v, .func (.func 123) #[] #[]] w fun e w' => e = .returned (.bool (!(ns.all Vec.okOne))) /\ w = w' := by
 go_enter Tryz.func122, Tryz.ntmps122
 go_wp2_with (go_at_call 150; refine (zm7 v ns _ hv).mono ?_; rintro e w' ⟨⟨i, rfl, hi⟩, rfl⟩)
 go_ret
 exact ⟨by rw [<- hi]; rfl, rfl⟩
set_option maxRecDepth 100000 in
set_option maxHeartbeats 1000000 in
theorem zbs (v : Value) (ns : List Int) (w : World) (hv : Ints w v ns) :
 Calls Tryz.prog 104 #[v] w fun e w' => e = .returned (.bool (Vec.right ns)) /\ w = w' := by
 have HV := Hi hv
 obtain ⟨a, cap, rfl, hcap, hmax, _, _⟩ := hv.open
 unfold maxLen at hmax
 clear hv
 by_cases h1 : (ns.length : Int) < 1
 . have e : Vec.right ns = false := by unfold Vec.right; simp; omega
   rw [e]
   clear e
   go_enter Tryz.func104, Tryz.ntmps104
   go_wp2
   go_ret
   exact ⟨rfl, rfl⟩
 . by_cases h8 : (8 : Int) < (ns.length : Int)
   . have e : Vec.right ns = false := by unfold Vec.right; simp; omega
     rw [e]
     clear e
     go_enter Tryz.func104, Tryz.ntmps104
     go_wp2
     go_ret
     exact ⟨rfl, rfl⟩
   . have e : Vec.right ns = ns.all Vec.okOne := by
      unfold Vec.right
      rw [decide_eq_true (by omega), Bool.and_true]
     rw [e]
     clear e
     go_enter Tryz.func104, Tryz.ntmps104
     go_wp2_with (go_at_call 122; refine (zh1 _ ns _ HV.out).mono ?_; rintro e w' ⟨rfl, rfl⟩)
     go_ret
     exact ⟨by simp, rfl⟩
set_option maxRecDepth 100000 in
set_option maxHeartbeats 1000000 in
theorem zck (v u : Value) (ns ms : List Int) (w : World) (hv : Ints w v ns) (hu : Ints w u ms) :
 Calls Tryz.prog 72 #[v, u] w fun e w' => e = .returned (.bool (Vec.kind ns ms)) /\ w = w' := by
 have HV := Hi hv
 have HU := Hi hu
 obtain ⟨a, cap, rfl, hcap, hmax, _, _⟩ := hv.open
 obtain ⟨a2, cap2, rfl, hcap2, hmax2, _, _⟩ := hu.open
 unfold maxLen at hmax hmax2
 clear hv hu
 by_cases h1 : ns.length = ms.length
 . have h1' : ((ns.length : Int) == (ms.length : Int)) = true := by rw [h1]; simp
   have HL := Hi h1
   cases hr : Vec.right ns with
   | true =>
    have e : Vec.kind ns ms = Vec.right ms := by unfold Vec.kind; rw [hr, decide_eq_true h1]; simp
    rw [e]
    have HR := Hi hr
    clear e hr h1
    go_enter Tryz.func72, Tryz.ntmps72
    go_wp2_with fail
    refine (zbs _ ns _ HV.out).mono ?_
    rintro e w1 ⟨rfl, rfl⟩
    rw [HR.out]
    go_wp2_with fail
    refine (zbs _ ms _ HU.out).mono ?_
    rintro e w1 ⟨rfl, rfl⟩
    go_wp2_with fail
    go_ret
    exact ⟨rfl, rfl⟩
   | false =>
    have e : Vec.kind ns ms = false := by unfold Vec.kind; rw [hr]; simp
    rw [e]
    have HR := Hi hr
    clear e hr h1
    go_enter Tryz.func72, Tryz.ntmps72
    go_wp2_with fail
    refine (zbs _ ns _ HV.out).mono ?_
    rintro e w1 ⟨rfl, rfl⟩
    rw [HR.out]
    go_wp2_with fail
    go_ret
    exact ⟨rfl, rfl⟩
 . have e : Vec.kind ns ms = false := by unfold Vec.kind; rw [decide_eq_false h1]; simp
   rw [e]
   have h1' : ((ns.length : Int) == (ms.length : Int)) = false := by rw [beq_eq_false_iff_ne]; omega
   have HL := Hi h1
   clear h1 e
   go_enter Tryz.func72, Tryz.ntmps72
   go_wp2
   go_ret
   exact ⟨rfl, rfl⟩
def OwnI (w : World) (base : Nat) (v : Value) (l : List Int) : Prop := w.ownsRow base 3 1 v l.length (i64s l)
theorem OwnI.ints {w : World} {base : Nat} {v : Value} {l : List Int} (h : OwnI w base v l) : Ints w v l := Sl.ofOwn h
theorem OwnI.nil (w : World) (base : Nat) : OwnI w base (.slice none 0 0) [] := World.ownsRow_nil _ _ _ _
def zi0 (base : Nat) (w : World) (l : List Int) (e : Ending) (w' : World) : Prop := ∃ u, e = .returned u /\ OwnI w' base u l /\ Below base w w'
def zp1 (w : World) (l : List Int) (is : Bool) (e : Ending) (w' : World) : Prop := ∃ u, e = .returned (.tuple #[u, .bool is]) /\ Ints w' u l /\ Ext w w'
def zfq : Bool -> List Int -> List Int
 | true, l => l
 | false, _ => []
@[simp] theorem orNone_true (l : List Int) : zfq true l = l := rfl
@[simp] theorem orNone_false (l : List Int) : zfq false l = [] := rfl
def zeros (n : Int) : List Int := if 1 <= n /\ n <= 8 then List.replicate n.toNat 0 else []
theorem zgo (m : Nat) : (madeCells (Value.int .i64 0).cells (m * 1)).toList = i64s (List.replicate m 0) := by
 rw [Nat.mul_one, show (Value.int .i64 0).cells = #[Value.int .i64 0] from rfl, toList_madeCells_one]
 simp [i64s]
set_option maxRecDepth 100000 in
set_option maxHeartbeats 1000000 in
theorem zli (n : Int) (w : World) : Calls Tryz.prog 73 #[.int .i64 n] w (zi0 w.heap.size w (zeros n)) := by
 by_cases h1 : n < 1
 . have e : zeros n = [] := by unfold zeros; rw [if_neg (by omega)]
   rw [e]
   clear e
   go_enter Tryz.func73, Tryz.ntmps73
   go_wp2
   go_ret
   exact ⟨_, rfl, OwnI.nil _ _, Below.refl _ _⟩
 . by_cases h8 : (8 : Int) < n
   . have e : zeros n = [] := by unfold zeros; rw [if_neg (by omega)]
     rw [e]
     clear e
     go_enter Tryz.func73, Tryz.ntmps73
     go_wp2
     go_ret
     exact ⟨_, rfl, OwnI.nil _ _, Below.refl _ _⟩
   . obtain ⟨m, rfl⟩ : ∃ m : Nat, n = (m : Int) := ⟨n.toNat, by omega⟩
     have e : zeros (m : Int) = List.replicate m 0 := by unfold zeros; rw [if_pos (by omega)]; simp
     rw [e]
     clear e
     have hm : m <= 9223372036854775807 := by omega
     have hm2 : 8 * m <= 281474976710656 := by omega
     go_enter Tryz.func73, Tryz.ntmps73
     go_wp2_with (refine zc6 rfl (.tmp 9) (.tmp 9) tI rfl w.heap.size m rfl rfl hm2 (by unfold maxLen; omega) (Nat.le_refl _) ?_; intro w1 hown1 hg1)
     go_ret
     exact ⟨_, rfl, by rw [zgo] at hown1; simpa [OwnI] using hown1, (Below.refl _ w).grown hg1 (Nat.le_refl _) (fun k hk => by cases hk)⟩
theorem Vec.ge_none {a b : List Int} (hl : a.length = b.length) (k : Nat) (hk : k < a.length) (hb : k < b.length) (h : a[k] < b[k]) : Vec.ge a b = false := by
 rw [<- Bool.not_eq_true, Vec.ge_iff a b hl]
 intro g
 have := g k hk hb
 omega
theorem Vec.ge_all {a b : List Int} (hl : a.length = b.length) (h : ∀ i, i < a.length -> ∀ (h1 : i < a.length) (h2 : i < b.length), b[i] <= a[i]) : Vec.ge a b = true := by
 rw [Vec.ge_iff a b hl]
 intro i h1 h2
 exact h i h1 h1 h2
set_option maxRecDepth 100000 in
set_option maxHeartbeats 1000000 in
theorem ze3 (v u : Value) (ns ms : List Int) (w : World) (hv : Ints w v ns) (hu : Ints w u ms) :
 Calls Tryz.prog 59 #[v, u] w fun e w' => e = .returned (.bool (Vec.covers ns ms)) /\ w = w' := by
 have HV := Hi hv
 have HU := Hi hu
 obtain ⟨a, cap, rfl, hcap, hmax, _, hc⟩ := hv.open
 obtain ⟨a2, cap2, rfl, hcap2, hmax2, _, hc2⟩ := hu.open
 unfold maxLen at hmax hmax2
 clear hv hu
 cases hk : Vec.kind ns ms with
 | false =>
  have HK := Hi hk
  have e : Vec.covers ns ms = false := by unfold Vec.covers; rw [hk]; rfl
  rw [e]
  clear e hk hc hc2
  go_enter Tryz.func59, Tryz.ntmps59
  go_wp2_with fail
  refine (zck _ _ ns ms _ HV.out HU.out).mono ?_
  rintro e w1 ⟨rfl, rfl⟩
  rw [HK.out]
  go_wp2_with fail
  go_ret
  exact ⟨rfl, rfl⟩
 | true =>
  have HK := Hi hk
  have HC := Hi hc
  have HC2 := Hi hc2
  have HL := Hi (Vec.kind_ok hk).2.2
  have e : Vec.covers ns ms = Vec.ge ns ms := by unfold Vec.covers; rw [hk]; rfl
  rw [e]
  clear e hk hc hc2
  go_enter Tryz.func59, Tryz.ntmps59
  go_wp2_with fail
  refine (zck _ _ ns ms _ HV.out HU.out).mono ?_
  rintro e w1 ⟨rfl, rfl⟩
  rw [HK.out]
  go_wp2_with fail
  go_loop [5, 6, 13] (fun _ _ i => ∃ k : Nat, k <= ns.length /\ i = .int .i64 k /\ Hid (∀ i, i < k -> ∀ (h1 : i < ns.length) (h2 : i < ms.length), ms[i] <= ns[i])) (fun _ _ i => ns.length - (intOf i).toNat)
  case atStart => exact ⟨0, by omega, rfl, fun i hi => absurd hi (by omega)⟩
  case round =>
   obtain ⟨k, hk, rfl, hr⟩ := hrel
   by_cases hlt : k < ns.length
   . have hlt2 : k < ms.length := by have := HL.out; omega
     obtain ⟨b, off, rfl, hcell⟩ := HC.out k hlt
     obtain ⟨b2, off2, rfl, hcell2⟩ := HC2.out k hlt2
     by_cases h0 : ns[k] < ms[k]
     . go_wp2
       go_ret
       exact ⟨by rw [Vec.ge_none HL.out k hlt hlt2 h0]; rfl, rfl⟩
     . go_wp2
       go_round
       case rel =>
        refine ⟨k + 1, by omega, by go_num, fun i hi h1 h2 => ?_⟩
        rcases Nat.lt_or_ge i k with h | h
        . exact hr.out i h h1 h2
        . obtain rfl : i = k := by omega
          omega
       case measure => simp [intOf]; omega
   . have hs := Hi (Vec.ge_all HL.out (fun i h => hr.out i (by omega)))
     clear hr
     go_wp2
     go_ret
     exact ⟨by rw [hs.out]; rfl, rfl⟩
theorem zn5 {a b : List Int} (k : Nat) (h1 : k < a.length) (h2 : k < b.length) (h : a[k] ≠ b[k]) : (a == b) = false := by
 rw [beq_eq_false_iff_ne]
 rintro rfl
 exact h rfl
theorem zin {a b : List Int} (hl : a.length = b.length) (h : ∀ i, i < a.length -> ∀ (h1 : i < a.length) (h2 : i < b.length), a[i] = b[i]) : (a == b) = true := by
 rw [beq_iff_eq]
 exact List.ext_getElem hl fun i h1 h2 => h i h1 h1 h2
theorem zgr {a b : List Int} (hl : ¬ a.length = b.length) : (a == b) = false := by
 rw [beq_eq_false_iff_ne]
 rintro rfl
 exact hl rfl
set_option maxRecDepth 100000 in
set_option maxHeartbeats 1000000 in
theorem zgp (v u : Value) (ns ms : List Int) (w : World) (hv : Ints w v ns) (hu : Ints w u ms) :
 Calls Tryz.prog 38 #[v, u] w fun e w' => e = .returned (.bool (ns == ms)) /\ Ext w w' := by
 have HV := Hi hv
 have HU := Hi hu
 obtain ⟨a, cap, rfl, hcap, hmax, _, hc⟩ := hv.open
 obtain ⟨a2, cap2, rfl, hcap2, hmax2, _, hc2⟩ := hu.open
 unfold maxLen at hmax hmax2
 clear hv hu
 by_cases hl : ns.length = ms.length
 . have h1' : ((ns.length : Int) == (ms.length : Int)) = true := by rw [hl]; simp
   have HC := Hi hc
   have HC2 := Hi hc2
   have HL := Hi hl
   clear hc hc2 hl
   go_enter Tryz.func38, Tryz.ntmps38
   go_wp2_with fail
   go_loopw [5] (fun i wr => ∃ k : Nat, k <= ns.length /\ i = .int .i64 k /\ Hid (∀ i, i < k -> ∀ (h1 : i < ns.length) (h2 : i < ms.length), ns[i] = ms[i]) /\ Ext w wr) (fun i _ => ns.length - (intOf i).toNat)
   case atStart => exact ⟨0, by omega, rfl, fun i hi => absurd hi (by omega), Ext.refl _⟩
   case round =>
    obtain ⟨k, hk, rfl, hr, hE⟩ := hrel
    by_cases hlt : k < ns.length
    . have hlt2 : k < ms.length := by have := HL.out; omega
      obtain ⟨a', cap', e', _, _, _, hc⟩ := ((HV.out.below hE).below (Ext.drew wr)).open
      obtain ⟨b, off, rfl, hcell⟩ := hc k hlt
      injection e' with e1 e2 e3
      subst e1
      obtain ⟨a3, cap3, e', _, _, _, hc2⟩ := ((HU.out.below hE).below (Ext.drew wr)).open
      obtain ⟨b2, off2, rfl, hcell2⟩ := hc2 k hlt2
      injection e' with e4 e5 e6
      subst e4
      clear hc hc2 e2 e3 e5 e6
      by_cases h0 : ns[k] = ms[k]
      . have h0' : (ns[k] == ms[k]) = true := by rw [h0]; simp
        have H0 := Hi h0
        clear h0
        go_wp2_with fail
        go_region
        go_wp2
        go_roundw
        case rel =>
         refine ⟨k + 1, by omega, by go_num, fun i hi h1 h2 => ?_, hE.trans (Ext.drew _)⟩
         rcases Nat.lt_or_ge i k with h | h
         . exact hr.out i h h1 h2
         . obtain rfl : i = k := by omega
           exact H0.out
        case measure => simp [intOf]; omega
      . have h0' : (ns[k] == ms[k]) = false := by rw [beq_eq_false_iff_ne]; exact h0
        have H0 := Hi (zn5 k hlt hlt2 h0)
        clear h0
        go_wp2_with fail
        go_region
        go_wp2
        go_ret
        exact ⟨by rw [H0.out]; rfl, hE.trans (Ext.drew _)⟩
    . have hs := Hi (zin HL.out (fun i h => hr.out i (by omega)))
      clear hr
      go_wp2
      go_ret
      exact ⟨by rw [hs.out]; rfl, hE⟩
 . have h1' : ((ns.length : Int) == (ms.length : Int)) = false := by rw [beq_eq_false_iff_ne]; omega
   have HL := Hi (zgr hl)
   clear hc hc2 hl
   go_enter Tryz.func38, Tryz.ntmps38
   go_wp2
   go_ret
   exact ⟨by rw [HL.out]; rfl, Ext.refl _⟩
set_option maxRecDepth 100000 in
set_option maxHeartbeats 1000000 in
theorem zbd (v u : Value) (ns ms : List Int) (w : World) (hv : Ints w v ns) (hu : Ints w u ms) :
 Calls Tryz.prog 86 #[v, u] w fun e w' => e = .returned (.bool (ns == ms)) /\ Ext w w' := by
 have HV := Hi hv
 have HU := Hi hu
 obtain ⟨a, cap, rfl, hcap, hmax, _, hc⟩ := hv.open
 obtain ⟨a2, cap2, rfl, hcap2, hmax2, _, hc2⟩ := hu.open
 unfold maxLen at hmax hmax2
 clear hv hu
 by_cases hl : ns.length = ms.length
 . have h1' : ((ns.length : Int) == (ms.length : Int)) = true := by rw [hl]; simp
   have HC := Hi hc
   have HC2 := Hi hc2
   have HL := Hi hl
   clear hc hc2 hl
   go_enter Tryz.func86, Tryz.ntmps86
   go_wp2_with fail
   go_loopw [5, 13] (fun _ i wr => ∃ k : Nat, k <= ns.length /\ i = .int .i64 k /\ Hid (∀ i, i < k -> ∀ (h1 : i < ns.length) (h2 : i < ms.length), ns[i] = ms[i]) /\ Ext w wr) (fun _ i _ => ns.length - (intOf i).toNat)
   case atStart => exact ⟨0, by omega, rfl, fun i hi => absurd hi (by omega), Ext.refl _⟩
   case round =>
    obtain ⟨k, hk, rfl, hr, hE⟩ := hrel
    by_cases hlt : k < ns.length
    . have hlt2 : k < ms.length := by have := HL.out; omega
      obtain ⟨a', cap', e', _, _, _, hc⟩ := ((HV.out.below hE).below (Ext.drew wr)).open
      obtain ⟨b, off, rfl, hcell⟩ := hc k hlt
      injection e' with e1 e2 e3
      subst e1
      obtain ⟨a3, cap3, e', _, _, _, hc2⟩ := ((HU.out.below hE).below (Ext.drew wr)).open
      obtain ⟨b2, off2, rfl, hcell2⟩ := hc2 k hlt2
      injection e' with e4 e5 e6
      subst e4
      clear hc hc2 e2 e3 e5 e6
      by_cases h0 : ns[k] = ms[k]
      . have h0' : (ns[k] == ms[k]) = true := by rw [h0]; simp
        have H0 := Hi h0
        clear h0
        go_wp2_with fail
        go_region
        go_wp2
        go_roundw
        case rel =>
         refine ⟨k + 1, by omega, by go_num, fun i hi h1 h2 => ?_, hE.trans (Ext.drew _)⟩
         rcases Nat.lt_or_ge i k with h | h
         . exact hr.out i h h1 h2
         . obtain rfl : i = k := by omega
           exact H0.out
        case measure => simp [intOf]; omega
      . have h0' : (ns[k] == ms[k]) = false := by rw [beq_eq_false_iff_ne]; exact h0
        have H0 := Hi (zn5 k hlt hlt2 h0)
        clear h0
        go_wp2_with fail
        go_region
        go_wp2
        go_ret
        exact ⟨by rw [H0.out]; rfl, hE.trans (Ext.drew _)⟩
    . have hs := Hi (zin HL.out (fun i h => hr.out i (by omega)))
      clear hr
      go_wp2
      go_ret
      exact ⟨by rw [hs.out]; rfl, hE⟩
 . have h1' : ((ns.length : Int) == (ms.length : Int)) = false := by rw [beq_eq_false_iff_ne]; omega
   have HL := Hi (zgr hl)
   clear hc hc2 hl
   go_enter Tryz.func86, Tryz.ntmps86
   go_wp2
   go_ret
   exact ⟨by rw [HL.out]; rfl, Ext.refl _⟩
theorem Vec.same_is (a b : List Int) : Vec.same a b = (Vec.kind a b && (a == b)) := by
 rw [Bool.eq_iff_iff, Bool.and_eq_true, beq_iff_eq]
 constructor
 . intro h
   refine ⟨?_, Vec.same_eq h⟩
   unfold Vec.same at h
   simp only [Bool.and_eq_true] at h
   exact Vec.covers_kind h.1
 . rintro ⟨h, rfl⟩
   exact Vec.same_self (Vec.kind_ok h).1
set_option maxRecDepth 100000 in
set_option maxHeartbeats 1000000 in
theorem zq2 (v u : Value) (ns ms : List Int) (w : World) (hv : Ints w v ns) (hu : Ints w u ms) :
 Calls Tryz.prog 60 #[v, u] w fun e w' => e = .returned (.bool (Vec.same ns ms)) /\ Ext w w' := by
 have HV := Hi hv
 have HU := Hi hu
 clear hv hu
 rw [Vec.same_is]
 cases hk : Vec.kind ns ms with
 | false =>
  have HK := Hi hk
  clear hk
  go_enter Tryz.func60, Tryz.ntmps60
  go_wp2_with fail
  refine (zck _ _ ns ms _ HV.out HU.out).mono ?_
  rintro e w1 ⟨rfl, rfl⟩
  rw [HK.out]
  go_wp2_with fail
  go_ret
  exact ⟨rfl, Ext.refl _⟩
 | true =>
  have HK := Hi hk
  clear hk
  go_enter Tryz.func60, Tryz.ntmps60
  go_wp2_with fail
  refine (zck _ _ ns ms _ HV.out HU.out).mono ?_
  rintro e w1 ⟨rfl, rfl⟩
  rw [HK.out]
  go_wp2_with fail
  refine (zbd _ _ ns ms _ HV.out HU.out).mono ?_
  rintro e w2 ⟨rfl, hE2⟩
  obtain ⟨bb, hbb⟩ : ∃ bb, (ns == ms) = bb := ⟨_, rfl⟩
  rw [hbb]
  have HB := Hi hbb
  clear hbb
  go_wp2_with fail
  go_ret
  exact ⟨by rw [HB.out]; rfl, hE2⟩
theorem zid (l : List Int) (k : Nat) (x : Int) : i64s (l.set k x) = (i64s l).set k (.int .i64 x) := by simp [i64s, List.map_set]
theorem Ext.grown {w w' : World} (h : Ext w w') : w.grownBy w' none := ⟨h.os, h.tape, h.output, h.size, fun k hk _ => h.block k hk⟩
theorem zei {w : World} {base e g n cap : Nat} {xs : List Value} (h : w.ownsRow base e 1 (.slice (some ⟨g, 0, none⟩) n cap) n xs) : ∃ cur, w.heap[g]? = some (.cells cur e (0, 0)) /\ n <= cap /\ cap <= maxLen /\ cur.size = cap /\ cur.toList.take n = xs := by
 obtain ⟨_, h0 | ⟨g', cap', cur, h1, h2, h3, h4, h5, h6, h7⟩⟩ := h
 . simp at h0
 . injection h1 with h1 _ h8
   injection h1 with h1
   injection h1 with h1
   subst h1 h8
   exact ⟨cur, h3, h4, h5, by simpa using h6, by simpa using h7⟩
def Vec.enc (v : List Int) : List UInt8 := Pack.num v.length ++ nums v
def zky : Bool -> List UInt8 -> List UInt8
 | true, l => l
 | false, _ => []
@[simp] theorem bytesOr_true (l : List UInt8) : zky true l = l := rfl
@[simp] theorem bytesOr_false (l : List UInt8) : zky false l = [] := rfl
def zfk : Bool -> Int
 | true => 0
 | false => 30
@[simp] theorem formErr_true : zfk true = 0 := rfl
@[simp] theorem formErr_false : zfk false = 30 := rfl
def zla (w : World) (l : List UInt8) (err : Int) (e : Ending) (w' : World) : Prop := ∃ u, e = .returned (.tuple #[u, .int .i64 err]) /\ Bytes w' u l /\ Ext w w'
theorem zj6 {v : List Int} (h : Vec.right v = true) : v.all okNum = true := by
 rw [List.all_eq_true]
 intro x hx
 have := (Vec.right_ok h).1 x hx
 unfold okNum
 rw [decide_eq_true_eq]
 omega
set_option maxRecDepth 100000 in
set_option maxHeartbeats 2000000 in
theorem zml (v : Value) (ns : List Int) (w : World) (hv : Ints w v ns) :
 Calls Tryz.prog 147 #[v] w (zla w (zky (Vec.right ns) (Vec.enc ns)) (zfk (Vec.right ns))) := by
 have HV := Hi hv
 obtain ⟨a, cap, rfl, hcap, hmax, _, _⟩ := hv.open
 unfold maxLen at hmax
 clear hv
 cases hr : Vec.right ns with
 | false =>
  have HR := Hi hr
  clear hr
  go_enter Tryz.func147, Tryz.ntmps147
  go_wp2_with fail
  refine (zbs _ ns _ HV.out).mono ?_
  rintro e w1 ⟨rfl, rfl⟩
  rw [HR.out]
  go_wp2_with fail
  go_ret2
  exact ⟨_, rfl, zbo _, Ext.refl _⟩
 | true =>
  have HR := Hi hr
  have hlen := (Vec.right_ok hr).2
  have HO := Hi (zj6 hr)
  have h1 : [(ns.length : Int)].all okNum = true := by
   rw [zs1]
   unfold okNum
   rw [decide_eq_true_eq]
   omega
  have hn1 := zb4 (.slice none 0 0) _ [] [(ns.length : Int)] _ (zbo _) (Ints.one w ns.length) (by simp) (by simp)
  rw [h1, zrd] at hn1
  simp only [if_true, List.nil_append] at hn1
  have h9 := Pack.num_nine (n := ns.length) (by omega)
  have HN1 := Hi hn1
  clear hr hn1 h1
  go_enter Tryz.func147, Tryz.ntmps147
  go_wp2_with fail
  refine (zbs _ ns _ HV.out).mono ?_
  rintro e w1 ⟨rfl, rfl⟩
  rw [HR.out]
  go_wp2_with fail
  refine HN1.out.mono ?_
  rintro e w1 ⟨v1, rfl, ho1, hb1⟩
  have hE1 : Ext w w1 := (Ext.alloc _ _).trans hb1
  have hn2 := zb4 v1 _ _ ns w1 ho1.bytes (HV.out.below hE1) (by omega) (by omega)
  rw [HO.out] at hn2
  simp only [if_true] at hn2
  have HN2 := Hi hn2
  clear hn2
  go_wp2_with fail
  refine HN2.out.mono ?_
  rintro e w2 ⟨v2, rfl, ho2, hb2⟩
  go_wp2_with fail
  go_ret2
  exact ⟨_, rfl, ho2.bytes, hE1.trans hb2⟩
def zbc (s : Pack.St) : Nat -> Pack.St × List Int
 | 0 => (s, [])
 | k + 1 => (((zbc s k).1.num 1099511627776).1, (zbc s k).2 ++ [(((zbc s k).1.num 1099511627776).2 : Int)])
theorem zc2 (s : Pack.St) (k : Nat) : (zbc s k).2.length = k := by
 induction k with
 | zero => rfl
 | succ k ih => simp [zbc, ih]
def decN (l : List UInt8) : Nat := (Pack.St.num ⟨l, 0⟩ 8).2
def decS (l : List UInt8) : Pack.St × List Int := zbc (Pack.St.num ⟨l, 0⟩ 8).1 (decN l)
def decOk (l : List UInt8) : Bool := decide (1 <= decN l) && ((decS l).1.done == 0)
theorem zdr (s : Pack.St) (most : Int) (h : 0 <= most) : ((s.num most).2 : Int) <= most := by
 unfold Pack.St.num
 split
 . exact h
 . split
   . exact h
   . split
     . exact h
     . rename_i h3
       unfold Pack.wrong at h3
       simp only
       omega
theorem znc (l : List UInt8) : decN l <= 8 := by
 have := zdr ⟨l, 0⟩ 8 (by omega)
 unfold decN
 omega
theorem zll {w : World} {base g n : Nat} {xs : List Int} (h : w.ownsRow base 3 1 (.slice (some ⟨g, 0, none⟩) n n) n (i64s xs)) : ∃ cur : Array Value, w.heap[g]? = some (.cells cur 3 (0, 0)) /\ cur.toList = i64s xs := by
 obtain ⟨cur, h1, _, _, h4, h5⟩ := zei h
 refine ⟨cur, h1, ?_⟩
 rw [<- h5, List.take_of_length_le]
 rw [Array.length_toList]
 omega
theorem zmx (xs : List Int) : ∀ m, Value.int .u8 m ∉ i64s xs := by
 intro m h
 obtain ⟨x, _, hx⟩ := List.mem_map.1 h
 cases hx
theorem RD.storeRow {w : World} {p base g n k : Nat} {s : Pack.St} {xs : List Int} {x : Int} (h : RD w p s) (ho : w.ownsRow base 3 1 (.slice (some ⟨g, 0, none⟩) n n) n (i64s xs)) (hne : p ≠ g) : RD (w.setCell ⟨g, k, none⟩ (.int .i64 x)) p s := by
 have hlt := h.lt
 obtain ⟨a, m, c, h1, h2, h3⟩ := h
 obtain ⟨cur, hc, hl⟩ := zll ho
 have hb : But g w (w.setCell ⟨g, k, none⟩ (.int .i64 x)) := (But.refl g w).setCell k none _
 exact ⟨a, m, c, by rw [hb.block p hlt hne]; exact h1, h2.off hc (by rw [hl]; exact zmx xs) hb, h3⟩
theorem zsl {w w' : World} {p base g n cap : Nat} {xs : List Value} (ho : w.ownsRow base 3 1 (.slice (some ⟨g, 0, none⟩) n cap) n xs) (hne : p ≠ g) (hb : But p w w') : w'.ownsRow base 3 1 (.slice (some ⟨g, 0, none⟩) n cap) n xs :=
 ho.kept (row := some p) ⟨hb.os, hb.tape, hb.output, hb.size, fun k hk hkp => hb.block k hk (fun e => hkp (by rw [e]))⟩ (.inr (by simp [Value.ownBlock]; omega))
set_option maxRecDepth 100000 in
set_option maxHeartbeats 1000000 in
theorem zn4 (m : Nat) (w : World) (h1 : 1 <= m) (h8 : m <= 8) : Calls Tryz.prog 73 #[.int .i64 (m : Int)] w fun e w' => e = .returned (.slice (some ⟨w.heap.size, 0, none⟩) m m) /\ w'.ownsRow w.heap.size 3 1 (.slice (some ⟨w.heap.size, 0, none⟩) m m) m (i64s (List.replicate m 0)) /\ Ext w w' := by
 have hm2 : 8 * m <= 281474976710656 := by omega
 have g1 : ¬ (m : Int) < 1 := by omega
 have g2 : ¬ (8 : Int) < (m : Int) := by omega
 go_enter Tryz.func73, Tryz.ntmps73
 go_wp2_with (refine zc6 rfl (.tmp 9) (.tmp 9) tI rfl w.heap.size m rfl rfl hm2 (by unfold maxLen; omega) (Nat.le_refl _) ?_; intro w1 hown1 hg1)
 go_ret
 exact ⟨rfl, by rw [zgo] at hown1; exact hown1, (Below.refl _ w).grown hg1 (Nat.le_refl _) (fun k hk => by cases hk)⟩
set_option maxRecDepth 100000 in
set_option maxHeartbeats 1000000 in
theorem zp6 (w : World) : Calls Tryz.prog 73 #[.int .i64 0] w fun e w' => e = .returned (.slice none 0 0) /\ w = w' := by
 go_enter Tryz.func73, Tryz.ntmps73
 go_wp2
 go_ret
 exact ⟨rfl, rfl⟩
def zbp (s : Pack.St) (m k : Nat) : List Int := (zbc s k).2 ++ List.replicate (m - k) 0
theorem ziy (s : Pack.St) (m : Nat) : zbp s m 0 = List.replicate m 0 := by simp [zbp, zbc]
theorem zj3 (s : Pack.St) (m : Nat) : zbp s m m = (zbc s m).2 := by simp [zbp]
theorem zi9 (s : Pack.St) (m k : Nat) (hk : k < m) : zbp s m (k + 1) = (zbp s m k).set k (((zbc s k).1.num 1099511627776).2 : Int) := by
 have hz := zc2 s k
 unfold zbp
 rw [List.set_append_right _ _ (by omega), hz, Nat.sub_self]
 rw [show m - k = (m - (k + 1)) + 1 from by omega, List.replicate_succ, List.set_cons_zero]
 simp [zbc]
def zrn (w : World) (l : List UInt8) (e : Ending) (w' : World) : Prop := ∃ u, e = .returned (.tuple #[u, .int .i64 (zfk (decOk l))]) /\ Ints w' u (zfq (decOk l) (decS l).2) /\ Ext w w'
def GivesDecO (w : World) (l : List UInt8) (e : Ending) (w' : World) : Prop := ∃ u, e = .returned (.tuple #[u, .int .i64 (zfk (decOk l))]) /\ w'.ownsRow w.heap.size 3 1 u (zfq (decOk l) (decS l).2).length (i64s (zfq (decOk l) (decS l).2)) /\ Ext w w'
theorem GivesDecO.any {w w' : World} {l : List UInt8} {e : Ending} (h : GivesDecO w l e w') : zrn w l e w' := by
 obtain ⟨u, he, ho, hE⟩ := h
 exact ⟨u, he, Sl.ofOwn ho, hE⟩
theorem zoc {w : World} {b b' n : Nat} {e : TypeId} {xs : List Value} {v : Value} (h : w.ownsRow b e 1 v n xs) (hb : b' <= b) : w.ownsRow b' e 1 v n xs := by
 refine ⟨h.1, ?_⟩
 rcases h.2 with h | ⟨g, c, cur, h1, h2, h3⟩
 . exact .inl h
 . exact .inr ⟨g, c, cur, h1, Nat.le_trans hb h2, h3⟩
set_option maxRecDepth 100000 in
set_option maxHeartbeats 8000000 in
theorem zl4 (v : Value) (l : List UInt8) (w : World) (hv : Bytes w v l) (hl : l.length <= 140737488355328) :
 Calls Tryz.prog 141 #[v] w (GivesDecO w l) := by
 have HV := Hi hv
 obtain ⟨a, cap, rfl, hcap, hmax, hn, hc⟩ := hv.open
 unfold maxLen at hmax
 clear hv hc
 have e1 := fun (w : World) (a : Option Addr) (n c : Nat) => Lib.run_eql_slice_nil (P := Tryz.prog) w 22 3 a n c 0 0 Tryz.underlying22
 have hm8 := znc l
 have hdn : (Pack.St.num ⟨l, 0⟩ 8).2 = decN l := rfl
 have hds : decS l = zbc (Pack.St.num ⟨l, 0⟩ 8).1 (decN l) := rfl
 obtain ⟨s1, hs1⟩ : ∃ s1, (Pack.St.num ⟨l, 0⟩ 8).1 = s1 := ⟨_, rfl⟩
 rw [hs1] at hds
 have HDN := Hi hdn
 have HS1 := Hi hs1
 have HDS := Hi hds
 clear hdn hs1 hds
 unfold GivesDecO
 by_cases h0 : decN l = 0
 . have hok : decOk l = false := by unfold decOk; rw [h0]; rfl
   rw [hok]
   have H0 := Hi h0
   clear h0 hok
   go_enter Tryz.func141, Tryz.ntmps141
   go_wp2_with fail
   refine (zce _ l _ HV.out hl).mono ?_
   rintro e w1 ⟨p, rfl, hp, hr1, hE1⟩
   go_wp2_with fail
   refine (zcp p _ 8 _ hr1).mono ?_
   rw [HDN.out, H0.out]
   rintro e w2 ⟨rfl, hB2, hr2⟩
   go_wp2_with fail
   refine (zp6 _).mono ?_
   rintro e w3 ⟨rfl, rfl⟩
   go_wp2_with fail
   go_loop [6, 14] (fun _ i => i = .int .i64 0) (fun _ _ => 0)
   case atStart => rfl
   case round =>
    obtain rfl := hrel
    go_wp2
    go_ret2
    exact ⟨_, rfl, World.ownsRow_nil _ _ _ _, Below.trans (B := w.heap.size) hE1 (hB2.below hp hE1.size)⟩
 . have hm1 : 1 <= decN l := by omega
   obtain ⟨m, hm⟩ : ∃ m, decN l = m := ⟨_, rfl⟩
   rw [hm] at hm1 hm8 HDN HDS
   have HM := Hi hm
   clear hm h0
   go_enter Tryz.func141, Tryz.ntmps141
   go_wp2_with fail
   refine (zce _ l _ HV.out hl).mono ?_
   rintro e w1 ⟨p, rfl, hp, hr1, hE1⟩
   go_wp2_with fail
   refine (zcp p _ 8 _ hr1).mono ?_
   rw [HDN.out, HS1.out]
   rintro e w2 ⟨rfl, hB2, hr2⟩
   have hplt := hr2.lt
   have hE2 : Ext w w2 := Below.trans (B := w.heap.size) hE1 (hB2.below hp hE1.size)
   go_wp2_with fail
   refine (zn4 m _ hm1 hm8).mono ?_
   rintro e w3 ⟨rfl, ho3, hE3⟩
   have hr3 := hr2.ext hE3
   have e3 : Ext w w3 := hE2.trans hE3
   obtain ⟨g, hg⟩ : ∃ g, w2.heap.size = g := ⟨_, rfl⟩
   rw [hg] at ho3 hplt ⊢
   have hpg : p ≠ g := by omega
   have hwg : w.heap.size <= g := by rw [<- hg]; exact hE2.size
   clear hg
   go_wp2_with fail
   go_loopw [6, 14] (fun _ i wr => ∃ k : Nat, k <= m /\ i = .int .i64 k /\ wr.ownsRow g 3 1 (.slice (some ⟨g, 0, none⟩) m m) m (i64s (zbp s1 m k)) /\ RD wr p (zbc s1 k).1 /\ Ext w wr) (fun _ i _ => m - (intOf i).toNat)
   case atStart => exact ⟨0, by omega, rfl, by rw [ziy]; exact ho3, hr3, e3⟩
   case round =>
    obtain ⟨k, hk, rfl, ho, hr, hE⟩ := hrel
    by_cases hlt : k < m
    . have hnum := zcp p _ 1099511627776 _ hr
      have HN := Hi hnum
      clear hnum
      go_wp2_with fail
      refine HN.out.mono ?_
      rintro e w4 ⟨rfl, hB4, hr4⟩
      have ho4 := zsl ho hpg hB4
      obtain ⟨cur, hcur, hcl⟩ := zll ho4
      have hlen4 : (zbp s1 m k).length = m := by unfold zbp; simp [zc2]; omega
      obtain ⟨y, hco⟩ : ∃ y, w4.cell? ⟨g, k, none⟩ = some (.int .i64 y) := by
       refine ⟨(zbp s1 m k)[k]'(by omega), ?_⟩
       rw [ho4.cellAt k (by omega)]
       simp [i64s]
      have hfo := ho4.frozenAt k
      obtain ⟨x, hx⟩ : ∃ x : Int, (((zbc s1 k).1.num 1099511627776).2 : Int) = x := ⟨_, rfl⟩
      have hst := (ho4.stored k (.int .i64 x)).1
      rw [<- zid, <- hx, <- zi9 s1 m k hlt, hx] at hst
      have hr5 := hr4.storeRow (k := k) (x := x) ho4 hpg
      have hE4 : Ext w w4 := Below.trans (B := w.heap.size) hE (hB4.below hp hE.size)
      rw [hx]
      have HST := Hi hst
      clear hst hcur hcl ho4 ho hx hr4 hr
      go_wp2_with fail
      go_roundw
      case rel => exact ⟨k + 1, by omega, by go_num, HST.out, hr5, hE4.setCell (p := ⟨g, k, none⟩) hwg _⟩
      case measure => simp [intOf]; omega
    . obtain rfl : k = m := by omega
      have hend := zg9 p _ _ hr
      have hI : wr.ownsRow w.heap.size 3 1 (.slice (some ⟨g, 0, none⟩) k k) (zbc s1 k).2.length (i64s (zbc s1 k).2) := by
       rw [zj3] at ho
       rw [zc2]
       exact zoc ho hwg
      have HI := Hi hI
      have HEND := Hi hend
      obtain ⟨d, hd⟩ : ∃ d, (zbc s1 k).1.done = d := ⟨_, rfl⟩
      have hok : decOk l = (d == 0) := by
       unfold decOk
       rw [HM.out, HDS.out, hd, decide_eq_true hm1]
       rfl
      rw [hd] at HEND
      by_cases hd0 : d = 0
      . subst hd0
        rw [show ((0 : Int) == 0) = true from rfl] at hok
        have HOK := Hi hok
        clear hok hd hI hend
        go_wp2_with fail
        refine HEND.out.mono ?_
        rintro e w6 ⟨rfl, rfl⟩
        go_wp2_with fail
        go_ret2
        exact ⟨_, by rw [HOK.out]; rfl, by rw [HOK.out, HDS.out]; exact HI.out, hE⟩
      . have hd1 : (d == 0) = false := by rw [beq_eq_false_iff_ne]; exact hd0
        rw [hd1] at hok
        have HOK := Hi hok
        clear hok hd hI hend hd0
        go_wp2_with fail
        refine HEND.out.mono ?_
        rintro e w6 ⟨rfl, rfl⟩
        go_wp2_with fail
        go_ret2
        exact ⟨_, by rw [HOK.out]; rfl, by rw [HOK.out]; exact World.ownsRow_nil _ _ _ _, hE⟩
theorem zqd (n : Int) (ns : List Int) : nums (n :: ns) = Pack.num n.toNat ++ nums ns := by simp [nums]
theorem reads_back (ns : List Int) (h : ∀ x ∈ ns, 0 <= x /\ x <= 1099511627776) : ∀ k, k <= ns.length -> zbc ⟨nums ns, 0⟩ k = (⟨nums (ns.drop k), 0⟩, ns.take k) := by
 intro k
 induction k with
 | zero => intro _; simp [zbc]
 | succ k ih =>
  intro hk
  have hlt : k < ns.length := by omega
  have hx := h _ (List.getElem_mem hlt)
  have hd : ns.drop k = ns[k] :: ns.drop (k + 1) := by rw [List.drop_eq_getElem_cons hlt]
  unfold zbc
  rw [ih (by omega), hd, zqd]
  have hr := Pack.read_num ns[k].toNat (nums (ns.drop (k + 1))) 0 1099511627776 (by omega) (by omega)
  rw [hr, zam ns k hlt]
  simp only
  rw [show ((ns[k].toNat : Nat) : Int) = ns[k] from by omega]
theorem dec_enc {v : List Int} (h : Vec.right v = true) : decOk (Vec.enc v) = true /\ (decS (Vec.enc v)).2 = v := by
 obtain ⟨h1, h2, h3⟩ := Vec.right_ok h
 have hn : Pack.St.num ⟨Vec.enc v, 0⟩ 8 = (⟨nums v, 0⟩, v.length) := Pack.read_num v.length (nums v) 0 8 (by omega) (by omega)
 have hN : decN (Vec.enc v) = v.length := by unfold decN; rw [hn]
 have hS : decS (Vec.enc v) = (⟨nums (v.drop v.length), 0⟩, v.take v.length) := by
  unfold decS
  rw [hN, hn]
  exact reads_back v h1 v.length (Nat.le_refl _)
 rw [List.drop_length, List.take_length] at hS
 refine ⟨?_, by rw [hS]⟩
 unfold decOk
 rw [hN, hS, decide_eq_true h2]
 rfl
theorem zi6 (w : World) (l : List UInt8) (e : TypeId) (hl : l.length <= maxLen) : Bytes (Lib.bytesWorld w e ⟨l.toArray⟩) (.slice (some ⟨w.heap.size, 0, none⟩) l.length (grownCap w l.length 0 e)) l := by
 refine ⟨some ⟨w.heap.size, 0, none⟩, grownCap w l.length 0 e, by rw [u8s_length], by rw [u8s_length]; exact grownCap_ge _ _ _ _, grownCap_le_maxLen _ _ _ _ hl, fun e => by simp at e, fun i hi => ⟨_, _, rfl, ?_⟩⟩
 have hi' : i < l.length := by simpa using hi
 rw [Nat.zero_add, Lib.bytesWorld_cell w e _ i (by simpa [ByteArray.size] using hi')]
 simp [u8s, hi']
theorem zgb (w : World) (e : TypeId) (s : ByteArray) : Ext w (Lib.bytesWorld w e s) :=
 ⟨rfl, rfl, rfl, by rw [Lib.bytesWorld_size]; omega, fun k hk => Lib.bytesWorld_at_old w e s k hk⟩
theorem zr0 (w : World) (l : List UInt8) : (convert 9 141 (.string ⟨l.toArray⟩)).run Tryz.prog w = .ok (.slice (some ⟨w.heap.size, 0, none⟩) l.length (grownCap w l.length 0 5)) (Lib.bytesWorld w 5 ⟨l.toArray⟩) := by
 have := Lib.run_convert_string_bytes (P := Tryz.prog) w 9 141 5 ⟨l.toArray⟩ Tryz.underlying9 Tryz.underlying141 Tryz.underlying5
 rwa [zop] at this
set_option maxRecDepth 100000
theorem tRow : ElemOf Tryz.prog 23 22 (.slice none 0 0) 24 := ⟨Tryz.underlying23, by kernel_rfl, rfl⟩
theorem OwnI.ext {w w' : World} {base : Nat} {v : Value} {l : List Int} (h : OwnI w base v l) (hE : Ext w w') : OwnI w' base v l := za0 h hE
theorem OwnI.lower {w : World} {base b : Nat} {v : Value} {l : List Int} (h : OwnI w base v l) (hb : b <= base) : OwnI w b v l := zaw h hb
theorem OwnI.but {w w' : World} {base p : Nat} {v : Value} {l : List Int} {cs : Array Value} {t : TypeId} {fr : Nat × Nat} (h : OwnI w base v l) (hp : w.heap[p]? = some (.cells cs t fr)) (ht : t ≠ 3) (hB : But p w w') : OwnI w' base v l :=
 zbe h (zaj h hp ht) hB
theorem OwnI.slice {w : World} {base : Nat} {v : Value} {l : List Int} (h : OwnI w base v l) : ∃ a n c, v = .slice a n c := zao h
theorem OwnI.grown {w w' : World} {base b n : Nat} {v u : Value} {l : List Int} {xs : List Value} (h : OwnI w base v l) (hu : w.ownsRow b 22 1 u n xs) (hg : w.grownBy w' u.ownBlock) : OwnI w' base v l := by
 rcases hu.2 with ⟨rfl, _⟩ | ⟨g, cap, cur, rfl, _, hgb, _⟩
 . exact h.kept hg (by
    rcases h.2 with ⟨rfl, _⟩ | ⟨g, cap, cur, rfl, _⟩
    . exact .inl rfl
    . exact .inr (by simp [Value.ownBlock]))
 . exact h.kept hg (.inr (Ne.symm (zaj h hgb (by decide))))
def OwnRR (w : World) (base : Nat) (v : Value) (ls : List (List Int)) : Prop :=
 ∃ xs : List Value, w.ownsRow base 22 1 v ls.length xs /\ xs.length = ls.length /\ ∀ i (h : i < xs.length) (h' : i < ls.length), OwnI w base xs[i] ls[i]
theorem OwnRR.rows {w : World} {base : Nat} {v : Value} {ls : List (List Int)} (h : OwnRR w base v ls) : IRows w v ls := by
 obtain ⟨xs, h1, h2, h3⟩ := h
 exact ⟨xs, Sl.ofOwn h1, h2, fun i h h' => (h3 i h h').ints⟩
theorem OwnRR.nil (w : World) (base : Nat) : OwnRR w base (.slice none 0 0) [] := ⟨[], World.ownsRow_nil _ _ _ _, rfl, fun i h _ => absurd h (by simp)⟩
theorem OwnRR.ext {w w' : World} {base : Nat} {v : Value} {ls : List (List Int)} (h : OwnRR w base v ls) (hE : Ext w w') : OwnRR w' base v ls := by
 obtain ⟨xs, h1, h2, h3⟩ := h
 exact ⟨xs, za0 h1 hE, h2, fun i h h' => (h3 i h h').ext hE⟩
theorem OwnRR.but {w w' : World} {base p : Nat} {v : Value} {ls : List (List Int)} {cs : Array Value} {t : TypeId} {fr : Nat × Nat} (h : OwnRR w base v ls) (hp : w.heap[p]? = some (.cells cs t fr)) (ht : t ≠ 3) (ht2 : t ≠ 22) (hB : But p w w') : OwnRR w' base v ls := by
 obtain ⟨xs, h1, h2, h3⟩ := h
 exact ⟨xs, zbe h1 (zaj h1 hp ht2) hB, h2, fun i h h' => (h3 i h h').but hp ht hB⟩
theorem OwnRR.slice {w : World} {base : Nat} {v : Value} {ls : List (List Int)} (h : OwnRR w base v ls) : ∃ a n c, v = .slice a n c := by
 obtain ⟨xs, h1, _⟩ := h
 exact zao h1
theorem OwnRR.lower {w : World} {base b : Nat} {v : Value} {ls : List (List Int)} (h : OwnRR w base v ls) (hb : b <= base) : OwnRR w b v ls := by
 obtain ⟨xs, h1, h2, h3⟩ := h
 exact ⟨xs, zaw h1 hb, h2, fun i h h' => (h3 i h h').lower hb⟩
theorem OwnRR.snoc {w w' : World} {base : Nat} {v v' x : Value} {ls : List (List Int)} {l : List Int} {xs : List Value} (h1 : w.ownsRow base 22 1 v ls.length xs) (h2 : xs.length = ls.length) (h3 : ∀ i (h : i < xs.length) (h' : i < ls.length), OwnI w base xs[i] ls[i])
 (hx : OwnI w base x l) (hg : w.grownBy w' v.ownBlock) (hn : w'.ownsRow base 22 1 v' (ls.length + 1) (xs ++ [x])) : OwnRR w' base v' (ls ++ [l]) := by
 refine ⟨xs ++ [x], by simpa using hn, by simp [h2], fun i hi hi' => ?_⟩
 simp only [List.length_append, List.length_cons, List.length_nil] at hi hi'
 rcases Nat.lt_or_ge i xs.length with hlt | hge
 . rw [List.getElem_append_left hlt, List.getElem_append_left (by omega)]
   exact (h3 i hlt (by omega)).grown h1 hg
 . obtain rfl : i = xs.length := by omega
   rw [List.getElem_append_right (by omega), List.getElem_append_right (by omega)]
   simpa [h2] using hx.grown h1 hg
theorem zqt {x : Value} (h : ∃ a n c, x = .slice a n c) : ∀ y ∈ [x], y.oneCell' = true := by
 intro y hy
 obtain ⟨a, n, c, rfl⟩ := h
 obtain rfl := List.mem_singleton.1 hy
 rfl
theorem slOne (w : World) (x : Value) (e : TypeId) : Sl (w.alloc (.cells #[x] e)) (.slice (some ⟨w.heap.size, 0, none⟩) 1 1) [x] :=
 Sl.made w [x] e 1 (by simp) (by simp [maxLen]) (fr := (0, 0))
def Wf64 (x : Int) : Prop := (Lit.int .i64 x).wf = true
theorem ints0 (w : World) : Ints w (.slice none 0 0) [] := Sl.ofOwn (World.ownsRow_nil w 0 3 1)
theorem zjl (w : World) : IRows w (.slice none 0 0) [] := (OwnRR.nil w 0).rows
set_option maxHeartbeats 2000000 in
theorem zds (v : Value) (ns : List Int) (w : World) (hv : Ints w v ns) (hl : ns.length <= 1000000) :
 Calls Tryz.prog 48 #[v] w fun x w' => ∃ u, x = .returned u /\ w'.ownsRow w.heap.size 3 1 u ns.length (i64s ns) /\ Ext w w' := by
 have hv0 := hv
 obtain ⟨a, cap, rfl, hcap, hmax, hn, hc⟩ := hv.open
 have e1 := fun (w : World) (a : Option Addr) (n c : Nat) => Lib.run_eql_slice_nil (P := Tryz.prog) w 22 3 a n c 0 0 Tryz.underlying22
 cases a with
 | none =>
  obtain rfl := hn rfl
  have : ns = [] := List.eq_nil_of_length_eq_zero (by omega)
  subst this
  clear hc
  go_enter Tryz.func48, Tryz.ntmps48
  go_wp2
  go_ret
  exact ⟨_, rfl, World.ownsRow_nil _ _ _ _, Below.refl _ _⟩
 | some ad =>
  have hu := zqy ns
  have ti := tI
  clear hc
  have hown0 : (w.alloc (.cells #[] 3)).ownsRow w.heap.size 3 1 (.slice (some ⟨w.heap.size, 0, none⟩) 0 0) 0 [] := World.ownsRow_made w #[] 0 (Nat.le_refl _) (by simp [maxLen]) (by simp)
  have hsl : Sl (w.alloc (.cells #[] 3)) (.slice (some ad) ns.length cap) (i64s ns) := hv0.below (Ext.alloc _ _)
  have hc1 : 0 + (i64s ns).length <= maxLen := by simp; unfold maxLen; omega
  have hc2 : (0 + (i64s ns).length) * 8 <= 140737488355328 := by simp; omega
  go_enter Tryz.func48, Tryz.ntmps48
  go_wp2_with (first | (at_builtin; refine zcg rfl (.tmp 5) (.tmp 6) ti rfl rfl rfl hown0 hsl hu hc1 hc2 (by simp) ?_; intro v2 w2 hown2 hg2))
  go_ret
  exact ⟨_, rfl, by simpa using hown2, ((Below.refl _ w).alloc (Nat.le_refl _) _).grown hg2 (by simp) (fun k hk => (hown0.lt k hk).1)⟩
end Go.Proofs.YtnoeconcpgdjlaaGreat
namespace Go.Proofs.YtnoeconcpgdjlaaGreat
open Go.RowKit Go.Shelf
attribute [local go_sem] Oper.semAt_some
def zbj (ls : List (List Int)) (k : Nat) : List Int := ls.map fun r => r.getD k 0
@[simp] theorem column_length (ls : List (List Int)) (k : Nat) : (zbj ls k).length = ls.length := by simp [zbj]
theorem zfb (ls : List (List Int)) (k j : Nat) (hj : j < ls.length) (hk : k < ls[j].length) : (zbj ls k).take (j + 1) = (zbj ls k).take j ++ [ls[j][k]] := by
 rw [zam _ j (by simpa using hj)]
 simp [zbj, hk]
def Kept (n₀ B : Nat) (W W' : World) : Prop := Below n₀ W W' /\ ∀ v, W.cell? ⟨B, 0, none⟩ = some v -> W'.cell? ⟨B, 0, none⟩ = some v
theorem Kept.refl (n₀ B : Nat) (W : World) : Kept n₀ B W W := ⟨Below.refl _ _, fun _ h => h⟩
theorem Kept.trans {n₀ B : Nat} {a b c : World} (h : Kept n₀ B a b) (k : Kept n₀ B b c) : Kept n₀ B a c := ⟨h.1.trans k.1, fun v hv => k.2 v (h.2 v hv)⟩
theorem ztd {n₀ B : Nat} {w : World} (hn : n₀ <= w.heap.size) (W : World) (l : Nat) (o o' : Obj) (hl : w.heap.size <= l) (h : W.heap[l]? = some o) (h1 : o.isCells = false) (h2 : o.isWalk = false) : Kept n₀ B W (W.putObj l o') :=
 ⟨belowK_b hn W l o o' hl h h1 h2, fun v hv => cell_kept hv (grownBy_putObj' W l o') (fun r e => by cases e; exact ⟨o, h, h1⟩)⟩
set_option maxRecDepth 100000 in
set_option maxHeartbeats 2000000 in
theorem zjw (F : Fence) (n : Nat) (h70 : F.fn 105) (hro : F.round = none) (hn : 1 <= n) (l Bl Bs : Nat) (lv : Value) (ls : List (List Int)) (k : Nat) (wq : World) (hL : IRows wq lv ls) (hlong : ∀ r ∈ ls, k < r.length)
 (J Jx : List Int -> World -> Prop)
 (hY : ∀ pre x W, J pre W -> pre.length < ls.length -> YieldAt F (n - 1) Tryz.prog l #[.int .i64 x] W fun e W' =>
   (e = .returned (.bool true) /\ J (pre ++ [x]) W' /\ Kept wq.heap.size Bs W W') \/ (e = .returned (.bool false) /\ Jx (pre ++ [x]) W'))
 (W : World) (hW : Below wq.heap.size wq W) (hBl : W.cell? ⟨Bl, 0, none⟩ = some lv) (hBs : W.cell? ⟨Bs, 0, none⟩ = some (.int .i64 (k : Int))) (h0 : J [] W) :
 CallsIn F n Tryz.prog 105 #[.func (.yield l) #[] #[], .pointer (some ⟨Bl, 0, none⟩), .pointer (some ⟨Bs, 0, none⟩)] W fun e W' => (∃ v, e = .returned v) ∧
  ((∃ ys, ys = zbj ls k /\ J ys W') \/ (∃ pre, pre <+: zbj ls k /\ Jx pre W')) := by
 obtain ⟨a, cap, rfl, hcap, hmax, _⟩ := hL.open
 unfold maxLen at hmax
 have HL := Hi hL
 clear hL
 refine callsIn_of_wp Tryz.func105 rfl h70 ?_ hro
 simp only [Tryz.ntmps105, List.size_toArray, List.length_cons, List.length_nil, Nat.reduceAdd, Nat.reduceSub, Array.replicate_succ, Array.replicate_zero, List.push_toArray, List.append_toArray, List.nil_append, List.cons_append]
 gi_wp2
 gi_loopw [5, 8] (fun _ i wr => ∃ j : Nat, j <= ls.length /\ i = .int .i64 j /\ J ((zbj ls k).take j) wr /\ Kept wq.heap.size Bs W wr)
  (fun _ i _ => ls.length - (intOf i).toNat)
 case atStart => exact ⟨0, by omega, rfl, h0, Kept.refl _ _ _⟩
 case round =>
  obtain ⟨j, hj, rfl, hJs, hnx⟩ := hrel
  by_cases hlt : j < ls.length
  . have hkl : k < ls[j].length := hlong _ (List.getElem_mem hlt)
    obtain ⟨a2, cap2, e2, _, _, hrow⟩ := (HL.out.below (hW.trans hnx.1)).open
    obtain ⟨b, off, x, rfl, hcx, hix⟩ := hrow j hlt
    injection e2 with e3 e4 e5
    obtain ⟨ax, capx, rfl, hcapx, hmaxx, _, hnum⟩ := hix.open
    obtain ⟨bx, offx, rfl, hcn⟩ := hnum k hkl
    unfold maxLen at hmaxx
    subst e3
    have hbs := hnx.2 _ hBs
    have hsucc := Hi (zfb ls k j hlt hkl)
    obtain ⟨fn, tmps, assign, body, hy, hR⟩ := hY _ ls[j][k] wr hJs (by simp; omega)
    clear hrow hnum hix e4 e5
    gi_wp2
    refine hR.mono ?_
    rintro e W3 (⟨rfl, hJ3, hk3⟩ | ⟨rfl, hJx3⟩)
    . gi_wp2
      go_roundw
      case rel => exact ⟨j + 1, by omega, by simp, by rw [hsucc.out]; exact hJ3, hnx.trans hk3⟩
      case measure => simp [intOf]; omega
    . gi_wp2
      refine bodyPost_ret (results_none rfl _ _ _) rfl ?_
      exact ⟨⟨_, rfl⟩, .inr ⟨_, by rw [<- hsucc.out]; exact List.take_prefix _ _, hJx3⟩⟩
  . obtain rfl : j = ls.length := by omega
    gi_wp2
    go_end0
    exact ⟨⟨_, rfl⟩, .inl ⟨_, rfl, by rw [List.take_of_length_le (by simp)] at hJs; exact hJs⟩⟩
theorem zq6 (w : World) (x y : Obj) : Ext w ((w.alloc x).alloc y) := (Ext.alloc _ _).trans (Ext.alloc _ _)
theorem zha (F : Fence) (n : Nat) (h70 : F.fn 105) (hro : F.round = none) (hn : 1 <= n) (Bl Bs : Nat) (lv : Value) (ls : List (List Int)) (k : Nat) (wq w : World) (hL : IRows wq lv ls) (hlong : ∀ r ∈ ls, k < r.length)
 (hw : Below wq.heap.size wq w) (hBl : w.cell? ⟨Bl, 0, none⟩ = some lv) (hBs : w.cell? ⟨Bs, 0, none⟩ = some (.int .i64 (k : Int))) (hBl' : Bl < w.heap.size) (hBs' : Bs < w.heap.size) :
 SeqStopsK F n Tryz.prog 105 #[.pointer (some ⟨Bl, 0, none⟩), .pointer (some ⟨Bs, 0, none⟩)] (fun x : Int => #[Value.int .i64 x]) (Kept wq.heap.size Bs) (fun ys => ys = zbj ls k) (fun pre => pre <+: zbj ls k) ls.length w := fun l J Jx W hW _ _ hY h0 =>
 zjw F n h70 hro hn l Bl Bs lv ls k wq hL hlong J Jx hY W (hw.trans (hW.mono hw.size)) ((hW.cell (p := ⟨Bl, 0, none⟩) hBl').trans hBl) ((hW.cell (p := ⟨Bs, 0, none⟩) hBs').trans hBs) h0
set_option maxRecDepth 100000 in
set_option maxHeartbeats 1000000 in
theorem zj7 (v : Value) (k : Int) (w : World) (hv : ∃ a n c, v = .slice a n c) :
 Calls Tryz.prog 74 #[v, .int .i64 k] w fun e w' => ∃ Bl Bs : Nat, e = .returned (.func (.func 105) #[] #[.pointer (some ⟨Bl, 0, none⟩), .pointer (some ⟨Bs, 0, none⟩)]) ∧
  Ext w w' /\ w'.cell? ⟨Bl, 0, none⟩ = some v /\ w'.cell? ⟨Bs, 0, none⟩ = some (.int .i64 k) /\ Bl < w'.heap.size /\ Bs < w'.heap.size /\ w.heap.size <= Bs := by
 obtain ⟨a, n, c, rfl⟩ := hv
 go_enter Tryz.func74, Tryz.ntmps74
 go_wp2
 go_ret
 refine ⟨w.heap.size, w.heap.size + 1, rfl, zq6 _ _ _, ?_, ?_, by simp; omega, by simp, by simp⟩
 . have h1 := World.alloc_heap_new w (.cells #[.slice a n c] 23)
   have h2 := Below.heap_alloc (w.alloc (.cells #[.slice a n c] 23)) (.cells #[.int .i64 k] 3) w.heap.size (by simp)
   rw [zaa (h2.trans h1)]
   rfl
 . have h1 := World.alloc_heap_new (w.alloc (.cells #[.slice a n c] 23)) (.cells #[.int .i64 k] 3)
   rw [World.size_alloc] at h1
   rw [zaa h1]
   rfl
end Go.Proofs.YtnoeconcpgdjlaaGreat
namespace Go.Proofs.YtnoeconcpgdjlaaGreat.Vec
theorem zhx {xs s : List Int} (hp : s.Perm xs) (hs : s.Pairwise (· <= ·)) (h0 : ∀ x ∈ xs, 0 <= x) (need : Nat) (h1 : 1 <= need) (hn : need <= xs.length) (hi : s.length - need < s.length) :
 IsQuorum xs need s[s.length - need] := by
 have hl : s.length = xs.length := hp.length_eq
 have hm : ∀ n, many xs n = many s n := fun n => (hp.countP_eq _).symm
 have le_of : ∀ a b (ha : a < s.length) (hb : b < s.length), a <= b -> s[a] <= s[b] := by
  intro a b ha hb hab
  rcases Nat.lt_or_ge a b with h | h
  . exact (List.pairwise_iff_getElem.1 hs) a b ha hb h
  . obtain rfl : a = b := by omega
    exact Int.le_refl _
 refine ⟨h0 _ (hp.mem_iff.1 (List.getElem_mem hi)), ?_, fun n hq => ?_⟩
 . rw [hm]
   unfold many
   have e : s.countP (fun x => decide (s[s.length - need] <= x)) = (s.take (s.length - need)).countP (fun x => decide (s[s.length - need] <= x)) + (s.drop (s.length - need)).countP (fun x => decide (s[s.length - need] <= x)) := by
    rw [<- List.countP_append, List.take_append_drop]
   have e2 : (s.drop (s.length - need)).countP (fun x => decide (s[s.length - need] <= x)) = need := by
    have e3 : (s.drop (s.length - need)).length = need := by simp; omega
    rw [List.countP_eq_length.2, e3]
    intro x hx
    obtain ⟨i, hi', rfl⟩ := List.getElem_of_mem hx
    rw [List.getElem_drop]
    exact decide_eq_true (le_of _ _ hi (by simp at hi'; omega) (by omega))
   omega
 . rw [hm]
   unfold many
   have e : s.countP (fun x => decide (n <= x)) = (s.take (s.length - need + 1)).countP (fun x => decide (n <= x)) + (s.drop (s.length - need + 1)).countP (fun x => decide (n <= x)) := by
    rw [<- List.countP_append, List.take_append_drop]
   have e2 : (s.take (s.length - need + 1)).countP (fun x => decide (n <= x)) = 0 := by
    rw [List.countP_eq_zero]
    intro x hx
    obtain ⟨i, hi', rfl⟩ := List.getElem_of_mem hx
    rw [List.getElem_take]
    have := le_of i (s.length - need) (by simp at hi'; omega) hi (by simp at hi'; omega)
    simp only [decide_eq_true_eq]
    omega
   have e3 : (s.drop (s.length - need + 1)).countP (fun x => decide (n <= x)) <= (s.drop (s.length - need + 1)).length := List.countP_le_length
   have e4 : (s.drop (s.length - need + 1)).length = need - 1 := by simp; omega
   omega
theorem sort_quorum (xs : List Int) (h0 : ∀ x ∈ xs, 0 <= x) (need : Nat) (h1 : 1 <= need) (hn : need <= xs.length) (hi : xs.length - need < (xs.mergeSort fun x y => decide (x <= y)).length) :
 (xs.mergeSort fun x y => decide (x <= y))[xs.length - need] = quorumNum xs need := by
 have hp : (xs.mergeSort fun x y => decide (x <= y)).Perm xs := List.mergeSort_perm _ _
 have hs : (xs.mergeSort fun x y => decide (x <= y)).Pairwise (· <= ·) := by
  have := List.pairwise_mergeSort (le := fun (x y : Int) => decide (x <= y)) (by intro a b c; simp; omega) (by intro a b; simp; omega) xs
  rw [List.pairwise_iff_getElem] at this ⊢
  intro i j hi hj hij
  simpa using this i j hi hj hij
 have hl : (xs.mergeSort fun x y => decide (x <= y)).length = xs.length := hp.length_eq
 have h := zhx hp hs h0 need h1 hn (by omega)
 have h2 := quorum_unique h (quorum_is h0 (by omega) (by omega))
 rw [<- h2]
 congr 1
 omega
end Go.Proofs.YtnoeconcpgdjlaaGreat.Vec
namespace Go.Proofs.YtnoeconcpgdjlaaGreat
open Go.RowKit Go.Shelf Go.Sort
attribute [local go_sem] Oper.semAt_some
def zb5 : List (List Int) -> List Int
 | [] => []
 | r :: _ => r
def zo7 (ls : List (List Int)) : Nat := (zb5 ls).length
def quor (ls : List (List Int)) (need : Int) : List Int := (List.range (zo7 ls)).map fun k => Vec.quorumNum (zbj ls k) need
def zd1 (ls : List (List Int)) (need : Int) : Bool := decide (1 <= need /\ need <= ls.length) && ls.all fun r => Vec.kind r (zb5 ls)
theorem zfu {ls : List (List Int)} {need : Int} (h : ¬ (1 <= need /\ need <= ls.length)) : zd1 ls need = false := by
 unfold zd1
 rw [decide_eq_false h]
 rfl
theorem zkm {ls : List (List Int)} {need : Int} (k : Nat) (hk : k < ls.length) (h : Vec.kind ls[k] (zb5 ls) = false) : zd1 ls need = false := by
 unfold zd1
 have : (ls.all fun r => Vec.kind r (zb5 ls)) = false := by
  rw [List.all_eq_false]
  exact ⟨ls[k], List.getElem_mem _, by rw [h]; simp⟩
 rw [this, Bool.and_false]
theorem zlx {ls : List (List Int)} {need : Int} (h1 : 1 <= need /\ need <= ls.length) (h : (ls.take ls.length).all (fun r => Vec.kind r (zb5 ls)) = true) : zd1 ls need = true := by
 unfold zd1
 rw [List.take_length] at h
 rw [h, decide_eq_true h1]
 rfl
theorem zk8 {ls : List (List Int)} (h : 0 < ls.length) : zb5 ls = ls[0] := by
 cases ls with
 | nil => simp at h
 | cons a l => rfl
def filled (q : List Int) (k : Nat) : List Int := q.take k ++ List.replicate (q.length - k) 0
theorem zj4 (q : List Int) : filled q 0 = List.replicate q.length 0 := by simp [filled]
theorem znh (q : List Int) : filled q q.length = q := by simp [filled]
theorem zj1 (q : List Int) (k : Nat) (hk : k < q.length) : filled q (k + 1) = (filled q k).set k q[k] := by
 have hz : (q.take k).length = k := by simp; omega
 unfold filled
 rw [List.set_append_right _ _ (by omega), hz, Nat.sub_self, zam q k hk]
 rw [show q.length - k = (q.length - (k + 1)) + 1 from by omega, List.replicate_succ, List.set_cons_zero, List.append_assoc]
 rfl
theorem zmd (q : List Int) (k : Nat) (hk : k <= q.length) : (filled q k).length = q.length := by simp [filled]; omega
@[simp] theorem quor_length (ls : List (List Int)) (need : Int) : (quor ls need).length = zo7 ls := by simp [quor]
theorem zlj (ls : List (List Int)) (need : Int) (k : Nat) (hk : k < (quor ls need).length) : (quor ls need)[k] = Vec.quorumNum (zbj ls k) need := by simp [quor]
def marks (Ds : List Nat) : List Deferred := Ds.map fun D => { target := .collected D, args := #[] }
theorem zi2 {F : Fence} {n n₀ : Nat} {P : Program} {fn : Func} {tmps : Array Value} {R : Ending -> World -> Prop} (Pw : World -> Prop)
 (hP : ∀ (W : World) (D : Nat), Pw W -> n₀ <= D -> W.heap[D]? = some (.deferred (some [])) -> Pw (W.putObj D (.deferred none)))
 (hend : ∀ W, Pw W -> LeavesIn F n P fn tmps R [] .returning W) : ∀ (Ds : List Nat) (W : World), Pw W -> Ds.Nodup -> (∀ D ∈ Ds, n₀ <= D /\ W.heap[D]? = some (.deferred (some []))) -> LeavesInM F n P fn tmps R (marks Ds) .returning W := by
 intro Ds
 induction Ds with
 | nil => intro W hw _ _; exact hend W hw
 | cons D Ds ih =>
  intro W hw hnd hm
  obtain ⟨h1, h2⟩ := hm D (by simp)
  rw [List.nodup_cons] at hnd
  refine ⟨by simp, .inl ⟨D, _, rfl, run_takeDeferred h2, ih _ (hP W D hw h1 h2) hnd.2 fun D' hD' => ?_⟩⟩
  obtain ⟨h3, h4⟩ := hm D' (by simp [hD'])
  exact ⟨h3, (World.putObj_heap_other (by rintro rfl; exact hnd.1 hD')).trans h4⟩
structure QInv (w : World) (q : List Int) (g h B nx cap1 L k : Nat) (Ds : List Nat) (m : Nat) (W : World) : Prop where
 ext : Below w.heap.size w W
 out : W.ownsRow w.heap.size 3 1 (.slice (some ⟨g, 0, none⟩) nx cap1) nx (i64s (filled q k))
 box : Boxed W B 22 (.slice (some ⟨h, 0, none⟩) m L)
 col : ∃ xs, W.ownsRow h 3 1 (.slice (some ⟨h, 0, none⟩) m L) m xs
 mks : ∀ D ∈ Ds, w.heap.size <= D /\ D < W.heap.size /\ W.heap[D]? = some (.deferred (some []))
theorem zmy {β : Type} {base size n : Nat} {e : TypeId} {v : Value} {xs : List Value} : Go.Own (fun (_ : β) W => W.ownsRow base e size v n xs) := by
 rintro s X Y row hr hg hrow
 refine hr.kept hg ?_
 rcases hr.2 with ⟨rfl, _⟩ | ⟨g, cap, cur, rfl, _, hgb, _⟩
 . exact .inl rfl
 . refine .inr fun e' => ?_
   obtain ⟨o, ho, hc⟩ := hrow g (by simpa [Value.ownBlock] using e'.symm)
   rw [hgb] at ho; cases ho; cases hc
theorem zsf {β : Type} {B : Nat} {t : TypeId} {f : β -> Value} : Go.Own (fun (s : β) W => Boxed W B t (f s)) := by
 rintro s X Y row hv hg hrow
 refine hv.kept hg (fun e' => ?_)
 obtain ⟨o, ho, hc⟩ := hrow B e'.symm
 rw [show X.heap[B]? = _ from hv] at ho; cases ho; cases hc
theorem zq8 {β : Type} {base size : Nat} {e : TypeId} {v : β -> Value} {n : β -> Nat} {xs : β -> List Value} : Go.Own (fun (s : β) W => W.ownsRow base e size (v s) (n s) (xs s)) := by
 rintro s X Y row hr hg hrow
 refine hr.kept hg ?_
 rcases hr.2 with ⟨h0, _⟩ | ⟨g, cap, cur, h0, _, hgb, _⟩
 . rw [h0]; exact .inl rfl
 . rw [h0]
   refine .inr fun e' => ?_
   obtain ⟨o, ho, hc⟩ := hrow g (by simpa [Value.ownBlock] using e'.symm)
   rw [hgb] at ho; cases ho; cases hc
theorem zof {β : Type} {B n₀ : Nat} {Ds : List Nat} (h : ∀ D ∈ Ds, D < B) : OwnFrom B (fun (_ : β) W => ∀ D ∈ Ds, n₀ <= D /\ D < W.heap.size /\ W.heap[D]? = some (.deferred (some []))) := by
 rintro s X Y row hm hg hrow D hD
 obtain ⟨h1, h2, h3⟩ := hm D hD
 exact ⟨h1, Nat.lt_of_lt_of_le h2 hg.size, (hg.block D h2 (fun e => by have := (hrow D e.symm).1; have := h D hD; omega)).trans h3⟩
theorem znv {w : World} {base e g n cap : Nat} {xs : List Value} (h : w.ownsRow base e 1 (.slice (some ⟨g, 0, none⟩) n cap) n xs) : w.ownsRow base e 1 (.slice (some ⟨g, 0, none⟩) 0 cap) 0 [] := by
 obtain ⟨_, h0 | ⟨g', cap', cur, h1, h2, h3, _, h5, h6, _⟩⟩ := h
 . simp at h0
 . injection h1 with h1 _ h7
   injection h1 with h1
   injection h1 with h1
   subst h1 h7
   exact ⟨rfl, .inr ⟨g, cap, cur, rfl, h2, h3, Nat.zero_le _, h5, h6, rfl⟩⟩
set_option maxRecDepth 100000 in
set_option maxHeartbeats 4000000 in
theorem zmv (v : Value) (ls : List (List Int)) (need : Int) (w : World) (hv : IRows w v ls) (hlen : ls.length <= 1000000) :
 Calls Tryz.prog 39 #[v, .int .i64 need] w (zp1 w (zfq (zd1 ls need) (quor ls need)) (zd1 ls need)) := by
 have HL := Hi hv
 obtain ⟨a, cap, rfl, hcap, hmax, _⟩ := hv.open
 unfold maxLen at hmax
 clear hv
 refine (callsIn_wide (n := 3)).1 ?_
 by_cases h1 : need < 1
 . rw [zfu (by omega)]
   refine callsIn_of_wp_marks Tryz.func39 rfl trivial ?_ rfl
   refine wpIn_wide.2 ?_
   simp only [Tryz.ntmps39, List.size_toArray, List.length_cons, List.length_nil, Nat.reduceAdd, Nat.reduceSub, Array.replicate_succ, Array.replicate_zero, List.push_toArray, List.append_toArray, List.nil_append, List.cons_append]
   go_wp2
   exact ⟨_, results_tmp2 rfl _ _ _, _, rfl, zdh _, Ext.refl _⟩
 . by_cases h2 : (ls.length : Int) < need
   . rw [zfu (by omega)]
     refine callsIn_of_wp_marks Tryz.func39 rfl trivial ?_ rfl
     refine wpIn_wide.2 ?_
     simp only [Tryz.ntmps39, List.size_toArray, List.length_cons, List.length_nil, Nat.reduceAdd, Nat.reduceSub, Array.replicate_succ, Array.replicate_zero, List.push_toArray, List.append_toArray, List.nil_append, List.cons_append]
     go_wp2
     exact ⟨_, results_tmp2 rfl _ _ _, _, rfl, zdh _, Ext.refl _⟩
   . obtain ⟨nd, rfl⟩ : ∃ nd : Nat, need = (nd : Int) := ⟨need.toNat, by omega⟩
     refine callsIn_of_wp_marks Tryz.func39 rfl trivial ?_ rfl
     refine wpIn_wide.2 ?_
     simp only [Tryz.ntmps39, List.size_toArray, List.length_cons, List.length_nil, Nat.reduceAdd, Nat.reduceSub, Array.replicate_succ, Array.replicate_zero, List.push_toArray, List.append_toArray, List.nil_append, List.cons_append]
     go_wp2_with fail
     go_loop [7, 22] (fun _ i => ∃ k : Nat, k <= ls.length /\ i = .int .i64 k /\ Hid ((ls.take k).all (fun r => Vec.kind r (zb5 ls)) = true)) (fun _ i => ls.length - (intOf i).toNat)
     case atStart => exact ⟨0, by omega, rfl, by simp [Hid]⟩
     case round =>
      obtain ⟨k, hk, rfl, hr⟩ := hrel
      by_cases hlt : k < ls.length
      . obtain ⟨a2, cap2, e2, _, _, hrow⟩ := HL.out.open
        obtain ⟨b, off, x, rfl, hcx, hix⟩ := hrow k hlt
        obtain ⟨b', off', x0, e6, hcx0, hix0⟩ := hrow 0 (by omega)
        injection e2 with e3 e4 e5
        subst e3
        injection e6 with e6
        injection e6 with e7 e8
        subst e7 e8
        rw [Nat.add_zero] at hcx0
        have hk0 := zk8 (ls := ls) (by omega)
        obtain ⟨ax, nx, cx, rfl⟩ := hix.isSlice
        obtain ⟨ax0, nx0, cx0, rfl⟩ := hix0.isSlice
        have hcall := zck _ _ _ _ _ hix hix0
        rw [<- hk0] at hcall
        have HC := Hi hcall
        clear hcall hrow e4 e5 hk0 hix hix0
        cases hb : Vec.kind ls[k] (zb5 ls) with
        | true =>
         have HB := Hi hb
         clear hb
         go_wp2_with (go_at_call 72; refine HC.out.mono ?_; rintro e w' ⟨rfl, rfl⟩; rw [HB.out])
         go_round
         case rel => exact ⟨k + 1, by omega, by go_num, by unfold Hid; rw [zam ls k hlt, List.all_append, hr.out]; simp [HB.out]⟩
         case measure => simp [intOf]; omega
        | false =>
         have HB := Hi hb
         have HQ := Hi (zkm (need := (nd : Int)) k hlt hb)
         clear hb
         go_wp2_with (go_at_call 72; refine HC.out.mono ?_; rintro e w' ⟨rfl, rfl⟩; rw [HB.out])
         exact ⟨_, results_tmp2 rfl _ _ _, _, by rw [HQ.out]; rfl, by rw [HQ.out]; exact zdh _, Ext.refl _⟩
      . obtain rfl : k = ls.length := by omega
        have hok := zlx (need := (nd : Int)) ⟨by omega, by omega⟩ hr.out
        have hne : 0 < ls.length := by omega
        have hk0 := zk8 hne
        obtain ⟨a2, cap2, e2, _, _, hrow⟩ := HL.out.open
        obtain ⟨b', off', x0, rfl, hcx0, hix0⟩ := hrow 0 hne
        injection e2 with e3 e4 e5
        subst e3
        rw [Nat.add_zero] at hcx0
        obtain ⟨ax0, nx0, cx0, rfl⟩ := hix0.isSlice
        have hnx := hix0.len.1
        rw [<- hk0] at hnx
        have hkind0 := (List.all_eq_true.1 hr.out) ls[0] (by rw [List.take_length]; exact List.getElem_mem _)
        rw [<- hk0] at hkind0
        have HR := Hi (Vec.right_ok (Vec.kind_ok hkind0).1)
        have hz : zeros ((nx0 : Nat) : Int) = List.replicate nx0 0 := by unfold zeros; rw [if_pos (by have := HR.out; omega)]; simp
        have HZ := Hi hz
        have HN := Hi hnx
        have hn1 : 1 <= nx0 := by have := HR.out; omega
        have hn8 : nx0 <= 8 := by have := HR.out; omega
        have HK := Hi hr.out
        have HOK := Hi hok
        have hzero := Hi (zli (nx0 : Int) w)
        clear hk0 hrow e4 e5 hnx hkind0 hz hr hok hix0
        go_wp2_with fail
        refine hzero.out.mono ?_
        rintro e w1 ⟨v1, rfl, ho1, hb1⟩
        rw [HZ.out] at ho1
        unfold OwnI at ho1
        rw [List.length_replicate] at ho1
        obtain ⟨g, cap1, rfl⟩ := Joins.ownsRow_form ho1 (by omega)
        have hglt := (ho1.lt g rfl).2
        have hge := (ho1.lt g rfl).1
        have hm1 : 8 * ls.length <= 281474976710656 := by omega
        have hm2 : ls.length <= maxLen := by unfold maxLen; omega
        go_wp2_with (refine zh5 rfl _ (.tmp 39) tI rfl w1.heap.size ls.length rfl rfl rfl hm1 hm2 (Nat.le_refl _) ?_; intro w2 hown2 hg2)
        have hmax2 := hm2
        refine wp_loop (fun a' wr => ∃ (k m : Nat) (Ds : List Nat) (u10 u44 u45 u46 u47 u48 u49 u50 u56 u57 u58 u59 u60 u61 u62 u63 u64 u65 u66 u67 u68 : Value), k <= nx0 /\ m <= ls.length /\ Ds.Nodup /\ QInv w (quor ls nd) g w1.heap.size w2.heap.size nx0 cap1 ls.length k Ds m wr /\ a' = { tmps := #[Value.slice (some ⟨b', off', none⟩) ls.length cap, Value.int IntKind.i64 (nd : Int), undef, undef, u4, u5, undef, u7, Value.slice (some ⟨g, 0, none⟩) nx0 cap1, Value.pointer (some ⟨w2.heap.size, 0, none⟩), u10, undef, Value.int IntKind.i64 (nd : Int), Value.bool false, Value.bool false, Value.int IntKind.i64 (nd : Int), Value.slice (some ⟨b', off', none⟩) ls.length cap, Value.int IntKind.i64 ↑ls.length, Value.bool false, Value.bool false, Value.slice (some ⟨b', off', none⟩) ls.length cap, Value.int IntKind.i64 ↑ls.length, Value.int IntKind.i64 ↑ls.length, Value.bool false, u24, u25, u26, u27, u28, u29, u30, u31, u32, Value.slice (some ⟨b', off', none⟩) ls.length cap, Value.pointer (some ⟨b', off', none⟩), Value.slice ax0 nx0 cx0, Value.int IntKind.i64 ↑nx0, Value.slice (some ⟨g, 0, none⟩) nx0 cap1, Value.slice (some ⟨b', off', none⟩) ls.length cap, Value.int IntKind.i64 ↑ls.length, Value.slice (some ⟨w1.heap.size, 0, none⟩) 0 ls.length, Value.slice (some ⟨g, 0, none⟩) nx0 cap1, Value.int IntKind.i64 ↑nx0, Value.int IntKind.i64 ↑k, u44, u45, u46, u47, u48, u49, u50, undef, undef, undef, undef, undef, u56, u57, u58, u59, u60, u61, u62, u63, u64, u65, u66, u67, u68, undef], defers := marks Ds }) (fun a' _ => nx0 - (intOf (a'.tmps.getD 43 undef)).toNat) ?_ ?_
        . refine ⟨0, 0, [], _, _, _, _, _, _, _, _, _, _, _, _, _, _, _, _, _, _, _, _, _, by omega, by omega, by simp, ?_, rfl⟩
          have hrl : (quor ls nd).length = nx0 := by rw [quor_length]; exact HN.out.symm
          have e1 : i64s (filled (quor ls nd) 0) = i64s (List.replicate nx0 0) := by rw [zj4, hrl]
          have hB : Boxed (w2.alloc (.cells #[.slice (some ⟨w1.heap.size, 0, none⟩) 0 ls.length] 22)) w2.heap.size 22 (.slice (some ⟨w1.heap.size, 0, none⟩) 0 ls.length) := Boxed.new w2 _ _
          exact ⟨((hb1.grown hg2 hb1.size (fun k hk => by cases hk)).alloc (Nat.le_trans hb1.size hg2.size) _), by rw [e1]; exact (ho1.kept hg2 (.inr (by simp [Value.ownBlock]))).alloc _, hB, ⟨[], hown2.alloc _⟩, fun D hD => by cases hD⟩
        . rintro a' wr ⟨k, m, Ds, u10, u44, u45, u46, u47, u48, u49, u50, u56, u57, u58, u59, u60, u61, u62, u63, u64, u65, u66, u67, u68, hk, hmL, hnd, hI, rfl⟩
          by_cases hlt : k < nx0
          . have hbc := hI.box.cell
            have hbf := hI.box.frozen
            have hBlt := hI.box.lt
            have hwB : w.heap.size <= w2.heap.size := Nat.le_trans hb1.size hg2.size
            have hhB : w1.heap.size < w2.heap.size := (hown2.lt _ rfl).2
            have hgx := grownBy_setCell' wr w2.heap.size (.slice (some ⟨w1.heap.size, 0, none⟩) 0 ls.length)
            have hxo := hI.out.kept hgx (.inr (by simp [Value.ownBlock]; omega))
            have hxb := hI.box.set (.slice (some ⟨w1.heap.size, 0, none⟩) 0 ls.length)
            have hxc := (znv hI.col.choose_spec).kept hgx (.inr (by simp [Value.ownBlock]; omega))
            have hxe := hI.ext.setCell (p := ⟨w2.heap.size, 0, none⟩) hwB (.slice (some ⟨w1.heap.size, 0, none⟩) 0 ls.length)
            have hxm : ∀ D ∈ Ds, w.heap.size <= D /\ D < wr.heap.size /\ (wr.setCell ⟨w2.heap.size, 0, none⟩ (.slice (some ⟨w1.heap.size, 0, none⟩) 0 ls.length)).heap[D]? = some (.deferred (some [])) := by
             intro D hD
             obtain ⟨q1, q2, q3⟩ := hI.mks D hD
             refine ⟨q1, q2, (hgx.block D q2 ?_).trans q3⟩
             intro e
             injection e with e
             rw [e, show wr.heap[w2.heap.size]? = _ from hI.box] at q3
             cases q3
            have hxs : (wr.setCell ⟨w2.heap.size, 0, none⟩ (.slice (some ⟨w1.heap.size, 0, none⟩) 0 ls.length)).heap.size = wr.heap.size := by simp [World.setCell]
            obtain ⟨wx, hwx⟩ : ∃ wx, wr.setCell ⟨w2.heap.size, 0, none⟩ (.slice (some ⟨w1.heap.size, 0, none⟩) 0 ls.length) = wx := ⟨_, rfl⟩
            rw [hwx] at hgx hxo hxb hxc hxe hxm hxs
            have HX := Hi hwx
            clear hwx
            go_wp2_with fail
            rw [HX.out]
            refine (zj7 _ _ wx ⟨_, _, _, rfl⟩).mono ?_
            rintro e W3 ⟨Bl, Bs, rfl, hE3, hcl, hcs, hBl, hBs, hBs2⟩
            have hg3 := hE3.grown
            have h3o := hxo.kept hg3 (.inr (by simp [Value.ownBlock]))
            have h3b := hxb.kept hg3 (by simp)
            have h3c := hxc.kept hg3 (.inr (by simp [Value.ownBlock]))
            have h3e := hxe.trans (Below.mono hE3 hxe.size)
            have h3m : ∀ D ∈ Ds, w.heap.size <= D /\ D < W3.heap.size /\ W3.heap[D]? = some (.deferred (some [])) := by
             intro D hD
             obtain ⟨q1, q2, q3⟩ := hxm D hD
             exact ⟨q1, Nat.lt_of_lt_of_le (by rw [hxs]; exact q2) hE3.size, (hE3.block D (by rw [hxs]; exact q2)).trans q3⟩
            clear hxo hxb hxc hxm hgx hbc hbf
            go_wp2_with fail
            have hall : ∀ r ∈ ls, Vec.kind r (zb5 ls) = true := fun r hr => (List.all_eq_true.1 HK.out) r (by rw [List.take_length]; exact hr)
            have hlong : ∀ r ∈ ls, k < r.length := fun r hr => by rw [(Vec.kind_ok (hall r hr)).2.2, <- HN.out]; exact hlt
            have hpos : ∀ x ∈ zbj ls k, 0 <= x := by
             intro x hx
             obtain ⟨r, hr, rfl⟩ := List.mem_map.1 hx
             have h5 := hlong r hr
             rw [List.getD_eq_getElem?_getD, List.getElem?_eq_getElem h5]
             exact ((Vec.right_ok (Vec.kind_ok (hall r hr)).1).1 _ (List.getElem_mem h5)).1
            have HALL := Hi hall
            have HLONG := Hi hlong
            have HPOS := Hi hpos
            clear hall hlong hpos
            have hBs3 : w2.heap.size < Bs := by omega
            obtain ⟨i0, hi0, hz0, hs0, hby0⟩ := info_parts tI.info
            have hwW3 : w.heap.size <= W3.heap.size := h3e.size
            refine (wpIn_wide (n := 3)).1 ?_
            refine wpIn_rangeFunc_ownG (n := 3) rfl (by omega) (gf := 105) (lb := #[.pointer (some ⟨Bl, 0, none⟩), .pointer (some ⟨Bs, 0, none⟩)]) rfl trivial (enters_of Tryz.func105 (by kernel_rfl) rfl)
             (zha Fence.wide (3 - 1) trivial rfl (by omega) Bl Bs _ ls k w W3 HL.out HLONG.out h3e hcl hcs hBl hBs) (fun h k => Kept.trans h k) (ztd hwW3) (Below.refl _ _) (fun _ => rfl)
             (fun pre W => Boxed W w2.heap.size 22 (.slice (some ⟨w1.heap.size, 0, none⟩) pre.length ls.length) /\ (W.ownsRow w1.heap.size 3 1 (.slice (some ⟨w1.heap.size, 0, none⟩) pre.length ls.length) pre.length (i64s pre) ∧
               (W.ownsRow w.heap.size 3 1 (.slice (some ⟨g, 0, none⟩) nx0 cap1) nx0 (i64s (filled (quor ls nd) k)) /\ (Below w.heap.size w W /\ ∀ D ∈ Ds, w.heap.size <= D /\ D < W.heap.size /\ W.heap[D]? = some (.deferred (some []))))))
             (fun _ _ _ => False)
             (OwnFrom.and (Go.Own.from zsf _) (OwnFrom.and (Go.Own.from zq8 _) (OwnFrom.and (Go.Own.from zmy _) (OwnFrom.and (ownFrom_below (Nat.le_refl _) hwW3) (zof (fun D hD => (h3m D hD).2.1))))))
             (fun _ _ _ _ _ hs _ _ => hs)
             ⟨h3b, h3c, h3o, h3e, h3m⟩
             (fun x => { tmps := #[Value.slice (some ⟨b', off', none⟩) ls.length cap, Value.int IntKind.i64 (nd : Int), undef, undef, u4, u5, undef, u7, Value.slice (some ⟨g, 0, none⟩) nx0 cap1, Value.pointer (some ⟨w2.heap.size, 0, none⟩), Value.int IntKind.i64 ↑k, Value.int IntKind.i64 x, Value.int IntKind.i64 (nd : Int), Value.bool false, Value.bool false, Value.int IntKind.i64 (nd : Int), Value.slice (some ⟨b', off', none⟩) ls.length cap, Value.int IntKind.i64 ↑ls.length, Value.bool false, Value.bool false, Value.slice (some ⟨b', off', none⟩) ls.length cap, Value.int IntKind.i64 ↑ls.length, Value.int IntKind.i64 ↑ls.length, Value.bool false, u24, u25, u26, u27, u28, u29, u30, u31, u32, Value.slice (some ⟨b', off', none⟩) ls.length cap, Value.pointer (some ⟨b', off', none⟩), Value.slice ax0 nx0 cx0, Value.int IntKind.i64 ↑nx0, Value.slice (some ⟨g, 0, none⟩) nx0 cap1, Value.slice (some ⟨b', off', none⟩) ls.length cap, Value.int IntKind.i64 ↑ls.length, Value.slice (some ⟨w1.heap.size, 0, none⟩) 0 ls.length, Value.slice (some ⟨g, 0, none⟩) nx0 cap1, Value.int IntKind.i64 ↑nx0, Value.int IntKind.i64 ↑k, Value.bool true, Value.int IntKind.i64 ↑k, Value.slice (some ⟨w1.heap.size, 0, none⟩) m ls.length, Value.slice (some ⟨w1.heap.size, 0, none⟩) 0 ls.length, Value.slice (some ⟨b', off', none⟩) ls.length cap, Value.int IntKind.i64 ↑k, Value.func (Fn.func 105) #[] #[Value.pointer (some ⟨Bl, 0, none⟩), Value.pointer (some ⟨Bs, 0, none⟩)], Value.int IntKind.i64 x, undef, undef, undef, undef, u56, u57, u58, u59, u60, u61, u62, u63, u64, u65, u66, u67, u68, undef], defers := [] }) ?assign ?body ?done ?stop
            case assign =>
             intro l x W K hK
             gi_wp2
             exact hK
            case stop =>
             rintro D c pre W _ _ h _
             exact h.elim
            case body =>
             rintro l pre x W ⟨hb, hc, ho, he, hm⟩ hlen
             have hbc := hb.cell
             have hbf := hb.frozen
             have hca := hc.alloc (.cells #[.int .i64 x] 3)
             have hba := hb.alloc (.cells #[.int .i64 x] 3)
             have hoa := ho.alloc (.cells #[.int .i64 x] 3)
             have hcells := zei hca
             have hsz := he.size
             have hpl : pre.length + 1 <= ls.length := hlen
             gi_wp2_with (gi_at_builtin; refine wpListIn_append_fits _ rfl _ _ 22 rfl w1.heap.size 3 i0 1 Tryz.underlying22 hi0 hs0 w1.heap.size pre.length ls.length (i64s pre) rfl hca ⟨W.heap.size, 0, none⟩ 1 1 [.int .i64 x] rfl rfl (cell_one_new _ _ _) (by simp [Value.oneCell']) hpl ?_; intro w4 hown4 hg4; have hb4 := hba.kept hg4 (by simp; omega); have hc4 := hb4.cell; have hf4 := hb4.frozen)
             have g5 := grownBy_setCell' w4 w2.heap.size (.slice (some ⟨w1.heap.size, 0, none⟩) (pre.length + 1) ls.length)
             have hlen1 : (pre ++ [x]).length = pre.length + 1 := by simp
             have hout := (hoa.kept hg4 (.inr (by simp [Value.ownBlock]; omega))).kept g5 (.inr (by simp [Value.ownBlock]; omega))
             have hcol := hown4.kept g5 (.inr (by simp [Value.ownBlock]; omega))
             have hbel : Below w.heap.size W (w4.setCell ⟨w2.heap.size, 0, none⟩ (.slice (some ⟨w1.heap.size, 0, none⟩) (pre.length + 1) ls.length)) :=
              (((Below.refl w.heap.size W).alloc hsz _).grown hg4 (by simp; omega) (fun j ej => by injection ej with ej; omega)).setCell (p := ⟨w2.heap.size, 0, none⟩) hwB _
             have hothers : KeepsOthers W (w4.setCell ⟨w2.heap.size, 0, none⟩ (.slice (some ⟨w1.heap.size, 0, none⟩) (pre.length + 1) ls.length)) := by
              refine ((KeepsOthers.alloc W _).trans (KeepsOthers.of_grownBy hg4 fun j o ej hj => ?_)).trans (KeepsOthers.setCell _ _ _)
              injection ej with ej
              subst ej
              obtain ⟨cur, hcur, _⟩ := hcells
              rw [hcur] at hj; cases hj; rfl
             refine ⟨hothers.from _, ⟨hbel, fun v hv => ?_⟩, ?_, ?_, hout, he.trans hbel, fun D hD => ?_⟩
             . exact g5.cell (hg4.cell ((World.grownBy_alloc W _ none).cell hv (by simp)) (by simp; omega)) (by simp; omega)
             . rw [hlen1]; exact hb4.set _
             . rw [hlen1, i64s_append]; exact hcol
             . obtain ⟨q1, q2, q3⟩ := hm D hD
               exact ⟨q1, Nat.lt_of_lt_of_le q2 hothers.size, hothers.same D _ q3 rfl⟩
            case done =>
             rintro D xs W hD rfl ⟨hb, hc, ho, he, hm⟩ hK
             rw [column_length] at hb hc
             have hbc := hb.cell
             obtain ⟨cur, hcur, hcn, hcm, hcs2, hct⟩ := zei hc
             have hsort := AnyM.slices_Sort_int sortIntsL w1.heap.size 0 ls.length (zbj ls k) W (holds_of_blockI hcur (by rw [column_length]; exact hct)) (Array.getElem?_eq_some_iff.1 hcur).1 (by simp; omega)
             rw [column_length] at hsort
             have HS := Hi hsort
             clear hsort
             go_wp2_with fail
             refine HS.out.mono ?_
             rintro e w6 ⟨rfl, nn, os, hw6⟩
             have g6 : W.grownBy w6 (some w1.heap.size) := by rw [hw6]; exact grownBy_sortedI _
             have hperm : ((zbj ls k).mergeSort fun x y => decide (x <= y)).Perm (zbj ls k) := List.mergeSort_perm _ _
             have hsl : ((zbj ls k).mergeSort fun x y => decide (x <= y)).length = ls.length := by rw [hperm.length_eq]; simp
             have c6 : w6.ownsRow w1.heap.size 3 1 (.slice (some ⟨w1.heap.size, 0, none⟩) ls.length ls.length) ls.length (i64s ((zbj ls k).mergeSort fun x y => decide (x <= y))) := by
              have := ownsRow_sortedI (base := w1.heap.size) (n := nn) (os := os) (ss := zbj ls k) (ts := (zbj ls k).mergeSort fun x y => decide (x <= y)) (cap := ls.length) (by simp) (Nat.le_refl _) hcur (by simp) hm2 (by omega)
              rw [<- hw6, column_length] at this
              exact this
             clear hw6
             have b6 := hb.kept g6 (by simp; omega)
             have o6 := ho.kept g6 (.inr (by simp [Value.ownBlock]; omega))
             have hlt6 : ls.length - nd < ls.length := by omega
             have hq := Vec.sort_quorum (zbj ls k) HPOS.out nd (by omega) (by simp; omega) (by rw [hsl]; simp; omega)
             have hcell6 : w6.cell? ⟨w1.heap.size, ls.length - nd, none⟩ = some (.int .i64 (Vec.quorumNum (zbj ls k) nd)) := by
              rw [c6.cellAt _ (by omega), <- hq]
              simp [i64s, hlt6, hsl]
             have hbc6 := b6.cell
             have hql : (quor ls nd).length = nx0 := by rw [quor_length]; exact HN.out.symm
             have hfl : (filled (quor ls nd) k).length = nx0 := by rw [zmd _ _ (by omega), hql]
             obtain ⟨y6, hoc6⟩ : ∃ y, w6.cell? ⟨g, k, none⟩ = some (.int .i64 y) := by
              refine ⟨(filled (quor ls nd) k)[k]'(by omega), ?_⟩
              rw [o6.cellAt k (by omega)]
              simp [i64s]
             have hof6 := o6.frozenAt k
             have hsub : IntKind.i64.wrap ((ls.length : Int) - (nd : Int)) = ((ls.length - nd : Nat) : Int) := by
              rw [IntWalk.i64_in _ (by omega)]; omega
             have HC6 := Hi c6
             have HO6 := Hi o6
             have HQL := Hi hql
             have hmk : ∀ D' ∈ Ds, D' ≠ D := fun D' hD' e => by have := (h3m D' hD').2.1; omega
             have hm6 : ∀ D' ∈ D :: Ds, w.heap.size <= D' /\ D' < w6.heap.size /\ w6.heap[D']? = some (.deferred (some [])) := by
              intro D' hD'
              have hq : w.heap.size <= D' /\ D' < W.heap.size /\ W.heap[D']? = some (.deferred (some [])) := by
               rcases List.mem_cons.1 hD' with rfl | h
               . exact ⟨by omega, (Array.getElem?_eq_some_iff.1 hK).1, hK⟩
               . exact hm D' h
              obtain ⟨q1, q2, q3⟩ := hq
              refine ⟨q1, Nat.lt_of_lt_of_le q2 g6.size, (g6.block D' q2 (fun e => ?_)).trans q3⟩
              injection e with e
              rw [e, hcur] at q3
              cases q3
             have HM6 := Hi hm6
             clear c6 o6 hq hperm hsl hql hfl hm6 hmk
             go_wp2_with fail
             have hkq : k < (quor ls nd).length := by rw [HQL.out]; exact hlt
             have hst := HO6.out.stored k (.int .i64 (Vec.quorumNum (zbj ls k) nd))
             rw [<- zid, <- zlj ls nd k hkq, <- zj1 _ k hkq] at hst
             rw [zlj ls nd k hkq] at hst
             refine ⟨⟨k + 1, ls.length, D :: Ds, _, _, _, _, _, _, _, _, _, _, _, _, _, _, _, _, _, _, _, _, _, by omega, Nat.le_refl _, ?_, ?_, rfl⟩, ?_⟩
             . rw [List.nodup_cons]
               exact ⟨fun h => by have := (h3m D h).2.1; omega, hnd⟩
             . refine ⟨(he.grown g6 he.size (fun j ej => by injection ej with ej; omega)).setCell (p := ⟨g, k, none⟩) hge _, hst.1, b6.kept hst.2 (by simp; omega), ⟨_, HC6.out.kept hst.2 (.inr (by simp [Value.ownBlock]; omega))⟩, fun D' hD' => ?_⟩
               obtain ⟨q1, q2, q3⟩ := HM6.out D' hD'
               refine ⟨q1, Nat.lt_of_lt_of_le q2 hst.2.size, (hst.2.block D' q2 (fun e => ?_)).trans q3⟩
               injection e with e
               obtain ⟨cur2, hcur2, _⟩ := zei HO6.out
               rw [e, hcur2] at q3
               cases q3
             . simp [intOf]; omega
          . obtain rfl : k = nx0 := by omega
            go_wp2
            have hrl : (quor ls nd).length = k := by rw [quor_length]; exact HN.out.symm
            have hfin := hI.out
            rw [show filled (quor ls nd) k = quor ls nd from by rw [<- hrl]; exact znh _] at hfin
            refine zi2 (n₀ := w.heap.size) (fun W => Below w.heap.size w W /\ W.ownsRow w.heap.size 3 1 (.slice (some ⟨g, 0, none⟩) k cap1) k (i64s (quor ls nd))) ?_ ?_ Ds wr ⟨hI.ext, hfin⟩ hnd (fun D hD => ⟨(hI.mks D hD).1, (hI.mks D hD).2.2⟩)
            . rintro W D ⟨h3, h4⟩ h5 h6
              exact ⟨h3.trans (belowK_b (w := w) (Nat.le_refl _) W D _ _ h5 h6 rfl rfl), ownsRow_putObj h4 _ h6 rfl⟩
            . rintro W ⟨h3, h4⟩
              exact ⟨_, results_tmp2 rfl _ _ _, _, by rw [HOK.out]; rfl, by rw [HOK.out]; exact Sl.ofOwn (by simpa [hrl] using h4), h3⟩
end Go.Proofs.YtnoeconcpgdjlaaGreat
namespace Go.Proofs.YtnoeconcpgdjlaaGreat
open Go.ChangeShapes Go.WideShapes Go.ChangeAt Go.RowKit
section
variable {H : Type} {enc : TypeId × Value -> H} {P : Program} {w : World} {base : Nat} {spare : Nat -> Bool} {held : Bool}
end
end Go.Proofs.YtnoeconcpgdjlaaGreat
