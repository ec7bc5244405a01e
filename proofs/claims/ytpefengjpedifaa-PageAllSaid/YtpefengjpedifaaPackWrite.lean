/-
  Layer 2, the program: what writes.
-/
import Derived.Test.YtpefengjpedifaaProg
import Derived.Test.YtpefengjpedifaaPackMath
import Derived.Laws.BitsAllLaws
import Derived.Test.YtpefengjpedifaaRead
import Derived.LoopTactic
import Derived.Lib.AppendStr
namespace Go.Proofs.Ytpefengjpedifaa
open Go.RowKit

theorem tB8 : ElemOf Try.prog 22 5 (.int .u8 0) 1 := ⟨Try.underlying22, by kernel_rfl, rfl⟩

/-- A slice of bytes of the call's own, or none. -/
def Own (w : World) (base : Nat) (v : Value) (l : List UInt8) : Prop := w.ownsRow base 5 1 v l.length (u8s l)
theorem Own.bytes {w : World} {base : Nat} {v : Value} {l : List UInt8} (h : Own w base v l) : Bytes w v l := Sl.ofOwn h
theorem Own.isSlice {w : World} {base : Nat} {v : Value} {l : List UInt8} (h : Own w base v l) : ∃ a n c, v = .slice a n c := h.bytes.isSlice
theorem Own.nil (w : World) (base : Nat) : Own w base (.slice none 0 0) [] := World.ownsRow_nil _ _ _ _

/-- A call that hands back an own row. -/
def GivesOwn (base : Nat) (w : World) (l : List UInt8) (e : Ending) (w' : World) : Prop := ∃ u, e = .returned u ∧ Own w' base u l ∧ Below base w w'

set_option maxRecDepth 100000 in
set_option maxHeartbeats 1000000 in
theorem clone_any (v : Value) (l : List UInt8) (w : World) (hv : Bytes w v l) (hl : l.length ≤ 140737488355328) :
    Calls Try.prog 54 #[v] w (GivesOwn w.heap.size w l) := by
  have hv0 := hv
  obtain ⟨a, cap, rfl, hcap, hmax, hn, hc⟩ := hv.open
  have e1 := fun (w : World) (a : Option Addr) (n c : Nat) => Lib.run_eql_slice_nil (P := Try.prog) w 22 5 a n c 0 0 Try.underlying22
  cases a with
  | none =>
    obtain rfl := hn rfl
    have : l = [] := List.eq_nil_of_length_eq_zero (by omega)
    subst this
    clear hc
    go_enter Try.func54, Try.ntmps54
    go_wp2
    go_ret
    exact ⟨_, rfl, Own.nil _ _, Below.refl _ _⟩
  | some ad =>
    have hu := u8s_one l
    clear hc
    have hown0 : (w.alloc (.cells #[] 5)).ownsRow w.heap.size 5 1 (.slice (some ⟨w.heap.size, 0, none⟩) 0 0) 0 [] := World.ownsRow_made w #[] 0 (Nat.le_refl _) (by simp [maxLen]) (by simp)
    have hsl : Sl (w.alloc (.cells #[] 5)) (.slice (some ad) l.length cap) (u8s l) := hv0.below (Ext.alloc _ _)
    have hc1 : 0 + (u8s l).length ≤ maxLen := by simp; unfold maxLen; omega
    have hc2 : (0 + (u8s l).length) * 1 ≤ 140737488355328 := by simp; omega
    go_enter Try.func54, Try.ntmps54
    go_wp2_with (first | (at_builtin; refine wpList_app rfl (.tmp 5) (.tmp 6) tB8 rfl rfl rfl hown0 hsl hu hc1 hc2 (by simp) ?_; intro v2 w2 hown2 hg2))
    go_ret
    exact ⟨_, rfl, by simpa [Own] using hown2, ((Below.refl _ w).alloc (Nat.le_refl _) _).grown hg2 (by simp) (fun k hk => (hown0.lt k hk).1)⟩

theorem Own.one {w : World} {n : Nat} : Sl (w.alloc (.cells #[.int .u8 ((n : Int) % 256)] 5)) (.slice (some ⟨w.heap.size, 0, none⟩) 1 1) (u8s [UInt8.ofNat n]) := by
  have := Sl.made w (u8s [UInt8.ofNat n]) 5 1 (by simp) (by simp [maxLen]) (fr := (0, 0))
  simp only [u8s, List.map_cons, List.map_nil, u8_ofNat] at this ⊢
  exact this
theorem Own.one_lt {w : World} {n : Nat} (h : n < 256) : Sl (w.alloc (.cells #[.int .u8 (n : Int)] 5)) (.slice (some ⟨w.heap.size, 0, none⟩) 1 1) (u8s [UInt8.ofNat n]) := by
  have := Own.one (w := w) (n := n)
  rwa [show ((n : Int) % 256) = (n : Int) from by omega] at this
theorem or_more (n : Nat) : bits .or .u8 ((n : Int) % 256) 128 = (((128 + n % 128 : Nat) : Int)) % 256 := by
  have e : ((n : Int) % 256) = ((n % 256 : Nat) : Int) := by omega
  have h := u8_or_nat (n % 256) 128 (Nat.mod_lt _ (by decide)) (by decide)
  rw [e, show (128 : Int) = ((128 : Nat) : Int) from rfl, h]
  have h2 : n % 256 ||| 128 = 128 + n % 128 := by
    have key : ∀ m : Nat, m < 256 → m ||| 128 = 128 + m % 128 := by decide +kernel
    rw [key _ (Nat.mod_lt _ (by decide))]
    omega
  rw [h2]
  omega

set_option maxRecDepth 100000 in
set_option maxHeartbeats 2000000 in
theorem addNum_any (base : Nat) (v : Value) (l : List UInt8) (n : Nat) (w : World) (hv : Own w base v l) (hn : n ≤ 4611686018427387904) (hl : l.length ≤ 70000000000000) (hb : base ≤ w.heap.size) :
    Calls Try.prog 71 #[v, .int .i64 (n : Int)] w (GivesOwn base w (l ++ Pack.num n)) := by
  have h9 := Pack.num_nine hn
  go_enter Try.func71, Try.ntmps71
  go_wp2
  go_loopw [0, 1] (fun u x wr => ∃ (m : Nat) (pre : List UInt8), m ≤ n ∧ x = .int .i64 m ∧ Hid (pre ++ Pack.num m = Pack.num n) ∧ Own wr base u (l ++ pre) ∧ Below base w wr) (fun _ x _ => (intOf x).toNat)
  case atStart => exact ⟨n, [], by omega, rfl, rfl, by simpa using hv, Below.refl _ _⟩
  case round =>
    obtain ⟨m, pre, hm, rfl, hp, ho, hbr⟩ := hrel
    have hsz := hbr.size
    have hpl : pre.length ≤ 9 := by
      have := congrArg List.length hp.out
      simp at this
      omega
    have hor := or_more m
    by_cases h128 : m < 128
    · have hbig : ¬ (128 : Int) ≤ (m : Int) := by omega
      have hone := u8s_one [UInt8.ofNat m]
      have e : Pack.num m = [UInt8.ofNat m] := Pack.num_low h128
      clear hor
      go_wp2_with (first | (at_builtin; refine wpList_app rfl (.tmp 15) (.tmp 18) tB8 rfl (base := base) (n := (l ++ pre).length) (xs := u8s (l ++ pre)) (ys := u8s [UInt8.ofNat m]) rfl rfl (ho.alloc _) ?c2 hone ?c3 ?c4 ?c5 ?_; rotate_right; intro v2 w2 hown2 hg2))
      case c2 => exact Own.one_lt (by omega)
      case c3 => (try simp only [u8s_length, List.length_append, List.length_cons, List.length_nil]); (try unfold maxLen); omega
      case c4 => (try simp only [u8s_length, List.length_append, List.length_cons, List.length_nil]); (try unfold maxLen); omega
      case c5 => (try simp only [World.size_alloc]); omega
      go_ret
      refine ⟨_, rfl, ?_, (hbr.alloc (by omega) _).grown hg2 (by simp; omega) (by intro k hk; have := ho.lt k hk; omega)⟩
      rw [← hp.out, e]
      simpa [Own, Nat.add_assoc] using hown2
    · have hbig : (128 : Int) ≤ (m : Int) := by omega
      have hone := u8s_one [UInt8.ofNat (128 + m % 128)]
      have e : Pack.num m = UInt8.ofNat (128 + m % 128) :: Pack.num (m / 128) := Pack.num_high h128
      go_wp2_with (first | (at_builtin; refine wpList_app rfl (.tmp 9) (.tmp 13) tB8 rfl (base := base) (n := (l ++ pre).length) (xs := u8s (l ++ pre)) (ys := u8s [UInt8.ofNat (128 + m % 128)]) rfl rfl (ho.alloc _) ?c2 hone ?c3 ?c4 ?c5 ?_; rotate_right; intro v2 w2 hown2 hg2))
      case c2 => exact Own.one
      case c3 => (try simp only [u8s_length, List.length_append, List.length_cons, List.length_nil]); (try unfold maxLen); omega
      case c4 => (try simp only [u8s_length, List.length_append, List.length_cons, List.length_nil]); (try unfold maxLen); omega
      case c5 => (try simp only [World.size_alloc]); omega
      go_roundw
      case rel =>
        refine ⟨m / 128, pre ++ [UInt8.ofNat (128 + m % 128)], by omega, by go_num, ?_, ?_, (hbr.alloc (by omega) _).grown hg2 (by simp; omega) (by intro k hk; have := ho.lt k hk; omega)⟩
        · unfold Hid; rw [← hp.out, e]; simp
        · simpa [Own, Nat.add_assoc] using hown2
      case measure => simp [intOf]; omega

/-- append(s, t...) for a text t. -/
theorem wpList_app_str {P : Program} {w : World} {ops : Array Oper} {rest : List Oper} {o : Oper} {a : Act} {Q : Exit → Act → World → Prop} (hgd : o.guard = none) (s x : Operand) {t e u : TypeId} (E : ElemOf P t e (.int .u8 0) 1) (hu : P.underlying u = some .string)
    (ho : o.op = .call { callee := .builtin .append, args := #[s, x], argTypes := #[t, u] }) {base : Nat} {v : Value} {n : Nat} {l m : List UInt8} (hs : a.eval s = v) (hx : a.eval x = .string ⟨m.toArray⟩)
    (hown : w.ownsRow base e 1 v n (u8s l)) (hsz : n + m.length ≤ 140737488355328) (hb : base ≤ w.heap.size)
    (h : ∀ v' w', w'.ownsRow base e 1 v' (n + m.length) (u8s (l ++ m)) → w.grownBy w' v.ownBlock → wpList P ops Q rest (a.put o.dst v') w') : wpList P ops Q (o :: rest) a w := by
  obtain ⟨i, hi, hz, h2, h3⟩ := info_parts E.info
  have hsize : (ByteArray.mk m.toArray).size = m.length := by simp [ByteArray.size]
  have hcells : Lib.strCells ⟨m.toArray⟩ = u8s m := by simp [Lib.strCells, u8s]
  refine Lib.wpList_append_own_string (P := P) w hgd s x t u ho base e i E.slice hu hi hz h2 h3 v n (u8s l) hs hown ⟨m.toArray⟩ hx (by rw [hsize]; unfold maxLen; omega) (by rw [hsize]; exact hsz) hb ?_
  intro v' w' h4 h5 _
  rw [hsize, hcells, ← u8s_append] at h4
  exact h v' w' h4 h5

/-- Is a number one that can be written? -/
def okNum (n : Int) : Bool := decide (0 ≤ n ∧ n ≤ 4611686018427387904)
def i64s (l : List Int) : List Value := l.map fun n => .int .i64 n
@[simp] theorem i64s_length (l : List Int) : (i64s l).length = l.length := by simp [i64s]
/-- A []int that reads as these. -/
def Ints (w : World) (v : Value) (ns : List Int) : Prop := Sl w v (i64s ns)
theorem Ints.below {w w' : World} {v : Value} {ns : List Int} (h : Ints w v ns) (hb : Below w.heap.size w w') : Ints w' v ns := Sl.below h hb
theorem Ints.open {w : World} {v : Value} {ns : List Int} (h : Ints w v ns) : ∃ (a : Option Addr) (cap : Nat), v = .slice a ns.length cap ∧ ns.length ≤ cap ∧ cap ≤ maxLen ∧ (a = none → cap = 0) ∧
    ∀ i (hi : i < ns.length), ∃ b off, a = some ⟨b, off, none⟩ ∧ w.cell? ⟨b, off + i, none⟩ = some (.int .i64 ns[i]) := by
  obtain ⟨a, cap, rfl, h1, h2, h4, h3⟩ := h
  refine ⟨a, cap, by simp, by simpa using h1, h2, h4, fun i hi => ?_⟩
  obtain ⟨b, off, e, hc⟩ := h3 i (by simpa using hi)
  exact ⟨b, off, e, by simpa [i64s] using hc⟩
theorem Ints.one (w : World) (n : Int) : Ints (w.alloc (.cells #[.int .i64 n] 3)) (.slice (some ⟨w.heap.size, 0, none⟩) 1 1) [n] :=
  Sl.made w (i64s [n]) 3 1 (by simp) (by simp [maxLen]) (fr := (0, 0))

set_option maxRecDepth 100000 in
set_option maxHeartbeats 1000000 in
theorem badNum_any (n : Int) (w : World) : Calls Try.prog 70 #[.int .i64 n] w fun e w' => e = .returned (.bool (!okNum n)) ∧ w = w' := by
  by_cases h0 : n < 0
  · have e : okNum n = false := by unfold okNum; simp; omega
    rw [e]
    clear e
    go_enter Try.func70, Try.ntmps70
    go_wp2
    go_ret
    exact ⟨rfl, rfl⟩
  · by_cases h1 : (4611686018427387904 : Int) < n
    · have e : okNum n = false := by unfold okNum; simp; omega
      rw [e]
      clear e
      go_enter Try.func70, Try.ntmps70
      go_wp2
      go_ret
      exact ⟨rfl, rfl⟩
    · have e : okNum n = true := by unfold okNum; simp; omega
      rw [e]
      clear e
      go_enter Try.func70, Try.ntmps70
      go_wp2
      go_ret
      exact ⟨rfl, rfl⟩

set_option maxRecDepth 100000 in
set_option maxHeartbeats 1000000 in
theorem index_any (v : Value) (ns : List Int) (w : World) (hv : Ints w v ns) :
    Calls Try.prog 88 #[v, .func (.func 70) #[] #[]] w fun e w' => (∃ i : Int, e = .returned (.int .i64 i) ∧ (decide (0 ≤ i)) = !(ns.all okNum)) ∧ w = w' := by
  obtain ⟨a, cap, rfl, hcap, hmax, _, hc⟩ := hv.open
  unfold maxLen at hmax
  go_enter Try.func88, Try.ntmps88
  go_wp2
  go_loop [5, 8] (fun _ i => ∃ k : Nat, k ≤ ns.length ∧ i = .int .i64 k ∧ Hid ((ns.take k).all okNum = true)) (fun _ i => ns.length - (intOf i).toNat)
  case atStart => exact ⟨0, by omega, rfl, by simp [Hid]⟩
  case round =>
    obtain ⟨k, hk, rfl, hr⟩ := hrel
    by_cases hlt : k < ns.length
    · obtain ⟨b, off, rfl, hcell⟩ := hc k hlt
      clear hc
      cases hb : okNum ns[k] with
      | true =>
        have HB := Lib.hid hb
        clear hb
        go_wp2_with (go_at_call 70; refine (badNum_any ns[k] _).mono ?_; rintro e w' ⟨rfl, rfl⟩; rw [HB.out])
        go_round
        case rel => exact ⟨k + 1, by omega, by go_num, by unfold Hid; rw [take_succ_getD ns k hlt, List.all_append, hr.out]; simp [HB.out]⟩
        case measure => simp [intOf]; omega
      | false =>
        have HB := Lib.hid hb
        clear hb
        go_wp2_with (go_at_call 70; refine (badNum_any ns[k] _).mono ?_; rintro e w' ⟨rfl, rfl⟩; rw [HB.out])
        go_ret
        refine ⟨⟨k, rfl, ?_⟩, rfl⟩
        have : ns.all okNum = false := by
          rw [List.all_eq_false]
          exact ⟨ns[k], List.getElem_mem _, by rw [HB.out]; simp⟩
        rw [this]
        simp
    · have hs : Hid (ns.all okNum = true) := by
        have := hr.out; rw [List.take_of_length_le (by omega)] at this; exact this
      clear hr hc
      go_wp2
      go_ret
      exact ⟨⟨-1, rfl, by rw [hs.out]; simp⟩, rfl⟩

set_option maxRecDepth 100000 in
set_option maxHeartbeats 1000000 in
theorem contains_any (v : Value) (ns : List Int) (w : World) (hv : Ints w v ns) :
    Calls Try.prog 69 #[v, .func (.func 70) #[] #[]] w fun e w' => e = .returned (.bool (!(ns.all okNum))) ∧ w = w' := by
  go_enter Try.func69, Try.ntmps69
  go_wp2_with (go_at_call 88; refine (index_any v ns _ hv).mono ?_; rintro e w' ⟨⟨i, rfl, hi⟩, rfl⟩)
  go_ret
  exact ⟨by rw [← hi]; rfl, rfl⟩

/-- Numbers, one behind the other. -/
def nums (ns : List Int) : List UInt8 := (ns.map fun n => Pack.num n.toNat).flatten
theorem nums_snoc (ns : List Int) (n : Int) : nums (ns ++ [n]) = nums ns ++ Pack.num n.toNat := by simp [nums]
theorem nums_le (ns : List Int) (h : ns.all okNum = true) : (nums ns).length ≤ 9 * ns.length := by
  induction ns with
  | nil => simp [nums]
  | cons n ns ih =>
    simp only [List.all_cons, Bool.and_eq_true] at h
    have h1 := h.1
    unfold okNum at h1
    have := Pack.num_nine (n := n.toNat) (by simp at h1; omega)
    have h2 := ih h.2
    simp only [nums, List.map_cons, List.flatten_cons, List.length_append, List.length_cons] at h2 ⊢
    omega

/-- A call that hands back an own row and a word. -/
def GivesOwnIs (base : Nat) (w : World) (l : List UInt8) (is : Bool) (e : Ending) (w' : World) : Prop := ∃ u, e = .returned (.tuple #[u, .bool is]) ∧ Own w' base u l ∧ Below base w w'

set_option maxRecDepth 100000 in
set_option maxHeartbeats 2000000 in
theorem packNum_any (v u : Value) (l : List UInt8) (ns : List Int) (w : World) (hv : Bytes w v l) (hu : Ints w u ns) (hl : l.length ≤ 60000000000000) (hns : ns.length ≤ 1000000) :
    Calls Try.prog 52 #[v, u] w (GivesOwnIs w.heap.size w (if ns.all okNum then l ++ nums ns else l) (ns.all okNum)) := by
  have HU := Lib.hid hu
  obtain ⟨a, cap, rfl, hcap, hmax, _, hc⟩ := hu.open
  unfold maxLen at hmax
  clear hc
  cases hall : ns.all okNum with
  | false =>
    have HA := Lib.hid hall
    clear hall
    go_enter Try.func52, Try.ntmps52
    go_wp2_with (first | (go_at_call 54; refine (clone_any v l _ hv (by omega)).mono ?_; rintro e w1 ⟨v1, rfl, ho1, hb1⟩) | (go_at_call 69; refine (contains_any _ ns _ (HU.out.below hb1)).mono ?_; rintro e w2 ⟨rfl, rfl⟩; rw [HA.out]))
    go_ret2
    exact ⟨v1, rfl, by simpa using ho1, hb1⟩
  | true =>
    have HA := Lib.hid hall
    clear hall
    have hle := nums_le ns HA.out
    go_enter Try.func52, Try.ntmps52
    go_wp2_with (first | (go_at_call 54; refine (clone_any v l _ hv (by omega)).mono ?_; rintro e w1 ⟨v1, rfl, ho1, hb1⟩) | (go_at_call 69; refine (contains_any _ ns _ (HU.out.below hb1)).mono ?_; rintro e w2 ⟨rfl, rfl⟩; rw [HA.out]))
    go_loopw [6, 8, 16] (fun u _ i wr => ∃ k : Nat, k ≤ ns.length ∧ i = .int .i64 k ∧ Own wr w.heap.size u (l ++ nums (ns.take k)) ∧ Below w.heap.size w wr) (fun _ _ i _ => ns.length - (intOf i).toNat)
    case atStart => exact ⟨0, by omega, rfl, by simpa [nums] using ho1, hb1⟩
    case round =>
      obtain ⟨k, hk, rfl, ho, hbr⟩ := hrel
      have hsz := hbr.size
      by_cases hlt : k < ns.length
      · obtain ⟨a', cap', e', _, _, _, hc⟩ := (HU.out.below hbr).open
        obtain ⟨b, off, rfl, hcell⟩ := hc k hlt
        injection e' with e1 e2 e3
        subst e1
        clear hc e2 e3
        have hok : okNum ns[k] = true := (List.all_eq_true.1 HA.out) _ (List.getElem_mem hlt)
        unfold okNum at hok
        simp only [decide_eq_true_eq] at hok
        obtain ⟨m, hm⟩ : ∃ m : Nat, ns[k] = (m : Int) := ⟨ns[k].toNat, by omega⟩
        rw [hm] at hcell hok
        have hlen : (l ++ nums (ns.take k)).length ≤ 70000000000000 := by
          have h1 := nums_le (ns.take k) (by
            rw [List.all_eq_true]; intro x hx; exact (List.all_eq_true.1 HA.out) x (List.mem_of_mem_take hx))
          simp at h1 ⊢
          omega
        have HM := Lib.hid hm
        clear hm
        go_wp2_with (go_at_call 71; refine (addNum_any w.heap.size _ _ m _ ho (by omega) hlen hsz).mono ?_; rintro e w3 ⟨v3, rfl, ho3, hb3⟩)
        go_roundw
        case rel => exact ⟨k + 1, by omega, by go_num, by rw [take_succ_getD ns k hlt, nums_snoc, HM.out]; simpa using ho3, hbr.trans hb3⟩
        case measure => simp [intOf]; omega
      · have hs : ns.take k = ns := List.take_of_length_le (by omega)
        rw [hs] at ho
        clear hs
        go_wp2
        go_ret2
        exact ⟨_, rfl, by simpa using ho, hbr⟩

set_option maxRecDepth 100000 in
set_option maxHeartbeats 2000000 in
theorem packText_any (v : Value) (l s : List UInt8) (w : World) (hv : Bytes w v l) (hl : l.length ≤ 60000000000000) (hs : s.length ≤ 9223372036854775807) :
    Calls Try.prog 68 #[v, .string ⟨s.toArray⟩] w (GivesOwnIs w.heap.size w (if s.length ≤ 65536 then l ++ (Pack.num s.length ++ s) else l) (decide (s.length ≤ 65536))) := by
  by_cases h : s.length ≤ 65536
  · have h1 : ¬ (65536 : Int) < (s.length : Int) := by omega
    have hb9 := Pack.num_nine (n := s.length) (by omega)
    rw [if_pos h, decide_eq_true h]
    go_enter Try.func68, Try.ntmps68
    go_wp2_with (first | (go_at_call 54; refine (clone_any v l _ hv (by omega)).mono ?_; rintro e w1 ⟨v1, rfl, ho1, hb1⟩; have hs1 := hb1.size) | (go_at_call 71; refine (addNum_any w.heap.size _ _ s.length _ ho1 (by omega) (by omega) hs1).mono ?_; rintro e w2 ⟨v2, rfl, ho2, hb2⟩; have hs2 := hb2.size) | (at_builtin; refine wpList_app_str rfl (.tmp 16) (.tmp 17) tB8 Try.underlying9 rfl rfl rfl ho2 ?c1 ?c2 ?_; rotate_right; intro v3 w3 hown3 hg3))
    case c1 => simp only [List.length_append]; omega
    case c2 => omega
    go_ret2
    refine ⟨_, rfl, by simpa [Own, Nat.add_assoc] using hown3, (hb1.trans hb2).grown hg3 (by omega) (fun k hk => (ho2.lt k hk).1)⟩
  · have h1 : (65536 : Int) < (s.length : Int) := by omega
    rw [if_neg h, decide_eq_false h]
    clear h
    go_enter Try.func68, Try.ntmps68
    go_wp2_with (first | (go_at_call 54; refine (clone_any v l _ hv (by omega)).mono ?_; rintro e w1 ⟨v1, rfl, ho1, hb1⟩; have hs1 := hb1.size))
    go_ret2
    exact ⟨_, rfl, ho1, hb1⟩

end Go.Proofs.Ytpefengjpedifaa
