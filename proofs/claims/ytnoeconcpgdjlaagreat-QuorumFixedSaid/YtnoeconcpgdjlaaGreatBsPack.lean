import Derived.Test.YtnoeconcpgdjlaaGreatProg
import Derived.Laws.BitsAllLaws
import Derived.LoopTactic
import Derived.Lib.AppendStr
import Derived.Laws.OwnMore
import Derived.Laws.CopyOwn
import Derived.RegionTactic
import Derived.BigQuiet
import Derived.Deep.QuietTactic
import Derived.Deep.DeepCutAuto
import Derived.Lib.SlBytesConst
import Derived.Laws.DeepStrings4
import Derived.Lib.Strings
import Derived.Lib.ConvBytes
import Derived.Test.YtnoeconcpgdjlaaGreatBsLib
import Derived.Test.YtnoeconcpgdjlaaGreatBsMath
set_option linter.unusedSimpArgs false
set_option linter.unusedVariables false
namespace Go.Proofs.YtnoeconcpgdjlaaGreat
open Go.RowKit
theorem tB8 : ElemOf Tryz.prog 141 5 (.int .u8 0) 1 := ⟨Tryz.underlying141, by kernel_rfl, rfl⟩
def Own (w : World) (base : Nat) (v : Value) (l : List UInt8) : Prop := w.ownsRow base 5 1 v l.length (u8s l)
theorem Own.bytes {w : World} {base : Nat} {v : Value} {l : List UInt8} (h : Own w base v l) : Bytes w v l := Sl.ofOwn h
theorem Own.isSlice {w : World} {base : Nat} {v : Value} {l : List UInt8} (h : Own w base v l) : ∃ a n c, v = .slice a n c := h.bytes.isSlice
theorem Own.nil (w : World) (base : Nat) : Own w base (.slice none 0 0) [] := World.ownsRow_nil _ _ _ _
def zlk (base : Nat) (w : World) (l : List UInt8) (e : Ending) (w' : World) : Prop := ∃ u, e = .returned u /\ Own w' base u l /\ Below base w w'
set_option maxRecDepth 100000 in
set_option maxHeartbeats 1000000 in
theorem zdl (v : Value) (l : List UInt8) (w : World) (hv : Bytes w v l) (hl : l.length <= 140737488355328) :
 Calls Tryz.prog 111 #[v] w (zlk w.heap.size w l) := by
 have hv0 := hv
 obtain ⟨a, cap, rfl, hcap, hmax, hn, hc⟩ := hv.open
 have e1 := fun (w : World) (a : Option Addr) (n c : Nat) => Lib.run_eql_slice_nil (P := Tryz.prog) w 141 5 a n c 0 0 Tryz.underlying141
 cases a with
 | none =>
  obtain rfl := hn rfl
  have : l = [] := List.eq_nil_of_length_eq_zero (by omega)
  subst this
  clear hc
  go_enter Tryz.func111, Tryz.ntmps111
  go_wp2
  go_ret
  exact ⟨_, rfl, Own.nil _ _, Below.refl _ _⟩
 | some ad =>
  have hu := zc5 l
  clear hc
  have hown0 : (w.alloc (.cells #[] 5)).ownsRow w.heap.size 5 1 (.slice (some ⟨w.heap.size, 0, none⟩) 0 0) 0 [] := World.ownsRow_made w #[] 0 (Nat.le_refl _) (by simp [maxLen]) (by simp)
  have hsl : Sl (w.alloc (.cells #[] 5)) (.slice (some ad) l.length cap) (u8s l) := hv0.below (Ext.alloc _ _)
  have hc1 : 0 + (u8s l).length <= maxLen := by simp; unfold maxLen; omega
  have hc2 : (0 + (u8s l).length) * 1 <= 140737488355328 := by simp; omega
  go_enter Tryz.func111, Tryz.ntmps111
  go_wp2_with (first | (at_builtin; refine zcg rfl (.tmp 5) (.tmp 6) tB8 rfl rfl rfl hown0 hsl hu hc1 hc2 (by simp) ?_; intro v2 w2 hown2 hg2))
  go_ret
  exact ⟨_, rfl, by simpa [Own] using hown2, ((Below.refl _ w).alloc (Nat.le_refl _) _).grown hg2 (by simp) (fun k hk => (hown0.lt k hk).1)⟩
theorem Own.one {w : World} {n : Nat} : Sl (w.alloc (.cells #[.int .u8 ((n : Int) % 256)] 5)) (.slice (some ⟨w.heap.size, 0, none⟩) 1 1) (u8s [UInt8.ofNat n]) := by
 have := Sl.made w (u8s [UInt8.ofNat n]) 5 1 (by simp) (by simp [maxLen]) (fr := (0, 0))
 simp only [u8s, List.map_cons, List.map_nil, zel] at this ⊢
 exact this
theorem Own.one_lt {w : World} {n : Nat} (h : n < 256) : Sl (w.alloc (.cells #[.int .u8 (n : Int)] 5)) (.slice (some ⟨w.heap.size, 0, none⟩) 1 1) (u8s [UInt8.ofNat n]) := by
 have := Own.one (w := w) (n := n)
 rwa [show ((n : Int) % 256) = (n : Int) from by omega] at this
theorem zsv (n : Nat) : bits .or .u8 ((n : Int) % 256) 128 = (((128 + n % 128 : Nat) : Int)) % 256 := by
 have e : ((n : Int) % 256) = ((n % 256 : Nat) : Int) := by omega
 have h := u8_or_nat (n % 256) 128 (Nat.mod_lt _ (by decide)) (by decide)
 rw [e, show (128 : Int) = ((128 : Nat) : Int) from rfl, h]
 have h2 : n % 256 ||| 128 = 128 + n % 128 := by
  have key : ∀ m : Nat, m < 256 -> m ||| 128 = 128 + m % 128 := by decide +kernel
  rw [key _ (Nat.mod_lt _ (by decide))]
  omega
 rw [h2]
 omega
set_option maxRecDepth 100000 in
set_option maxHeartbeats 2000000 in
theorem zgt (base : Nat) (v : Value) (l : List UInt8) (n : Nat) (w : World) (hv : Own w base v l) (hn : n <= 4611686018427387904) (hl : l.length <= 70000000000000) (hb : base <= w.heap.size) :
 Calls Tryz.prog 164 #[v, .int .i64 (n : Int)] w (zlk base w (l ++ Pack.num n)) := by
 have h9 := Pack.num_nine hn
 go_enter Tryz.func164, Tryz.ntmps164
 go_wp2
 go_loopw [0, 1] (fun u x wr => ∃ (m : Nat) (pre : List UInt8), m <= n /\ x = .int .i64 m /\ Hid (pre ++ Pack.num m = Pack.num n) /\ Own wr base u (l ++ pre) /\ Below base w wr) (fun _ x _ => (intOf x).toNat)
 case atStart => exact ⟨n, [], by omega, rfl, rfl, by simpa using hv, Below.refl _ _⟩
 case round =>
  obtain ⟨m, pre, hm, rfl, hp, ho, hbr⟩ := hrel
  have hsz := hbr.size
  have hpl : pre.length <= 9 := by
   have := congrArg List.length hp.out
   simp at this
   omega
  have hor := zsv m
  by_cases h128 : m < 128
  . have hbig : ¬ (128 : Int) <= (m : Int) := by omega
    have hone := zc5 [UInt8.ofNat m]
    have e : Pack.num m = [UInt8.ofNat m] := Pack.num_low h128
    clear hor
    go_wp2_with (first | (at_builtin; refine zcg rfl (.tmp 15) (.tmp 18) tB8 rfl (base := base) (n := (l ++ pre).length) (xs := u8s (l ++ pre)) (ys := u8s [UInt8.ofNat m]) rfl rfl (ho.alloc _) ?c2 hone ?c3 ?c4 ?c5 ?_; rotate_right; intro v2 w2 hown2 hg2))
    case c2 => exact Own.one_lt (by omega)
    case c3 => (try simp only [u8s_length, List.length_append, List.length_cons, List.length_nil]); (try unfold maxLen); omega
    case c4 => (try simp only [u8s_length, List.length_append, List.length_cons, List.length_nil]); (try unfold maxLen); omega
    case c5 => (try simp only [World.size_alloc]); omega
    go_ret
    refine ⟨_, rfl, ?_, (hbr.alloc (by omega) _).grown hg2 (by simp; omega) (by intro k hk; have := ho.lt k hk; omega)⟩
    rw [<- hp.out, e]
    simpa [Own, Nat.add_assoc] using hown2
  . have hbig : (128 : Int) <= (m : Int) := by omega
    have hone := zc5 [UInt8.ofNat (128 + m % 128)]
    have e : Pack.num m = UInt8.ofNat (128 + m % 128) :: Pack.num (m / 128) := Pack.num_high h128
    go_wp2_with (first | (at_builtin; refine zcg rfl (.tmp 9) (.tmp 13) tB8 rfl (base := base) (n := (l ++ pre).length) (xs := u8s (l ++ pre)) (ys := u8s [UInt8.ofNat (128 + m % 128)]) rfl rfl (ho.alloc _) ?c2 hone ?c3 ?c4 ?c5 ?_; rotate_right; intro v2 w2 hown2 hg2))
    case c2 => exact Own.one
    case c3 => (try simp only [u8s_length, List.length_append, List.length_cons, List.length_nil]); (try unfold maxLen); omega
    case c4 => (try simp only [u8s_length, List.length_append, List.length_cons, List.length_nil]); (try unfold maxLen); omega
    case c5 => (try simp only [World.size_alloc]); omega
    go_roundw
    case rel =>
     refine ⟨m / 128, pre ++ [UInt8.ofNat (128 + m % 128)], by omega, by go_num, ?_, ?_, (hbr.alloc (by omega) _).grown hg2 (by simp; omega) (by intro k hk; have := ho.lt k hk; omega)⟩
     . unfold Hid; rw [<- hp.out, e]; simp
     . simpa [Own, Nat.add_assoc] using hown2
    case measure => simp [intOf]; omega
theorem zge {P : Program} {w : World} {ops : Array Oper} {rest : List Oper} {o : Oper} {a : Act} {Q : Exit -> Act -> World -> Prop} (hgd : o.guard = none) (s x : Operand) {t e u : TypeId} (E : ElemOf P t e (.int .u8 0) 1) (hu : P.underlying u = some .string)
 (ho : o.op = .call { callee := .builtin .append, args := #[s, x], argTypes := #[t, u] }) {base : Nat} {v : Value} {n : Nat} {l m : List UInt8} (hs : a.eval s = v) (hx : a.eval x = .string ⟨m.toArray⟩)
 (hown : w.ownsRow base e 1 v n (u8s l)) (hsz : n + m.length <= 140737488355328) (hb : base <= w.heap.size)
 (h : ∀ v' w', w'.ownsRow base e 1 v' (n + m.length) (u8s (l ++ m)) -> w.grownBy w' v.ownBlock -> wpList P ops Q rest (a.put o.dst v') w') : wpList P ops Q (o :: rest) a w := by
 obtain ⟨i, hi, hz, h2, h3⟩ := info_parts E.info
 have hsize : (ByteArray.mk m.toArray).size = m.length := by simp [ByteArray.size]
 have hcells : Lib.strCells ⟨m.toArray⟩ = u8s m := by simp [Lib.strCells, u8s]
 refine Lib.wpList_append_own_string (P := P) w hgd s x t u ho base e i E.slice hu hi hz h2 h3 v n (u8s l) hs hown ⟨m.toArray⟩ hx (by rw [hsize]; unfold maxLen; omega) (by rw [hsize]; exact hsz) hb ?_
 intro v' w' h4 h5 _
 rw [hsize, hcells, <- u8s_append] at h4
 exact h v' w' h4 h5
def okNum (n : Int) : Bool := decide (0 <= n /\ n <= 4611686018427387904)
def i64s (l : List Int) : List Value := l.map fun n => .int .i64 n
@[simp] theorem i64s_length (l : List Int) : (i64s l).length = l.length := by simp [i64s]
def Ints (w : World) (v : Value) (ns : List Int) : Prop := Sl w v (i64s ns)
theorem Ints.below {w w' : World} {v : Value} {ns : List Int} (h : Ints w v ns) (hb : Below w.heap.size w w') : Ints w' v ns := Sl.below h hb
theorem Ints.open {w : World} {v : Value} {ns : List Int} (h : Ints w v ns) : ∃ (a : Option Addr) (cap : Nat), v = .slice a ns.length cap /\ ns.length <= cap /\ cap <= maxLen /\ (a = none -> cap = 0) ∧
 ∀ i (hi : i < ns.length), ∃ b off, a = some ⟨b, off, none⟩ /\ w.cell? ⟨b, off + i, none⟩ = some (.int .i64 ns[i]) := by
 obtain ⟨a, cap, rfl, h1, h2, h4, h3⟩ := h
 refine ⟨a, cap, by simp, by simpa using h1, h2, h4, fun i hi => ?_⟩
 obtain ⟨b, off, e, hc⟩ := h3 i (by simpa using hi)
 exact ⟨b, off, e, by simpa [i64s] using hc⟩
theorem Ints.one (w : World) (n : Int) : Ints (w.alloc (.cells #[.int .i64 n] 3)) (.slice (some ⟨w.heap.size, 0, none⟩) 1 1) [n] :=
 Sl.made w (i64s [n]) 3 1 (by simp) (by simp [maxLen]) (fr := (0, 0))
set_option maxRecDepth 100000 in
set_option maxHeartbeats 1000000 in
theorem zgj (n : Int) (w : World) : Calls Tryz.prog 163 #[.int .i64 n] w fun e w' => e = .returned (.bool (!okNum n)) /\ w = w' := by
 by_cases h0 : n < 0
 . have e : okNum n = false := by unfold okNum; simp; omega
   rw [e]
   clear e
   go_enter Tryz.func163, Tryz.ntmps163
   go_wp2
   go_ret
   exact ⟨rfl, rfl⟩
 . by_cases h1 : (4611686018427387904 : Int) < n
   . have e : okNum n = false := by unfold okNum; simp; omega
     rw [e]
     clear e
     go_enter Tryz.func163, Tryz.ntmps163
     go_wp2
     go_ret
     exact ⟨rfl, rfl⟩
   . have e : okNum n = true := by unfold okNum; simp; omega
     rw [e]
     clear e
     go_enter Tryz.func163, Tryz.ntmps163
     go_wp2
     go_ret
     exact ⟨rfl, rfl⟩
set_option maxRecDepth 100000 in
set_option maxHeartbeats 1000000 in
theorem zpi (v : Value) (ns : List Int) (w : World) (hv : Ints w v ns) :
 Calls Tryz.prog 150 #[v, .func (.func 163) #[] #[]] w fun e w' => (∃ i : Int, e = .returned (.int .i64 i) /\ (decide (0 <= i)) = !(ns.all okNum)) /\ w = w' := by
 obtain ⟨a, cap, rfl, hcap, hmax, _, hc⟩ := hv.open
 unfold maxLen at hmax
 go_enter Tryz.func150, Tryz.ntmps150
 go_wp2
 go_loop [5, 8] (fun _ i => ∃ k : Nat, k <= ns.length /\ i = .int .i64 k /\ Hid ((ns.take k).all okNum = true)) (fun _ i => ns.length - (intOf i).toNat)
 case atStart => exact ⟨0, by omega, rfl, by simp [Hid]⟩
 case round =>
  obtain ⟨k, hk, rfl, hr⟩ := hrel
  by_cases hlt : k < ns.length
  . obtain ⟨b, off, rfl, hcell⟩ := hc k hlt
    clear hc
    cases hb : okNum ns[k] with
    | true =>
     have HB := Hi hb
     clear hb
     go_wp2_with (go_at_call 163; refine (zgj ns[k] _).mono ?_; rintro e w' ⟨rfl, rfl⟩; rw [HB.out])
     go_round
     case rel => exact ⟨k + 1, by omega, by go_num, by unfold Hid; rw [zam ns k hlt, List.all_append, hr.out]; simp [HB.out]⟩
     case measure => simp [intOf]; omega
    | false =>
     have HB := Hi hb
     clear hb
     go_wp2_with (go_at_call 163; refine (zgj ns[k] _).mono ?_; rintro e w' ⟨rfl, rfl⟩; rw [HB.out])
     go_ret
     refine ⟨⟨k, rfl, ?_⟩, rfl⟩
     have : ns.all okNum = false := by
      rw [List.all_eq_false]
      exact ⟨ns[k], List.getElem_mem _, by rw [HB.out]; simp⟩
     rw [this]
     simp
  . have hs : Hid (ns.all okNum = true) := by
     have := hr.out; rw [List.take_of_length_le (by omega)] at this; exact this
    clear hr hc
    go_wp2
    go_ret
    exact ⟨⟨-1, rfl, by rw [hs.out]; simp⟩, rfl⟩
set_option maxRecDepth 100000 in
set_option maxHeartbeats 1000000 in
theorem ze7 (v : Value) (ns : List Int) (w : World) (hv : Ints w v ns) :
 Calls Tryz.prog 122 #[v, .func (.func 163) #[] #[]] w fun e w' => e = .returned (.bool (!(ns.all okNum))) /\ w = w' := by
 go_enter Tryz.func122, Tryz.ntmps122
 go_wp2_with (go_at_call 150; refine (zpi v ns _ hv).mono ?_; rintro e w' ⟨⟨i, rfl, hi⟩, rfl⟩)
 go_ret
 exact ⟨by rw [<- hi]; rfl, rfl⟩
def nums (ns : List Int) : List UInt8 := (ns.map fun n => Pack.num n.toNat).flatten
theorem zog (ns : List Int) (n : Int) : nums (ns ++ [n]) = nums ns ++ Pack.num n.toNat := by simp [nums]
theorem zju (ns : List Int) (h : ns.all okNum = true) : (nums ns).length <= 9 * ns.length := by
 induction ns with
 | nil => simp [nums]
 | cons n ns ih =>
  simp only [List.all_cons, Bool.and_eq_true] at h
  have h1 := h.1
  unfold okNum at h1
  have := Pack.num_nine (n := n.toNat) (by simp at h1; omega)
  have h2 := ih h.2
  simp only [nums, List.map_cons, List.flatten_cons, List.length_append, List.length_cons] at h2 ⊢
  omega
def zg7 (base : Nat) (w : World) (l : List UInt8) (is : Bool) (e : Ending) (w' : World) : Prop := ∃ u, e = .returned (.tuple #[u, .bool is]) /\ Own w' base u l /\ Below base w w'
set_option maxRecDepth 100000 in
set_option maxHeartbeats 2000000 in
theorem zb4 (v u : Value) (l : List UInt8) (ns : List Int) (w : World) (hv : Bytes w v l) (hu : Ints w u ns) (hl : l.length <= 60000000000000) (hns : ns.length <= 1000000) :
 Calls Tryz.prog 146 #[v, u] w (zg7 w.heap.size w (if ns.all okNum then l ++ nums ns else l) (ns.all okNum)) := by
 have HU := Hi hu
 obtain ⟨a, cap, rfl, hcap, hmax, _, hc⟩ := hu.open
 unfold maxLen at hmax
 clear hc
 cases hall : ns.all okNum with
 | false =>
  have HA := Hi hall
  clear hall
  go_enter Tryz.func146, Tryz.ntmps146
  go_wp2_with (first | (go_at_call 111; refine (zdl v l _ hv (by omega)).mono ?_; rintro e w1 ⟨v1, rfl, ho1, hb1⟩) | (go_at_call 122; refine (ze7 _ ns _ (HU.out.below hb1)).mono ?_; rintro e w2 ⟨rfl, rfl⟩; rw [HA.out]))
  go_ret2
  exact ⟨v1, rfl, by simpa using ho1, hb1⟩
 | true =>
  have HA := Hi hall
  clear hall
  have hle := zju ns HA.out
  go_enter Tryz.func146, Tryz.ntmps146
  go_wp2_with (first | (go_at_call 111; refine (zdl v l _ hv (by omega)).mono ?_; rintro e w1 ⟨v1, rfl, ho1, hb1⟩) | (go_at_call 122; refine (ze7 _ ns _ (HU.out.below hb1)).mono ?_; rintro e w2 ⟨rfl, rfl⟩; rw [HA.out]))
  go_loopw [6, 8, 16] (fun u _ i wr => ∃ k : Nat, k <= ns.length /\ i = .int .i64 k /\ Own wr w.heap.size u (l ++ nums (ns.take k)) /\ Below w.heap.size w wr) (fun _ _ i _ => ns.length - (intOf i).toNat)
  case atStart => exact ⟨0, by omega, rfl, by simpa [nums] using ho1, hb1⟩
  case round =>
   obtain ⟨k, hk, rfl, ho, hbr⟩ := hrel
   have hsz := hbr.size
   by_cases hlt : k < ns.length
   . obtain ⟨a', cap', e', _, _, _, hc⟩ := (HU.out.below hbr).open
     obtain ⟨b, off, rfl, hcell⟩ := hc k hlt
     injection e' with e1 e2 e3
     subst e1
     clear hc e2 e3
     have hok : okNum ns[k] = true := (List.all_eq_true.1 HA.out) _ (List.getElem_mem hlt)
     unfold okNum at hok
     simp only [decide_eq_true_eq] at hok
     obtain ⟨m, hm⟩ : ∃ m : Nat, ns[k] = (m : Int) := ⟨ns[k].toNat, by omega⟩
     rw [hm] at hcell hok
     have hlen : (l ++ nums (ns.take k)).length <= 70000000000000 := by
      have h1 := zju (ns.take k) (by
       rw [List.all_eq_true]; intro x hx; exact (List.all_eq_true.1 HA.out) x (List.mem_of_mem_take hx))
      simp at h1 ⊢
      omega
     have HM := Hi hm
     clear hm
     go_wp2_with (go_at_call 164; refine (zgt w.heap.size _ _ m _ ho (by omega) hlen hsz).mono ?_; rintro e w3 ⟨v3, rfl, ho3, hb3⟩)
     go_roundw
     case rel => exact ⟨k + 1, by omega, by go_num, by rw [zam ns k hlt, zog, HM.out]; simpa using ho3, hbr.trans hb3⟩
     case measure => simp [intOf]; omega
   . have hs : ns.take k = ns := List.take_of_length_le (by omega)
     rw [hs] at ho
     clear hs
     go_wp2
     go_ret2
     exact ⟨_, rfl, by simpa using ho, hbr⟩
set_option maxRecDepth 100000 in
set_option maxHeartbeats 2000000 in
theorem zja (v : Value) (l s : List UInt8) (w : World) (hv : Bytes w v l) (hl : l.length <= 60000000000000) (hs : s.length <= 9223372036854775807) :
 Calls Tryz.prog 148 #[v, .string ⟨s.toArray⟩] w (zg7 w.heap.size w (if s.length <= 65536 then l ++ (Pack.num s.length ++ s) else l) (decide (s.length <= 65536))) := by
 by_cases h : s.length <= 65536
 . have h1 : ¬ (65536 : Int) < (s.length : Int) := by omega
   have hb9 := Pack.num_nine (n := s.length) (by omega)
   rw [if_pos h, decide_eq_true h]
   go_enter Tryz.func148, Tryz.ntmps148
   go_wp2_with (first | (go_at_call 111; refine (zdl v l _ hv (by omega)).mono ?_; rintro e w1 ⟨v1, rfl, ho1, hb1⟩; have hs1 := hb1.size) | (go_at_call 164; refine (zgt w.heap.size _ _ s.length _ ho1 (by omega) (by omega) hs1).mono ?_; rintro e w2 ⟨v2, rfl, ho2, hb2⟩; have hs2 := hb2.size) | (at_builtin; refine zge rfl (.tmp 16) (.tmp 17) tB8 Tryz.underlying9 rfl rfl rfl ho2 ?c1 ?c2 ?_; rotate_right; intro v3 w3 hown3 hg3))
   case c1 => simp only [List.length_append]; omega
   case c2 => omega
   go_ret2
   refine ⟨_, rfl, by simpa [Own, Nat.add_assoc] using hown3, (hb1.trans hb2).grown hg3 (by omega) (fun k hk => (ho2.lt k hk).1)⟩
 . have h1 : (65536 : Int) < (s.length : Int) := by omega
   rw [if_neg h, decide_eq_false h]
   clear h
   go_enter Tryz.func148, Tryz.ntmps148
   go_wp2_with (first | (go_at_call 111; refine (zdl v l _ hv (by omega)).mono ?_; rintro e w1 ⟨v1, rfl, ho1, hb1⟩; have hs1 := hb1.size))
   go_ret2
   exact ⟨_, rfl, ho1, hb1⟩
theorem Sl.off {w w' : World} {p : Nat} {cs : Array Value} {T : TypeId} {fr : Nat × Nat} {v : Value} {xs : List Value} (h : Sl w v xs) (hp : w.heap[p]? = some (.cells cs T fr)) (hx : ∀ x ∈ xs, x ∉ cs.toList) (hb : But p w w') : Sl w' v xs := by
 obtain ⟨a, cap, rfl, h1, h2, h4, h3⟩ := h
 refine ⟨a, cap, rfl, h1, h2, h4, fun i hi => ?_⟩
 obtain ⟨b, off, e, hc⟩ := h3 i hi
 refine ⟨b, off, e, ?_⟩
 have hne : b ≠ p := by
  rintro rfl
  rw [zaa hp] at hc
  have := Array.mem_of_getElem? hc
  exact hx _ (List.getElem_mem hi) (by simpa using this)
 rw [World.cell?_of_block (w := w) (hb.block b (World.block_lt_of_cell? w _ hc) hne)]
 exact hc
theorem Bytes.off {w w' : World} {p : Nat} {cs : Array Value} {T : TypeId} {fr : Nat × Nat} {v : Value} {l : List UInt8} (h : Bytes w v l) (hp : w.heap[p]? = some (.cells cs T fr)) (hx : ∀ n, Value.int .u8 n ∉ cs.toList) (hb : But p w w') : Bytes w' v l :=
 Sl.off h hp (fun x hxx => by
  obtain ⟨y, _, rfl⟩ := List.mem_map.1 hxx
  exact hx _) hb
def Low (a : Option Addr) (p : Nat) : Prop := ∀ d, a = some d -> d.block < p
theorem Low.none (p : Nat) : Low none p := fun _ e => by cases e
theorem Low.sub {a : Option Addr} {p : Nat} (h : Low a p) (b : Prop) [Decidable b] (k : Nat) : Low (if b then a else a.map (·.add k)) p := by
 intro d e
 split at e
 . exact h d e
 . cases a with
   | none => cases e
   | some x =>
    simp only [Option.map_some, Option.some.injEq] at e
    subst e
    have e2 : (x.add k).block = x.block := by unfold Addr.add; split <;> rfl
    rw [e2]
    exact h x rfl
def RD (w : World) (p : Nat) (s : Pack.St) : Prop :=
 ∃ (a : Option Addr) (n c : Nat), w.heap[p]? = some (.cells #[.slice a n c, .int .i64 s.err] 239 (0, 0)) /\ Bytes w (.slice a n c) s.left /\ Low a p
theorem RD.lt {w : World} {p : Nat} {s : Pack.St} (h : RD w p s) : p < w.heap.size := by
 obtain ⟨a, n, c, h1, _, _⟩ := h
 exact (Array.getElem?_eq_some_iff.1 h1).1
theorem RD.ext {w w' : World} {p : Nat} {s : Pack.St} (h : RD w p s) (hb : Ext w w') : RD w' p s := by
 have hlt := h.lt
 obtain ⟨a, n, c, h1, h2, h3⟩ := h
 exact ⟨a, n, c, by rw [hb.block p hlt]; exact h1, h2.below hb, h3⟩
theorem RD.keep {w w' : World} {p : Nat} {s : Pack.St} (h : RD w p s) (hb : ∀ k, k <= p -> w'.heap[k]? = w.heap[k]?) : RD w' p s := by
 obtain ⟨a, n, c, h1, h2, h3⟩ := h
 refine ⟨a, n, c, (hb p (Nat.le_refl _)).trans h1, ?_, h3⟩
 obtain ⟨a', cap, e, q1, q2, q4, q3⟩ := h2
 refine ⟨a', cap, e, q1, q2, q4, fun i hi => ?_⟩
 obtain ⟨b, off, e2, hc⟩ := q3 i hi
 refine ⟨b, off, e2, ?_⟩
 injection e with e3 _ _
 subst e3
 have := h3 _ e2
 rw [World.cell?_of_block (w := w) (hb b (Nat.le_of_lt this))]
 exact hc
theorem no_u8 {a : Option Addr} {n c : Nat} {e : Int} : ∀ m, Value.int .u8 m ∉ (#[Value.slice a n c, .int .i64 e] : Array Value).toList := by
 intro m h
 simp at h
theorem RD.bytes {w w' : World} {p : Nat} {s : Pack.St} {v : Value} {l : List UInt8} (h : RD w p s) (hv : Bytes w v l) (hb : But p w w') : Bytes w' v l := by
 obtain ⟨a, n, c, h1, _, _⟩ := h
 exact hv.off h1 no_u8 hb
theorem RD.other {w w' : World} {p q : Nat} {s t : Pack.St} (h : RD w p s) (hq : RD w q t) (hne : q ≠ p) (hb : But p w w') : RD w' q t := by
 have hlt := hq.lt
 have h' := h
 obtain ⟨a, n, c, h1, h2, h3⟩ := hq
 exact ⟨a, n, c, by rw [hb.block q hlt hne]; exact h1, h'.bytes h2 hb, h3⟩
theorem zc6 {P : Program} {w : World} {ops : Array Oper} {rest : List Oper} {o : Oper} {a : Act} {Q : Exit -> Act -> World -> Prop} (hgd : o.guard = none) (l c : Operand) {t e : TypeId} {z : Value} {bytes : Nat} (E : ElemOf P t e z bytes)
 (ho : o.op = Op.makeSlice t l c) (base : Nat) {kl kc : IntKind} (n : Nat) (hl : a.eval l = .int kl n) (hc : a.eval c = .int kc n) (hby : bytes * n <= 281474976710656) (hn : n <= maxLen) (hb : base <= w.heap.size)
 (h : ∀ w', w'.ownsRow base e 1 (.slice (some ⟨w.heap.size, 0, none⟩) n n) n (madeCells z.cells (n * 1)).toList -> w.grownBy w' none -> wpList P ops Q rest (a.put o.dst (.slice (some ⟨w.heap.size, 0, none⟩) n n)) w') : wpList P ops Q (o :: rest) a w := by
 obtain ⟨i, hi, hz, h2, h3⟩ := info_parts E.info
 refine wpList_plain hgd fun K hK => ?_
 obtain ⟨w', hr, h4, h5⟩ := run_make_full (P := P) w base t e i z 1 E.slice hi hz h2 kl kc n (by rw [h3]; exact hby) hn hb
 unfold Oper.wp execOp
 simp only [ho, hl, hc, Sem.run_bind, hr, Result.andThen_ok, Sem.run_pure]
 exact hK _ _ (h w' h4 h5)
theorem zf8 {P : Program} {w : World} {ops : Array Oper} {rest : List Oper} {o : Oper} {a : Act} {Q : Exit -> Act -> World -> Prop} (hgd : o.guard = none) (d s : Operand) {t e : TypeId} {z : Value} {bytes : Nat} (E : ElemOf P t e z bytes)
 (ho : o.op = .call { callee := .builtin .copy, args := #[d, s], argTypes := #[t, t] }) {base g : Nat} {u : Value} {n : Nat} {xs ys : List Value} (hd : a.eval d = .slice (some ⟨g, 0, none⟩) n n) (hs : a.eval s = u)
 (hown : w.ownsRow base e 1 (.slice (some ⟨g, 0, none⟩) n n) n xs) (hu : Sl w u ys) (hn : ys.length = n) (h1 : ∀ y ∈ ys, y.oneCell' = true)
 (h : ∀ w', Sl w' (.slice (some ⟨g, 0, none⟩) n n) ys -> Below base w w' -> wpList P ops Q rest (a.put o.dst (goInt n)) w') : wpList P ops Q (o :: rest) a w := by
 obtain ⟨i, hi, hz, h2, h3⟩ := info_parts E.info
 have hl : xs.length = n := by simpa using hown.1
 obtain ⟨aa, cap, rfl, q1, q2, q4, q3⟩ := hu
 obtain ⟨_, hh | ⟨g', cap', cur, e1, hg, hh, hnn, hm, hsz, ht⟩⟩ := hown
 . exact absurd hh.1 (by simp)
 . injection e1 with e1 _ e3
   injection e1 with e1
   injection e1 with e1 _
   subst e1 e3
   have hcl : cur.toList = xs := by
    rw [<- ht, List.take_of_length_le]
    rw [Array.length_toList]; omega
   have hcur : cur = xs.toArray := by rw [<- hcl]
   subst hcur
   refine wpList_copy_splice hgd d s t t ho e E.slice (by rw [hi]; simp [h2]) (some ⟨g, 0, none⟩) aa n n ys.length cap hd hs g 0 xs e hh ys (by rw [hn]; exact (Nat.min_self _).symm) ?_ (by omega) h1 base w (Below.refl _ _) hg ?_
   . intro hpos
     obtain ⟨b, off, e5, _⟩ := q3 0 hpos
     refine ⟨rfl, ⟨b, off, none⟩, e5, fun j v hj => ?_⟩
     obtain ⟨hj1, rfl⟩ := List.getElem?_eq_some_iff.1 hj
     obtain ⟨b', off', e', hc'⟩ := q3 j hj1
     rw [e5] at e'
     injection e' with e'; injection e' with e6 e7
     subst e6 e7
     rw [Addr.add_lit]; exact hc'
   . intro w' hg' hb'
     have e8 : splice xs 0 ys = ys := by simp [splice]; omega
     rw [hn]
     refine h w' ⟨_, n, by rw [hn], by omega, hm, fun e => by simp at e, fun j hj => ⟨g, 0, rfl, ?_⟩⟩ hb'
     have h9 := hg'.out
     rw [e8] at h9
     rw [zaa h9]
     simp [hj]
theorem zjf (w : World) (a : Option Addr) (n c : Nat) : (Instr.build 239 #[(0, .slice a n c)]).run Tryz.prog w = .ok (.agg #[.slice a n c, .int .i64 0]) w := by kernel_rfl
theorem znf (w : World) (a : Option Addr) (n c : Nat) : (Instr.box 239 (.agg #[.slice a n c, .int .i64 0])).run Tryz.prog w = .ok (.pointer (some ⟨w.heap.size, 0, none⟩)) (w.alloc (.cells #[.slice a n c, .int .i64 0] 239)) := by kernel_rfl
set_option maxRecDepth 100000 in
set_option maxHeartbeats 1000000 in
theorem zce (v : Value) (l : List UInt8) (w : World) (hv : Bytes w v l) (hl : l.length <= 140737488355328) :
 Calls Tryz.prog 139 #[v] w fun e w' => ∃ p, e = .returned (.pointer (some ⟨p, 0, none⟩)) /\ w.heap.size <= p /\ RD w' p ⟨l, 0⟩ /\ Ext w w' := by
 have h1 := zjf
 have h2 := znf
 have HV := Hi hv
 obtain ⟨a, cap, rfl, hcap, hmax, hn, hc⟩ := hv.open
 clear hc hv
 have hu := zc5 l
 go_enter Tryz.func139, Tryz.ntmps139
 go_wp2_with (first | (at_make; refine zc6 rfl _ _ tB8 rfl w.heap.size l.length rfl rfl ?k1 ?k2 ?k3 ?_; rotate_right; intro w3 hown3 hg3; have hb3 : Ext w w3 := (Below.refl _ w).grown hg3 (Nat.le_refl _) (fun k hk => by cases hk)) | (refine zf8 rfl (.tmp 7) (.tmp 8) tB8 rfl (ys := u8s l) rfl rfl hown3 (HV.out.below hb3) (u8s_length l) hu ?_; intro w4 hs4 hb4))
 case k1 => omega
 case k2 => unfold maxLen; omega
 case k3 => omega
 go_ret
 have hlow : w.heap.size < w4.heap.size := by
  obtain ⟨_, h | ⟨g', cap', cur, e1, _, hh, _⟩⟩ := hown3
  . exact absurd h.1 (by simp)
  . injection e1 with e1 _ _
    injection e1 with e1
    injection e1 with e1 _
    subst e1
    have := (Array.getElem?_eq_some_iff.1 hh).1
    have := hb4.size
    omega
 refine ⟨w4.heap.size, rfl, ?_, ⟨_, _, _, heap_alloc_new w4 _, Sl.below hs4 (Ext.alloc _ _), fun d e => by injection e with e; subst e; exact hlow⟩, Below.alloc (Below.trans (B := w.heap.size) hb3 hb4) ?_ _⟩
 . exact Nat.le_trans hb3.size hb4.size
 . exact Nat.le_trans hb3.size hb4.size
set_option maxRecDepth 100000 in
set_option maxHeartbeats 1000000 in
theorem zrw (p : Nat) (s : Pack.St) (w : World) (h : RD w p s) : Calls Tryz.prog 161 #[.pointer (some ⟨p, 0, none⟩)] w fun e w' => e = .returned (.int .i64 (s.left.length : Nat)) /\ w = w' := by
 obtain ⟨a, n, c, h1, h2, h3⟩ := h
 have c0 := zaa h1 0
 have hn := h2.len.1
 simp at c0
 have HN := Hi hn
 clear hn h1 h2
 go_enter Tryz.func161, Tryz.ntmps161
 go_wp2
 go_ret
 exact ⟨by rw [HN.out]; rfl, rfl⟩
set_option maxRecDepth 100000 in
set_option maxHeartbeats 1000000 in
theorem zsx (p : Nat) (s : Pack.St) (w : World) (h : RD w p s) : Calls Tryz.prog 162 #[.pointer (some ⟨p, 0, none⟩)] w fun e w' => e = .returned (.int .i64 s.err) /\ w = w' := by
 obtain ⟨a, n, c, h1, h2, h3⟩ := h
 have c1 := zaa h1 1
 simp at c1
 clear h1 h2
 go_enter Tryz.func162, Tryz.ntmps162
 go_wp2
 go_ret
 exact ⟨rfl, rfl⟩
set_option maxRecDepth 100000 in
set_option maxHeartbeats 1000000 in
theorem zg9 (p : Nat) (s : Pack.St) (w : World) (h : RD w p s) : Calls Tryz.prog 143 #[.pointer (some ⟨p, 0, none⟩)] w fun e w' => e = .returned (.int .i64 s.done) /\ w = w' := by
 obtain ⟨a, n, c, h1, h2, h3⟩ := h
 have c0 := zaa h1 0
 have c1 := zaa h1 1
 have hn := h2.len.1
 simp at c0 c1
 clear h1 h2
 by_cases h0 : s.left.length = 0
 . have hz : ¬ (0 : Int) < (n : Int) := by omega
   have e : s.done = s.err := by unfold Pack.St.done; rw [if_pos (List.eq_nil_of_length_eq_zero h0)]
   rw [e]
   clear e h0 hn
   go_enter Tryz.func143, Tryz.ntmps143
   go_wp2
   go_ret
   exact ⟨rfl, rfl⟩
 . have hz : (0 : Int) < (n : Int) := by omega
   have e : s.done = 22 := by unfold Pack.St.done; rw [if_neg (fun h => h0 (by rw [h]; rfl))]
   rw [e]
   clear e h0 hn
   go_enter Tryz.func143, Tryz.ntmps143
   go_wp2
   go_ret
   exact ⟨rfl, rfl⟩
def Turns (p : Nat) (w : World) (v : Value) (s : Pack.St) (e : Ending) (w' : World) : Prop := e = .returned v /\ But p w w' /\ RD w' p s
theorem zbo (w : World) : Bytes w (.slice none 0 0) [] := ⟨none, 0, rfl, Nat.le_refl _, by simp [maxLen], fun _ => rfl, fun i hi => absurd hi (by simp [u8s])⟩
theorem RD.store {w' : World} {p : Nat} {a : Option Addr} {n c : Nat} {s : Pack.St} (h : w'.heap[p]? = some (.cells #[.slice a n c, .int .i64 s.err] 239 (0, 0))) (hv : Bytes w' (.slice a n c) s.left) (hl : Low a p) : RD w' p s := ⟨a, n, c, h, hv, hl⟩
set_option maxRecDepth 100000 in
set_option maxHeartbeats 1000000 in
theorem zc7 (p : Nat) (s : Pack.St) (x : Int) (w : World) (h : RD w p s) : Calls Tryz.prog 160 #[.pointer (some ⟨p, 0, none⟩), .int .i64 x] w (Turns p w (.tuple #[]) (s.fail x)) := by
 obtain ⟨a, n, c, h1, h2, h3⟩ := h
 have c1 := zaa h1 1
 have c0 := zaa h1 0
 have c2 := zaa (heap_setCell h1 1 (.int .i64 x)) 0
 have f0 := zac h1 0
 have f1 := zac h1 1
 have g1 := heap_setCell h1 0 (.slice none 0 0)
 have g2 := heap_setCell (heap_setCell h1 1 (.int .i64 x)) 0 (.slice none 0 0)
 have f2 := zac (heap_setCell h1 1 (.int .i64 x)) 0
 simp at c0 c1 c2 g1 g2
 by_cases h0 : s.err = 0
 . have hz : (s.err == 0) = true := by simp [h0]
   have e : s.fail x = ⟨[], x⟩ := by unfold Pack.St.fail; rw [if_pos h0]
   rw [e]
   have G2 := Hi g2
   clear e h0 g1 g2 h1 h2
   go_enter Tryz.func160, Tryz.ntmps160
   go_wp2
   go_end0
   exact ⟨rfl, ((But.refl p w).setCell 1 none _).setCell 0 none _, RD.store G2.out (zbo _) (Low.none _)⟩
 . have hz : (s.err == 0) = false := by simp [h0]
   have e : s.fail x = ⟨[], s.err⟩ := by unfold Pack.St.fail; rw [if_neg h0]
   rw [e]
   have G1 := Hi g1
   clear e h0 g1 g2 h1 h2
   go_enter Tryz.func160, Tryz.ntmps160
   go_wp2
   go_end0
   exact ⟨rfl, (But.refl p w).setCell 0 none _, RD.store G1.out (zbo _) (Low.none _)⟩
theorem zim (a : Nat) (ha : a < 9223372036854775808) : (BitVec.ofInt 64 (a : Int)).toNat = a := by
 rw [BitVec.ofInt_natCast, BitVec.toNat_ofNat]; exact Nat.mod_eq_of_lt (by omega)
theorem zm8 (a b : Nat) (ha : a < 9223372036854775808) (hb : b < 9223372036854775808) : bits .or .i64 (a : Int) (b : Int) = ((a ||| b : Nat) : Int) := by
 have hx : a ||| b < 2 ^ 63 := Nat.or_lt_two_pow (by omega) (by omega)
 show IntKind.i64.wrap ((BitVec.ofInt 64 (a : Int) ||| BitVec.ofInt 64 (b : Int)).toNat : Int) = _
 rw [BitVec.toNat_or, zim a ha, zim b hb, IntWalk.i64_in _ (by omega)]
theorem zrf (k n x : Nat) (hk : k <= 8) (hn : n < 128 ^ k) (hx : x < 128) : n ||| (x * 128 ^ k) = n + 128 ^ k * x := by
 have e : (128 : Nat) ^ k = 2 ^ (7 * k) := by rw [Nat.pow_mul]
 rw [Nat.or_comm, nat_join (7 * k) _ _ (by rw [e]; exact Nat.mul_mod_left _ _) (by rw [<- e]; exact hn), Nat.mul_comm, Nat.add_comm]
theorem zsb (k : Nat) (hk : k <= 8) : 128 ^ k <= 72057594037927936 := by
 have : (128 : Nat) ^ k <= 128 ^ 8 := Nat.pow_le_pow_right (by decide) hk
 simpa using this
theorem zpm (x : UInt8) : bits .andNot .u8 (x.toNat : Int) 128 = ((x.toNat % 128 : Nat) : Int) := by
 have h := u8_andNot_nat x.toNat 128 x.toNat_lt (by decide)
 rw [show (128 : Int) = ((128 : Nat) : Int) from rfl, h]
 congr 1
 exact nat_mask7 _
structure But2 (p q : Nat) (w w' : World) : Prop where
 os : w'.os = w.os
 tape : w'.tape = w.tape
 output : w'.output = w.output
 size : w.heap.size <= w'.heap.size
 block : ∀ k, k < w.heap.size -> k ≠ p -> k ≠ q -> w'.heap[k]? = w.heap[k]?
theorem But2.refl (p q : Nat) (w : World) : But2 p q w w := ⟨rfl, rfl, rfl, Nat.le_refl _, fun _ _ _ _ => rfl⟩
theorem But2.trans {p q : Nat} {a b c : World} (h : But2 p q a b) (k : But2 p q b c) : But2 p q a c :=
 ⟨k.os.trans h.os, k.tape.trans h.tape, k.output.trans h.output, Nat.le_trans h.size k.size, fun i hi hp hq => (k.block i (Nat.lt_of_lt_of_le hi h.size) hp hq).trans (h.block i hi hp hq)⟩
theorem But2.drew {p q : Nat} {a w : World} (h : But2 p q a w) : But2 p q a w.drew := h.trans ⟨rfl, rfl, rfl, Nat.le_refl _, fun _ _ _ _ => rfl⟩
theorem But2.set1 {p q : Nat} {a w : World} (h : But2 p q a w) (o : Nat) (s : Option Nat) (v : Value) : But2 p q a (w.setCell ⟨p, o, s⟩ v) :=
 h.trans ⟨rfl, rfl, rfl, by simp [World.setCell], fun k _ hk _ => Below.heap_setCell _ _ _ _ (by simpa using hk)⟩
theorem But2.set2 {p q : Nat} {a w : World} (h : But2 p q a w) (o : Nat) (s : Option Nat) (v : Value) : But2 p q a (w.setCell ⟨q, o, s⟩ v) :=
 h.trans ⟨rfl, rfl, rfl, by simp [World.setCell], fun k _ _ hk => Below.heap_setCell _ _ _ _ (by simpa using hk)⟩
theorem But2.below {p q B : Nat} {w w' : World} (h : But2 p q w w') (hp : B <= p) (hq : B <= q) (hB : B <= w.heap.size) : Below B w w' :=
 ⟨h.os, h.tape, h.output, h.size, fun k hk => h.block k (by omega) (by omega) (by omega)⟩
set_option maxRecDepth 100000 in
set_option maxHeartbeats 2000000 in
theorem zrt (p q0 q1 q2 k n : Nat) (s : Pack.St) (w : World) (h : RD w p s) (h0 : w.heap[q0]? = some (.cells #[.pointer (some ⟨p, 0, none⟩)] 200 (0, 0))) (h1 : w.heap[q1]? = some (.cells #[.int .i64 (k : Int)] 3 (0, 0))) (h2 : w.heap[q2]? = some (.cells #[.int .i64 (n : Int)] 3 (0, 0)))
 (hne : q1 ≠ q2) (hk : k <= 8) (hn : n < 128 ^ k) (hlt : k < s.left.length) :
 Calls Tryz.prog 159 #[.pointer (some ⟨q0, 0, none⟩), .pointer (some ⟨q1, 0, none⟩), .pointer (some ⟨q2, 0, none⟩)] w fun e w' => e = .returned (.int .u8 (s.left[k].toNat : Int)) /\ But2 q1 q2 w w' ∧
  w'.heap[q1]? = some (.cells #[.int .i64 ((k + 1 : Nat) : Int)] 3 (0, 0)) /\ w'.heap[q2]? = some (.cells #[.int .i64 ((n + 128 ^ k * (s.left[k].toNat % 128) : Nat) : Int)] 3 (0, 0)) := by
 obtain ⟨a, m, c, hr, hb, _⟩ := h
 obtain ⟨a', c', e', hcap, hmax, _, hc⟩ := hb.open
 injection e' with e1 e2 e3
 subst e1 e2 e3
 obtain ⟨b, off, rfl, hcell⟩ := hc k hlt
 have c0 := zaa h0 0
 have c1 := zaa h1 0
 have c2 := zaa h2 0
 have cr := zaa hr 0
 have f1 := zac h1 0
 have f2 := zac h2 0
 have hpow := zsb k hk
 have hx : s.left[k].toNat % 128 < 128 := Nat.mod_lt _ (by decide)
 have hls := zpm s.left[k]
 have hbig : (s.left[k].toNat % 128) * 128 ^ k <= 127 * 72057594037927936 := Nat.mul_le_mul (by omega) hpow
 have hor := zm8 n ((s.left[k].toNat % 128) * 128 ^ k) (by omega) (by omega)
 rw [zrf k n _ hk hn hx] at hor
 obtain ⟨V, hV⟩ : ∃ V : Int, V = ((n + 128 ^ k * (s.left[k].toNat % 128) : Nat) : Int) := ⟨_, rfl⟩
 rw [<- hV] at hor ⊢
 have HV := Hi hV
 clear hV
 have hor2 : bits .or .i64 (n : Int) (wrap64 (((s.left[k].toNat : Nat) : Int) % 128 * 2 ^ (7 * k))) = V := by
  have e1 : (((s.left[k].toNat : Nat) : Int) % 128 * 2 ^ (7 * k)) = (((s.left[k].toNat % 128) * 128 ^ k : Nat) : Int) := by
   rw [Int.natCast_mul, Int.natCast_pow, show ((128 : Nat) : Int) = 2 ^ 7 from by decide, <- Int.pow_mul]
   rfl
  rw [e1, IntWalk.wrap64_in _ (by omega)]
  exact hor
 simp at c0 c1 c2 cr
 clear hc
 go_enter Tryz.func159, Tryz.ntmps159
 go_wp2
 go_quiet (fail)
 go_wp2
 go_region
 go_wp2
 go_ret
 have hd : (w.drewN (nq + 1)).heap = w.heap := rfl
 have g1 : (w.drewN (nq + 1)).heap[q1]? = some (.cells #[.int .i64 (k : Int)] 3 (0, 0)) := by rw [hd]; exact h1
 have g2 : (w.drewN (nq + 1)).heap[q2]? = some (.cells #[.int .i64 (n : Int)] 3 (0, 0)) := by rw [hd]; exact h2
 have hb2 : But2 q1 q2 w (w.drewN (nq + 1)) := ⟨rfl, rfl, rfl, Nat.le_refl _, fun _ _ _ _ => rfl⟩
 refine ⟨rfl, (hb2.set2 0 none _).set1 0 none _, ?_, ?_⟩
 . have g3 : ((w.drewN (nq + 1)).setCell ⟨q2, 0, none⟩ (.int .i64 V)).heap[q1]? = some (.cells #[.int .i64 (k : Int)] 3 (0, 0)) := by
    rw [Below.heap_setCell _ _ _ _ (by simpa using hne)]; exact g1
   have := heap_setCell g3 0 (.int .i64 ((k : Int) + 1))
   simpa using this
 . rw [Below.heap_setCell _ _ _ _ (by simpa using hne.symm)]
   have := heap_setCell g2 0 (.int .i64 V)
   simpa using this
theorem Ext.drewN (w : World) (n : Nat) : Ext w (w.drewN n) := ⟨rfl, rfl, rfl, Nat.le_refl _, fun _ _ => rfl⟩
theorem Ext.two {w wr w1 : World} {j : Nat} (h : Ext w wr) (hb : But2 (w.heap.size + 1 + 1) (w.heap.size + 1) (wr.drewN j) w1) : Ext w w1 :=
 Below.trans (B := w.heap.size) (h.trans (Ext.drewN wr j)) (hb.below (by omega) (by omega) h.size)
structure Took (p : Nat) (s : Pack.St) (w wr : World) (k n : Nat) : Prop where
 ext : Ext w wr
 c0 : wr.heap[w.heap.size]? = some (.cells #[.pointer (some ⟨p, 0, none⟩)] 200 (0, 0))
 c1 : wr.heap[w.heap.size + 2]? = some (.cells #[.int .i64 (k : Int)] 3 (0, 0))
 c2 : wr.heap[w.heap.size + 1]? = some (.cells #[.int .i64 (n : Int)] 3 (0, 0))
 nine : k <= 9
 lead : k <= Pack.lead s.left
 val : n = Pack.val (s.left.take k)
theorem ze1 (w : World) (x y z : Obj) : (((w.alloc x).alloc y).alloc z).heap[w.heap.size]? = some x /\ (((w.alloc x).alloc y).alloc z).heap[w.heap.size + 1]? = some y /\ (((w.alloc x).alloc y).alloc z).heap[w.heap.size + 2]? = some z := by
 have s1 : (w.alloc x).heap.size = w.heap.size + 1 := World.size_alloc _ _
 have s2 : ((w.alloc x).alloc y).heap.size = w.heap.size + 2 := by rw [World.size_alloc, s1]
 have h1 : (w.alloc x).heap[w.heap.size]? = some x := heap_alloc_new _ _
 have h2 : ((w.alloc x).alloc y).heap[w.heap.size + 1]? = some y := by rw [<- s1]; exact heap_alloc_new _ _
 have h3 : (((w.alloc x).alloc y).alloc z).heap[w.heap.size + 2]? = some z := by rw [<- s2]; exact heap_alloc_new _ _
 refine ⟨?_, ?_, h3⟩
 . rw [Below.heap_alloc _ _ _ (by rw [s2]; omega), Below.heap_alloc _ _ _ (by rw [s1]; omega)]; exact h1
 . rw [Below.heap_alloc _ _ _ (by rw [s2]; omega)]; exact h2
theorem Took.first (p : Nat) (s : Pack.St) (w : World) : Took p s w (((w.alloc (.cells #[.pointer (some ⟨p, 0, none⟩)] 200)).alloc (.cells #[.int .i64 0] 3)).alloc (.cells #[.int .i64 0] 3)) 0 0 where
 ext := ((Ext.alloc _ _).trans (Ext.alloc _ _)).trans (Ext.alloc _ _)
 c0 := (ze1 _ _ _ _).1
 c1 := (ze1 _ _ _ _).2.2
 c2 := (ze1 _ _ _ _).2.1
 nine := by omega
 lead := by omega
 val := rfl
theorem Took.step {p k n j x : Nat} {s : Pack.St} {w wr w1 : World} (T : Took p s w wr k n) (hb : But2 (w.heap.size + 1 + 1) (w.heap.size + 1) (wr.drewN j) w1)
 (d1 : w1.heap[w.heap.size + 1 + 1]? = some (.cells #[.int .i64 ((k + 1 : Nat) : Int)] 3 (0, 0))) (d2 : w1.heap[w.heap.size + 1]? = some (.cells #[.int .i64 (x : Int)] 3 (0, 0)))
 (h9 : k + 1 <= 9) (hl : k + 1 <= Pack.lead s.left) (hlt : k < s.left.length) (hx : x = n + 128 ^ k * (s.left[k].toNat % 128)) : Took p s w w1 (k + 1) x where
 ext := T.ext.two hb
 c0 := by
  have := (Array.getElem?_eq_some_iff.1 T.c0).1
  rw [hb.block _ this (by omega) (by omega)]; exact T.c0
 c1 := d1
 c2 := d2
 nine := h9
 lead := hl
 val := by rw [hx, zam s.left k hlt, Pack.val_snoc, T.val, List.length_take, Nat.min_eq_left (by omega)]
set_option maxRecDepth 100000 in
set_option maxHeartbeats 4000000 in
theorem zcp (p : Nat) (s : Pack.St) (most : Int) (w : World) (h : RD w p s) :
 Calls Tryz.prog 140 #[.pointer (some ⟨p, 0, none⟩), .int .i64 most] w (Turns p w (.int .i64 ((s.num most).2 : Nat)) (s.num most).1) := by
 have hmf : ∀ (fn : Fn) (first cap : Array Value) (w : World), (Instr.makeFunc fn first cap).run Tryz.prog w = .ok (.func fn first cap) w := fun _ _ _ _ => rfl
 have HR := Hi h
 clear h
 go_enter Tryz.func140, Tryz.ntmps140
 go_wp2
 go_step3
 go_wp2
 go_step3
 go_wp2
 go_loopw [10] (fun _ wr => ∃ k n : Nat, Hid (Took p s w wr k n)) (fun _ wr => match wr.cell? ⟨w.heap.size + 2, 0, none⟩ with | some (.int _ i) => 9 - i.toNat | _ => 0)
 case atStart => exact ⟨0, 0, Took.first p s w⟩
 case round =>
  obtain ⟨k, n, T⟩ := hrel
  have c0 := zaa T.out.c0 0
  have c1 := zaa T.out.c1 0
  have c2 := zaa T.out.c2 0
  have hr := HR.out.ext T.out.ext
  have hk9 := T.out.nine
  have hkl := T.out.lead
  have hll := Pack.lead_le s.left
  obtain ⟨a, m, c, hheap, hby, hlw⟩ := hr
  have cr := zaa hheap 0
  have hm := hby.len.1
  simp at c0 c1 c2 cr
  by_cases h9 : k = 9
  . have hq : ((k : Int) == 9) = true := by simp [h9]
    have e : s.num most = (s.fail 21, 0) := by unfold Pack.St.num; rw [if_pos (by omega)]
    have hfail := fun w' => zc7 p s 21 w'
    rw [e]
    have hrr : RD wr p s := HR.out.ext T.out.ext
    clear e h9 hm hby hheap cr
    go_wp2_with (go_at_call 160; refine (zc7 p s 21 _ hrr).mono ?_; rintro e w1 ⟨rfl, hb1, hr1⟩)
    rw [Exit.noGoto_ret]
    go_ret
    exact ⟨rfl, (Ext.but T.out.ext p).trans hb1, hr1⟩
  . have hq : ((k : Int) == 9) = false := by simp; omega
    have hk8 : k <= 8 := by omega
    by_cases hl : k = s.left.length
    . have hq2 : ((k : Int) == (m : Int)) = true := by simp; omega
      have e : s.num most = (s.fail 20, 0) := by unfold Pack.St.num; rw [if_neg (by omega), if_pos (by omega)]
      rw [e]
      have hrr : RD wr p s := HR.out.ext T.out.ext
      clear e h9 hm hby hheap hl
      go_wp2
      go_quiet (fail)
      go_wp2_with (go_at_call 160; refine (zc7 p s 20 _ (hrr.ext (Ext.drewN _ _))).mono ?_; rintro e w1 ⟨rfl, hb1, hr1⟩)
      rw [Exit.noGoto_ret]
      go_ret
      exact ⟨rfl, (Ext.but (T.out.ext.trans (Ext.drewN _ _)) p).trans hb1, hr1⟩
    . have hq2 : ((k : Int) == (m : Int)) = false := by simp; omega
      have hlt : k < s.left.length := by omega
      have hrr : RD wr p s := HR.out.ext T.out.ext
      have hnv : n < 128 ^ k := by
       have := Pack.val_lt (s.left.take k)
       rw [List.length_take, Nat.min_eq_left (by omega), <- T.out.val] at this
       exact this
      have htk := fun j : Nat => zrt p w.heap.size (w.heap.size + 1 + 1) (w.heap.size + 1) k n s (wr.drewN j) (hrr.ext (Ext.drewN _ _)) T.out.c0 T.out.c1 T.out.c2 (by omega) (by omega) hnv hlt
      have hx8 := (s.left[k]).toNat_lt
      by_cases hx : s.left[k].toNat < 128
      . have hx1 : (s.left[k].toNat : Int) < 128 := by omega
        have hlead : Pack.lead s.left = k := Pack.lead_eq _ k hlt (fun i hi hik => Pack.lead_big _ i hi (by omega)) hx
        clear h9 hm hby hheap hl
        go_wp2
        go_quiet (fail)
        go_wp2_with (go_at_call 159; refine (htk _).mono ?_; rintro e w1 ⟨rfl, hb1, d1, d2⟩)
        have hE1 : Ext w w1 := T.out.ext.two hb1
        have hr1 : RD w1 p s := HR.out.ext hE1
        have hwr0 : w.heap.size < wr.heap.size := World.block_lt_of_cell? wr _ c0
        have d0 : w1.heap[w.heap.size]? = some (.cells #[.pointer (some ⟨p, 0, none⟩)] 200 (0, 0)) := by
         rw [hb1.block _ hwr0 (by omega) (by omega)]; exact T.out.c0
        obtain ⟨V, hV⟩ : ∃ V : Nat, V = n + 128 ^ k * (s.left[k].toNat % 128) := ⟨_, rfl⟩
        rw [<- hV] at d2
        have hVv : V = Pack.val (s.left.take (k + 1)) := by rw [hV, zam s.left k hlt, Pack.val_snoc, T.out.val, List.length_take, Nat.min_eq_left (by omega)]
        have hV63 : V < 9223372036854775808 := by
         have := Pack.val_lt (s.left.take (k + 1))
         rw [<- hVv, List.length_take, Nat.min_eq_left (by omega), Nat.pow_succ] at this
         have := zsb k (by omega)
         omega
        clear c0 c1 c2 cr htk hq hq2 hV hnv hx1 T hb1 hrr hwr0
        clear hkl
        have c0 := zaa d0 0
        have c1 := zaa d1 0
        have c2 := zaa d2 0
        obtain ⟨a1, m1, c3, hheap, hby, hlw1⟩ := hr1
        have cr := zaa hheap 0
        have hm := hby.len.1
        obtain ⟨a', c', e', hcap, hmax, _, hcell⟩ := hby.open
        injection e' with e1 e2 e3
        subst e1 e2 e3
        obtain ⟨b, off, rfl, hbk⟩ := hcell k hlt
        simp at c0 c1 c2 cr
        have hc1 : k + 1 <= c3 := by omega
        go_cut [8] (fun s8 wx => (∃ j : Nat, wx = w1.drewN j) /\ s8 = .bool (decide (1 <= k /\ s.left[k] = 0)))
        case first =>
         by_cases hk0 : k = 0
         . have hlong : decide (1 <= k /\ s.left[k] = 0) = false := by simp; omega
           have hg : (decide ((1 : Int) < (k : Int) + 1)) = false := by simp; omega
           have HL := Hi hlong
           clear hlong hk0
           go_quiet (fail)
           go_wp2_with fail
           go_meet
           exact ⟨⟨_, rfl⟩, by rw [HL.out]⟩
         . have hg : (1 : Int) < (k : Int) + 1 := by omega
           have hlong : decide (1 <= k /\ s.left[k] = 0) = (((s.left[k].toNat : Nat) : Int) == 0) := by
            rw [Bool.eq_iff_iff]
            simp
            constructor
            . rintro ⟨_, h⟩; rw [h]; rfl
            . intro h; exact ⟨by omega, UInt8.toNat_inj.1 (by simpa using h)⟩
           have HL := Hi hlong
           clear hlong hk0
           go_quiet (fail)
           go_wp2_with fail
           go_meet
           exact ⟨⟨_, rfl⟩, by rw [HL.out]⟩
        case rest =>
         obtain ⟨⟨j, rfl⟩, rfl⟩ := hcut
         have hEj : Ext w (w1.drewN j) := hE1.trans (Ext.drewN _ _)
         have hrj : RD (w1.drewN j) p s := HR.out.ext hEj
         have hwr : Pack.wrong (s.left.take (k + 1)) most ↔ (decide (1 <= k /\ s.left[k] = 0) = true \/ 4611686018427387904 < V \/ most < (V : Int)) := by
          have hlast : (s.left.take (k + 1)).getLast? = some s.left[k] := by rw [zam s.left k hlt]; exact List.getLast?_concat
          unfold Pack.wrong
          rw [<- hVv, hlast, List.length_take, Nat.min_eq_left (by omega), decide_eq_true_eq, Option.some.injEq]
          have : 2 <= k + 1 ↔ 1 <= k := by omega
          rw [this]
         have hnum : s.num most = if Pack.wrong (s.left.take (k + 1)) most then (s.fail 21, 0) else (⟨s.left.drop (k + 1), s.err⟩, V) := by
          unfold Pack.St.num
          rw [hlead, if_neg (by omega), if_neg (by omega), <- hVv]
         have bad : decide (1 <= k /\ s.left[k] = 0) = true \/ 4611686018427387904 < V \/ most < (V : Int) -> s.num most = (s.fail 21, 0) := fun h => by rw [hnum, if_pos (hwr.2 h)]
         have good : ¬ (decide (1 <= k /\ s.left[k] = 0) = true \/ 4611686018427387904 < V \/ most < (V : Int)) -> s.num most = (⟨s.left.drop (k + 1), s.err⟩, V) := fun h => by rw [hnum, if_neg (fun hh => h (hwr.1 hh))]
         clear hwr hnum hVv hm hcell hlead
         generalize decide (1 <= k /\ s.left[k] = 0) = B at *
         have done : ∀ (w2 : World), s.num most = (s.fail 21, 0) -> But p (w1.drewN j) w2 -> RD w2 p (s.fail 21) -> Turns p w (.int .i64 ((s.num most).2 : Nat)) (s.num most).1 (.returned (.int .i64 0)) w2 := fun w2 e hb hr => by
          rw [e]; exact ⟨rfl, (Ext.but hEj p).trans hb, hr⟩
         cases B with
         | true =>
          have e := bad (.inl rfl)
          clear bad good
          go_wp2_with (go_at_call 160; refine (zc7 p s 21 _ hrj).mono ?_; rintro e w2 ⟨rfl, hb2, hr2⟩)
          rw [Exit.noGoto_ret]
          go_ret
          exact done _ e hb2 hr2
         | false =>
          by_cases h1 : (4611686018427387904 : Int) < (V : Int)
          . have e := bad (.inr (.inl (by omega)))
            clear bad good
            go_wp2_with (go_at_call 160; refine (zc7 p s 21 _ hrj).mono ?_; rintro e w2 ⟨rfl, hb2, hr2⟩)
            rw [Exit.noGoto_ret]
            go_ret
            exact done _ e hb2 hr2
          . by_cases h2 : most < (V : Int)
            . have e := bad (.inr (.inr h2))
              clear bad good
              go_wp2_with (go_at_call 160; refine (zc7 p s 21 _ hrj).mono ?_; rintro e w2 ⟨rfl, hb2, hr2⟩)
              rw [Exit.noGoto_ret]
              go_ret
              exact done _ e hb2 hr2
            . have e := good (by
               rintro (h | h | h)
               . exact absurd h (by decide)
               . omega
               . omega)
              have f0 := zac hheap 0
              have hsub := hby.sub (k + 1) s.left.length (by omega) (Nat.le_refl _)
              rw [List.take_length] at hsub
              have hsl : ∀ w' : World, (Instr.sliceAt 141 (.slice (some ⟨b, off, none⟩) s.left.length c3) (some (.int .i64 ((k : Int) + 1))) none none).run Tryz.prog w' = .ok (.slice (if c3 = k + 1 then (some ⟨b, off, none⟩ : Option Addr) else (some ⟨b, off, none⟩ : Option Addr).map (·.add (k + 1))) (s.left.length - (k + 1)) (c3 - (k + 1))) w' := fun w' =>
               zd7 (P := Tryz.prog) Tryz.underlying141 (by kernel_rfl) (k + 1) (by omega) .i64
              have hlow : Low (if c3 = k + 1 then (some ⟨b, off, none⟩ : Option Addr) else (some ⟨b, off, none⟩ : Option Addr).map (·.add (k + 1))) p := hlw1.sub _ _
              generalize hx1 : (if c3 = k + 1 then (some ⟨b, off, none⟩ : Option Addr) else (some ⟨b, off, none⟩ : Option Addr).map (·.add (k + 1))) = x1 at *
              generalize hx2 : s.left.length - (k + 1) = x2 at *
              generalize hx3 : c3 - (k + 1) = x3 at *
              clear hx1 hx2 hx3 bad good done
              have hplt := HR.out.lt
              have hpc : ∀ (i : Nat) (v : Value), ((w1.drewN i).setCell ⟨p, 0, none⟩ v).cell? ⟨w.heap.size + 1, 0, none⟩ = some (.int .i64 (V : Int)) := by
               intro i v
               rw [World.cell?_of_block (w := w1.drewN i) (Below.heap_setCell _ _ _ _ (by show w.heap.size + 1 ≠ p; omega))]
               exact c2
              go_wp2
              go_region
              go_wp2
              rw [Exit.noGoto_ret]
              go_ret
              rw [e]
              have hheap' : (w1.drewN (j + 1)).heap[p]? = some (.cells #[.slice (some ⟨b, off, none⟩) s.left.length c3, .int .i64 s.err] 239 (0, 0)) := hheap
              have hg := heap_setCell hheap' 0 (.slice x1 x2 x3)
              have hbut : But p (w1.drewN (j + 1)) ((w1.drewN (j + 1)).setCell ⟨p, 0, none⟩ (.slice x1 x2 x3)) := (But.refl _ _).setCell 0 none _
              refine ⟨rfl, (Ext.but (hE1.trans (Ext.drewN _ _)) p).trans hbut, RD.store (by simpa using hg) ?_ hlow⟩
              exact (hsub.below (Ext.drewN w1 (j + 1))).off hheap' no_u8 hbut
      . have hx1 : ¬ (s.left[k].toNat : Int) < 128 := by omega
        have hlead : k + 1 <= Pack.lead s.left := by
         rcases Nat.lt_or_ge k (Pack.lead s.left) with h | h
         . exact h
         . have e : Pack.lead s.left = k := by omega
           have := Pack.lead_small s.left (by omega)
           simp only [e] at this
           exact absurd this hx
        clear h9 hm hby hheap hl
        go_wp2
        go_quiet (fail)
        go_wp2_with (go_at_call 159; refine (htk _).mono ?_; rintro e w1 ⟨rfl, hb1, d1, d2⟩)
        have hT : Took p s w w1 (k + 1) (n + 128 ^ k * (s.left[k].toNat % 128)) := T.out.step hb1 d1 d2 (by omega) hlead hlt rfl
        have cc := zaa d1 0
        refine ⟨⟨_, _, hT⟩, ?_⟩
        simp at cc
        have cc' : w1.cell? ⟨w.heap.size + 2, 0, none⟩ = some (.int .i64 ((k : Int) + 1)) := cc
        rw [cc', c1]
        simp only []
        omega
theorem zop (l : List UInt8) : (ByteArray.mk l.toArray).size = l.length := by simp [ByteArray.size]
set_option maxRecDepth 100000 in
set_option maxHeartbeats 2000000 in
theorem zrj (p : Nat) (s : Pack.St) (most : Int) (w : World) (h : RD w p s) :
 Calls Tryz.prog 142 #[.pointer (some ⟨p, 0, none⟩), .int .i64 most] w (Turns p w (.string ⟨(s.text most).2.toArray⟩) (s.text most).1) := by
 obtain ⟨t, n, ht⟩ : ∃ t n, s.num most = (t, n) := ⟨_, _, rfl⟩
 have hnum := zcp p s most w h
 have hn63 : n < 9223372036854775808 := by
  have e : n = (s.num most).2 := by rw [ht]
  rw [e]
  unfold Pack.St.num
  split
  . simp
  . split
    . simp
    . split
      . simp
      . rename_i h1 h2 h3
        have := Pack.val_lt (s.left.take (Pack.lead s.left + 1))
        simp only [Pack.wrong] at h3
        omega
 rw [ht] at hnum
 by_cases hlt : t.left.length < n
 . have e : s.text most = (t.fail 20, []) := by unfold Pack.St.text; rw [ht]; simp only []; rw [if_pos hlt]
   have hq : (t.left.length : Int) < (n : Int) := by omega
   rw [e]
   clear e hlt
   go_enter Tryz.func142, Tryz.ntmps142
   go_wp2_with (go_at_call 140; refine hnum.mono ?_; rintro e w1 ⟨rfl, hb1, hr1⟩; have hrr := hr1; obtain ⟨a, m, c, hheap, hby, hlw⟩ := hr1; have cr := zaa hheap 0; have hm := hby.len.1; subst hm; simp at cr)
   refine (zc7 p t 20 _ hrr).mono ?_
   rintro e w2 ⟨rfl, hb2, hr2⟩
   go_wp2
   go_ret
   exact ⟨rfl, hb1.trans hb2, hr2⟩
 . have e : s.text most = (⟨t.left.drop n, t.err⟩, t.left.take n) := by unfold Pack.St.text; rw [ht]; simp only []; rw [if_neg hlt]
   have hq : ¬ (t.left.length : Int) < (n : Int) := by omega
   rw [e]
   have hle : n <= t.left.length := by omega
   clear e hlt
   go_enter Tryz.func142, Tryz.ntmps142
   go_wp2_with (go_at_call 140; refine hnum.mono ?_; rintro e w1 ⟨rfl, hb1, hr1⟩; have hrr := hr1; obtain ⟨a, m, c, hheap, hby, hlw⟩ := hr1; have cr := zaa hheap 0; have f0 := zac hheap 0; have hln := hby.len; obtain ⟨hm, hmc, hc63⟩ := hln; subst hm; simp at cr; have hsub := hby.sub n t.left.length hle (Nat.le_refl _); rw [List.take_length] at hsub; have hst := zk0 (P := Tryz.prog) 141 9 5 Tryz.underlying141 Tryz.underlying5 Tryz.underlying9 (hby.take n hle); have hsl0 := fun w' : World => zet (P := Tryz.prog) (w := w') Tryz.underlying141 (by kernel_rfl) (a := a) (n := t.left.length) (cap := c) n (by omega) .i64; have hsl := fun w' : World => zd7 (P := Tryz.prog) (w := w') Tryz.underlying141 (by kernel_rfl) (a := a) (n := t.left.length) (cap := c) n hle .i64; have hlow : Low (if c = n then a else a.map (·.add n)) p := hlw.sub _ _; generalize (if c = n then a else a.map (·.add n)) = x1 at hsl hsub hlow; generalize t.left.length - n = x2 at hsl hsub; generalize c - n = x3 at hsl hsub)
   go_ret
   have hg := heap_setCell hheap 0 (.slice x1 x2 x3)
   have hbut : But p w1 (w1.setCell ⟨p, 0, none⟩ (.slice x1 x2 x3)) := (But.refl _ _).setCell 0 none _
   exact ⟨rfl, hb1.trans hbut, RD.store (by simpa using hg) (hsub.off hheap no_u8 hbut) hlow⟩
theorem zrd (n : Nat) : nums [(n : Int)] = Pack.num n := by simp [nums]
theorem zs1 (n : Int) : [n].all okNum = okNum n := by simp
def PartAt (w : World) (b o : Nat) (p : Pack.Part) : Prop :=
 w.cell? ⟨b, o, none⟩ = some (.int .i64 p.kind) /\ w.cell? ⟨b, o + 1, none⟩ = some (.int .i64 p.n) /\ w.cell? ⟨b, o + 2, none⟩ = some (.int .i64 p.most) /\ w.cell? ⟨b, o + 3, none⟩ = some (.string ⟨p.s.toArray⟩) /\ w.cell? ⟨b, o + 4, none⟩ = some (.bool p.is)
theorem PartAt.of {w w' : World} {b o : Nat} {p : Pack.Part} (h : PartAt w b o p) (hb : w'.heap[b]? = w.heap[b]?) : PartAt w' b o p := by
 obtain ⟨h1, h2, h3, h4, h5⟩ := h
 have key : ∀ i, w'.cell? ⟨b, i, none⟩ = w.cell? ⟨b, i, none⟩ := fun i => World.cell?_of_block (w := w) hb
 exact ⟨(key _).trans h1, (key _).trans h2, (key _).trans h3, (key _).trans h4, (key _).trans h5⟩
def Parts (w : World) (v : Value) (ps : List Pack.Part) : Prop :=
 ∃ (a : Option Addr) (cap : Nat), v = .slice a ps.length cap /\ ps.length <= cap /\ cap <= maxLen /\ (∀ i (h : i < ps.length), ps[i].s.length <= maxLen) ∧
  ∀ i (h : i < ps.length), ∃ b off, a = some ⟨b, off, none⟩ /\ PartAt w b (off + i * 5) ps[i]
theorem Parts.below {w w' : World} {v : Value} {ps : List Pack.Part} (h : Parts w v ps) (hb : Below w.heap.size w w') : Parts w' v ps := by
 obtain ⟨a, cap, rfl, h1, h2, h4, h3⟩ := h
 refine ⟨a, cap, rfl, h1, h2, h4, fun i hi => ?_⟩
 obtain ⟨b, off, e, hc⟩ := h3 i hi
 exact ⟨b, off, e, hc.of (hb.block b (World.block_lt_of_cell? w _ hc.1))⟩
theorem Own.mono {w : World} {b b' : Nat} {v : Value} {l : List UInt8} (h : Own w b v l) (hb : b' <= b) : Own w b' v l := by
 obtain ⟨h1, h | ⟨g, cap, cur, e, hg, r⟩⟩ := h
 . exact ⟨h1, .inl h⟩
 . exact ⟨h1, .inr ⟨g, cap, cur, e, Nat.le_trans hb hg, r⟩⟩
theorem Own.ext {w w' : World} {b : Nat} {v : Value} {l : List UInt8} (h : Own w b v l) (hb : Ext w w') : Own w' b v l := by
 obtain ⟨h1, h | ⟨g, cap, cur, e, hg, hh, r⟩⟩ := h
 . exact ⟨h1, .inl h⟩
 . exact ⟨h1, .inr ⟨g, cap, cur, e, hg, by rw [hb.block g (Array.getElem?_eq_some_iff.1 hh).1]; exact hh, r⟩⟩
theorem Ints.two (w : World) (o : Obj) (n : Int) : Ints ((w.alloc o).alloc (.cells #[.int .i64 n] 3)) (.slice (some ⟨w.heap.size + 1, 0, none⟩) 1 1) [n] := by
 have := Ints.one (w.alloc o) n
 rwa [World.size_alloc] at this
theorem But.low {p : Nat} {a b c : World} (h : But p a b) (k : Below a.heap.size b c) : But p a c :=
 ⟨k.os.trans h.os, k.tape.trans h.tape, k.output.trans h.output, Nat.le_trans h.size k.size, fun i hi hp => (k.block i hi).trans (h.block i hi hp)⟩
theorem RD.off {w w' : World} {p q : Nat} {s : Pack.St} {cs : Array Value} {T : TypeId} {fr : Nat × Nat} (h : RD w p s) (hq : w.heap[q]? = some (.cells cs T fr)) (hx : ∀ n, Value.int .u8 n ∉ cs.toList) (hne : p ≠ q) (hb : But q w w') : RD w' p s := by
 have hlt := h.lt
 obtain ⟨a, n, c, h1, h2, h3⟩ := h
 exact ⟨a, n, c, by rw [hb.block p hlt hne]; exact h1, h2.off hq hx hb, h3⟩
def lastOf (l : List UInt8) : Int := if Pack.lead l < l.length /\ Pack.lead l < 9 then (Pack.lead l : Nat) else -1
theorem zad {w w' : World} {q : Nat} {o : Obj} (h : w.heap[q]? = some o) (hb : Ext w w') : w'.heap[q]? = some o := by
 rw [hb.block q (Array.getElem?_eq_some_iff.1 h).1]; exact h
theorem zev (w : World) (x y : Obj) : ((w.alloc x).alloc y).heap[w.heap.size]? = some x /\ ((w.alloc x).alloc y).heap[w.heap.size + 1]? = some y := by
 have s1 : (w.alloc x).heap.size = w.heap.size + 1 := World.size_alloc _ _
 refine ⟨?_, ?_⟩
 . rw [Below.heap_alloc _ _ _ (by rw [s1]; omega)]; exact heap_alloc_new _ _
 . rw [<- s1]; exact heap_alloc_new _ _
theorem zf3 (w : World) (x y : Obj) : Ext w ((w.alloc x).alloc y) := (Ext.alloc _ _).trans (Ext.alloc _ _)
set_option maxRecDepth 100000
theorem Yield.load {P : Program} {o : Oper} {ev : Operand -> Value} {w : World} {R : Value -> World -> Prop} {t : TypeId} {x : Operand} {u v : Value} {w' : World} (ho : o.op = .load t x) (hx : ev x = u) (hr : (Instr.loadAt t u).run P w = .ok v w') (h : R v w') : Yield P o ev w R := by
 unfold Yield execOp
 simp only [ho, hx, Sem.run_bind, hr, Result.andThen_ok, Sem.run_pure]
 exact h
theorem ldInt {w : World} {q i : Nat} {n : Int} (h : w.cell? ⟨q, i, none⟩ = some (.int .i64 n)) : (Instr.loadAt 3 (.pointer (some ⟨q, i, none⟩))).run Tryz.prog w = .ok (.int .i64 n) w := by simp [go_sem, h]
theorem zs8 {w : World} {q i : Nat} {a : Option Addr} {n c : Nat} (h : w.cell? ⟨q, i, none⟩ = some (.slice a n c)) : (Instr.loadAt 22 (.pointer (some ⟨q, i, none⟩))).run Tryz.prog w = .ok (.slice a n c) w := by simp [go_sem, h]
theorem zaj {w : World} {base q n size : Nat} {e t : TypeId} {v : Value} {xs : List Value} {cs : Array Value} {fr : Nat × Nat} (ho : w.ownsRow base e size v n xs) (hq : w.heap[q]? = some (.cells cs t fr)) (hte : t ≠ e) : some q ≠ v.ownBlock := by
 rcases ho.2 with ⟨rfl, _⟩ | ⟨g, cap, cur, rfl, _, hgb, _⟩
 . simp [Value.ownBlock]
 . intro e'
   obtain rfl : q = g := by simpa [Value.ownBlock] using e'
   rw [hq] at hgb
   simp at hgb
   exact hte hgb.2.1
theorem za2 (W : World) (b o : Nat) (v : Value) : But b W (W.setCell ⟨b, o, none⟩ v) := (But.refl _ _).setCell o none v
theorem zbe {w w' : World} {p base n size : Nat} {e : TypeId} {v : Value} {xs : List Value} (ho : w.ownsRow base e size v n xs) (hne : some p ≠ v.ownBlock) (hb : But p w w') : w'.ownsRow base e size v n xs :=
 ho.kept (row := some p) ⟨hb.os, hb.tape, hb.output, hb.size, fun k hk hkp => hb.block k hk (fun e => hkp (by rw [e]))⟩ (.inr (Ne.symm hne))
theorem za0 {w w' : World} {base n size : Nat} {e : TypeId} {v : Value} {xs : List Value} (ho : w.ownsRow base e size v n xs) (hE : Ext w w') : w'.ownsRow base e size v n xs :=
 ho.kept (row := none) ⟨hE.os, hE.tape, hE.output, hE.size, fun k hk _ => hE.block k hk⟩ (by
  rcases ho.2 with ⟨rfl, _⟩ | ⟨g, cap, cur, rfl, _⟩
  . exact .inl rfl
  . exact .inr (by simp [Value.ownBlock]))
theorem zaw {w : World} {b b' n size : Nat} {e : TypeId} {xs : List Value} {v : Value} (h : w.ownsRow b e size v n xs) (hb : b' <= b) : w.ownsRow b' e size v n xs := by
 refine ⟨h.1, ?_⟩
 rcases h.2 with h | ⟨g, c, cur, h1, h2, h3⟩
 . exact .inl h
 . exact .inr ⟨g, c, cur, h1, Nat.le_trans hb h2, h3⟩
theorem zao {w : World} {base n size : Nat} {e : TypeId} {v : Value} {xs : List Value} (h : w.ownsRow base e size v n xs) : ∃ a n c, v = .slice a n c := by
 rcases h.2 with ⟨rfl, _⟩ | ⟨g, c, cur, rfl, _⟩
 . exact ⟨_, _, _, rfl⟩
 . exact ⟨_, _, _, rfl⟩
theorem RD.setBehind {w : World} {p q o : Nat} {s : Pack.St} {v : Value} (h : RD w p s) (hpq : p < q) : RD (w.setCell ⟨q, o, none⟩ v) p s :=
 h.keep fun k hk => Below.heap_setCell _ _ _ k (by show k ≠ q; omega)
theorem zn1 (s : Pack.St) (most : Int) (h : 0 <= most) : ((s.num most).2 : Int) <= most := by
 unfold Pack.St.num
 split
 . exact h
 . split
   . exact h
   . split
     . exact h
     . rename_i h3
       unfold Pack.wrong at h3
       simp only
       omega
theorem zd9 {n : Int} (h : 0 <= n /\ n <= 4611686018427387904) : okNum n = true := by
 unfold okNum
 rw [decide_eq_true_eq]
 omega
def orErr (e : Int) : Bool -> Int
 | true => 0
 | false => e
@[simp] theorem orErr_true (e : Int) : orErr e true = 0 := rfl
@[simp] theorem orErr_false (e : Int) : orErr e false = e := rfl
theorem runTo {P : Program} {w : World} {t e : TypeId} {size : Nat} (ht : P.underlying t = some (.slice e)) (hs : (P.info? e).map (·.size) = some size) {a : Option Addr} {n cap : Nat} (h : Nat) (hh : h <= cap) (k : IntKind) :
 (Instr.sliceAt t (.slice a n cap) none (some (.int k (h : Int))) none).run P w = .ok (.slice a h cap) w := by
 have he : P.elem t = e := by simp [Program.elem, ht]
 have ht' : P.underlying t = some (.slice (P.elem t)) := by rw [he]; exact ht
 obtain ⟨i, hi, h1⟩ := Option.map_eq_some_iff.1 hs
 rw [run_sliceAt_slice w t _ _ _ _ ht', run_slice_h w t a n cap ht' k h (by omega) (by omega)]
 simp [sizeOf, typeInfo, he, hi, Result.andThen, sliced, Addr.add]
def IRows (w : World) (v : Value) (ls : List (List Int)) : Prop :=
 ∃ xs : List Value, Sl w v xs /\ xs.length = ls.length /\ ∀ i (h : i < xs.length) (h' : i < ls.length), Ints w xs[i] ls[i]
theorem IRows.below {w w' : World} {v : Value} {ls : List (List Int)} (h : IRows w v ls) (hb : Below w.heap.size w w') : IRows w' v ls := by
 obtain ⟨xs, h1, h2, h3⟩ := h
 exact ⟨xs, h1.below hb, h2, fun i h h' => (h3 i h h').below hb⟩
theorem IRows.open {w : World} {v : Value} {ls : List (List Int)} (h : IRows w v ls) : ∃ (a : Option Addr) (cap : Nat), v = .slice a ls.length cap /\ ls.length <= cap /\ cap <= maxLen ∧
 ∀ i (hi : i < ls.length), ∃ b off x, a = some ⟨b, off, none⟩ /\ w.cell? ⟨b, off + i, none⟩ = some x /\ Ints w x ls[i] := by
 obtain ⟨xs, ⟨a, cap, rfl, h1, h2, _, h3⟩, h4, h5⟩ := h
 refine ⟨a, cap, by rw [h4], by omega, h2, fun i hi => ?_⟩
 obtain ⟨b, off, e, hc⟩ := h3 i (by omega)
 exact ⟨b, off, xs[i]'(by omega), e, hc, h5 i (by omega) hi⟩
theorem IRows.mk {w : World} (vs : List Value) (ls : List (List Int)) (e : TypeId) (n : Nat) (h1 : vs.length = n) (h2 : ls.length = n) (hn : n <= maxLen) (h : ∀ i (h : i < vs.length) (h' : i < ls.length), Ints w vs[i] ls[i]) :
 IRows (w.alloc (.cells vs.toArray e)) (.slice (some ⟨w.heap.size, 0, none⟩) n n) ls :=
 ⟨vs, Sl.made w vs e n h1 hn (fr := (0, 0)), by omega, fun i h3 h4 => (h i h3 h4).below (Ext.alloc w _)⟩
end Go.Proofs.YtnoeconcpgdjlaaGreat
