/-
  Layer 3: bytes as a vector: mathematics, the program.
-/
import Derived.Test.YtboopfbflfimlaaVecK
import Derived.Test.YtboopfbflfimlaaVecE
namespace Go.Proofs.Ytboopfbflfimlaa
open Go.RowKit

/-- So many numbers, one behind the other. -/
def readsTo (s : Pack.St) : Nat → Pack.St × List Int
  | 0 => (s, [])
  | k + 1 => (((readsTo s k).1.num 1099511627776).1, (readsTo s k).2 ++ [(((readsTo s k).1.num 1099511627776).2 : Int)])
theorem readsTo_len (s : Pack.St) (k : Nat) : (readsTo s k).2.length = k := by
  induction k with
  | zero => rfl
  | succ k ih => simp [readsTo, ih]
def decN (l : List UInt8) : Nat := (Pack.St.num ⟨l, 0⟩ 8).2
def decS (l : List UInt8) : Pack.St × List Int := readsTo (Pack.St.num ⟨l, 0⟩ 8).1 (decN l)
def decOk (l : List UInt8) : Bool := decide (1 ≤ decN l) && ((decS l).1.done == 0)
theorem num_most (s : Pack.St) (most : Int) (h : 0 ≤ most) : ((s.num most).2 : Int) ≤ most := by
  unfold Pack.St.num
  split
  · exact h
  · split
    · exact h
    · split
      · exact h
      · rename_i h3
        unfold Pack.wrong at h3
        simp only
        omega
theorem decN_eight (l : List UInt8) : decN l ≤ 8 := by
  have := num_most ⟨l, 0⟩ 8 (by omega)
  unfold decN
  omega
theorem row_ints {w : World} {base g n : Nat} {xs : List Int} (h : w.ownsRow base 3 1 (.slice (some ⟨g, 0, none⟩) n n) n (i64s xs)) : ∃ cur : Array Value, w.heap[g]? = some (.cells cur 3 (0, 0)) ∧ cur.toList = i64s xs := by
  obtain ⟨cur, h1, _, _, h4, h5⟩ := row_cells h
  refine ⟨cur, h1, ?_⟩
  rw [← h5, List.take_of_length_le]
  rw [Array.length_toList]
  omega
theorem i64s_no_u8 (xs : List Int) : ∀ m, Value.int .u8 m ∉ i64s xs := by
  intro m h
  obtain ⟨x, _, hx⟩ := List.mem_map.1 h
  cases hx
/-- A reader stays as it is where numbers of the call's own are written. -/
theorem RD.storeRow {w : World} {p base g n k : Nat} {s : Pack.St} {xs : List Int} {x : Int} (h : RD w p s) (ho : w.ownsRow base 3 1 (.slice (some ⟨g, 0, none⟩) n n) n (i64s xs)) (hne : p ≠ g) : RD (w.setCell ⟨g, k, none⟩ (.int .i64 x)) p s := by
  have hlt := h.lt
  obtain ⟨a, m, c, h1, h2, h3⟩ := h
  obtain ⟨cur, hc, hl⟩ := row_ints ho
  have hb : But g w (w.setCell ⟨g, k, none⟩ (.int .i64 x)) := (But.refl g w).setCell k none _
  exact ⟨a, m, c, by rw [hb.block p hlt hne]; exact h1, h2.off hc (by rw [hl]; exact i64s_no_u8 xs) hb, h3⟩
/-- Numbers of the call's own stay as they are where a reader goes on. -/
theorem row_but {w w' : World} {p base g n cap : Nat} {xs : List Value} (ho : w.ownsRow base 3 1 (.slice (some ⟨g, 0, none⟩) n cap) n xs) (hne : p ≠ g) (hb : But p w w') : w'.ownsRow base 3 1 (.slice (some ⟨g, 0, none⟩) n cap) n xs :=
  ho.kept (row := some p) ⟨hb.os, hb.tape, hb.output, hb.size, fun k hk hkp => hb.block k hk (fun e => hkp (by rw [e]))⟩ (.inr (by simp [Value.ownBlock]; omega))

set_option maxRecDepth 100000 in
set_option maxHeartbeats 1000000 in
theorem zeroN_any (m : Nat) (w : World) (h1 : 1 ≤ m) (h8 : m ≤ 8) : Calls Try.prog 52 #[.int .i64 (m : Int)] w fun e w' => e = .returned (.slice (some ⟨w.heap.size, 0, none⟩) m m) ∧ w'.ownsRow w.heap.size 3 1 (.slice (some ⟨w.heap.size, 0, none⟩) m m) m (i64s (List.replicate m 0)) ∧ Ext w w' := by
  have hm2 : 8 * m ≤ 281474976710656 := by omega
  have g1 : ¬ (m : Int) < 1 := by omega
  have g2 : ¬ (8 : Int) < (m : Int) := by omega
  go_enter Try.func52, Try.ntmps52
  go_wp2_with (refine wpList_mkfull rfl (.tmp 9) (.tmp 9) tI rfl w.heap.size m rfl rfl hm2 (by unfold maxLen; omega) (Nat.le_refl _) ?_; intro w1 hown1 hg1)
  go_ret
  exact ⟨rfl, by rw [made_zeros] at hown1; exact hown1, (Below.refl _ w).grown hg1 (Nat.le_refl _) (fun k hk => by cases hk)⟩

set_option maxRecDepth 100000 in
set_option maxHeartbeats 1000000 in
theorem zero0_any (w : World) : Calls Try.prog 52 #[.int .i64 0] w fun e w' => e = .returned (.slice none 0 0) ∧ w = w' := by
  go_enter Try.func52, Try.ntmps52
  go_wp2
  go_ret
  exact ⟨rfl, rfl⟩

/-- What is there when k numbers are read. -/
def readRow (s : Pack.St) (m k : Nat) : List Int := (readsTo s k).2 ++ List.replicate (m - k) 0
theorem readRow_zero (s : Pack.St) (m : Nat) : readRow s m 0 = List.replicate m 0 := by simp [readRow, readsTo]
theorem readRow_all (s : Pack.St) (m : Nat) : readRow s m m = (readsTo s m).2 := by simp [readRow]
theorem readRow_succ (s : Pack.St) (m k : Nat) (hk : k < m) : readRow s m (k + 1) = (readRow s m k).set k (((readsTo s k).1.num 1099511627776).2 : Int) := by
  have hz := readsTo_len s k
  unfold readRow
  rw [List.set_append_right _ _ (by omega), hz, Nat.sub_self]
  rw [show m - k = (m - (k + 1)) + 1 from by omega, List.replicate_succ, List.set_cons_zero]
  simp [readsTo]

def GivesDec (w : World) (l : List UInt8) (e : Ending) (w' : World) : Prop := ∃ u, e = .returned (.tuple #[u, .int .i64 (formErr (decOk l))]) ∧ Ints w' u (orNone (decOk l) (decS l).2) ∧ Ext w w'

/-- The same, and what is read is the call's own. -/
def GivesDecO (w : World) (l : List UInt8) (e : Ending) (w' : World) : Prop := ∃ u, e = .returned (.tuple #[u, .int .i64 (formErr (decOk l))]) ∧ w'.ownsRow w.heap.size 3 1 u (orNone (decOk l) (decS l).2).length (i64s (orNone (decOk l) (decS l).2)) ∧ Ext w w'
theorem GivesDecO.any {w w' : World} {l : List UInt8} {e : Ending} (h : GivesDecO w l e w') : GivesDec w l e w' := by
  obtain ⟨u, he, ho, hE⟩ := h
  exact ⟨u, he, Sl.ofOwn ho, hE⟩
theorem rowLowerI {w : World} {b b' n : Nat} {e : TypeId} {xs : List Value} {v : Value} (h : w.ownsRow b e 1 v n xs) (hb : b' ≤ b) : w.ownsRow b' e 1 v n xs := by
  refine ⟨h.1, ?_⟩
  rcases h.2 with h | ⟨g, c, cur, h1, h2, h3⟩
  · exact .inl h
  · exact .inr ⟨g, c, cur, h1, Nat.le_trans hb h2, h3⟩
theorem rowKeptI {w w' : World} {b n : Nat} {e : TypeId} {xs : List Value} {v : Value} (h : w.ownsRow b e 1 v n xs) (hE : Ext w w') : w'.ownsRow b e 1 v n xs :=
  h.kept hE.grown (by
    rcases h.2 with ⟨rfl, _⟩ | ⟨g, cap, cur, rfl, _⟩
    · exact .inl rfl
    · exact .inr (by simp [Value.ownBlock]))

set_option maxRecDepth 100000 in
set_option maxHeartbeats 8000000 in
theorem decode_own (v : Value) (l : List UInt8) (w : World) (hv : Bytes w v l) (hl : l.length ≤ 140737488355328) :
    Calls Try.prog 43 #[v] w (GivesDecO w l) := by
  have HV := Lib.hid hv
  obtain ⟨a, cap, rfl, hcap, hmax, hn, hc⟩ := hv.open
  unfold maxLen at hmax
  clear hv hc
  have e1 := fun (w : World) (a : Option Addr) (n c : Nat) => Lib.run_eql_slice_nil (P := Try.prog) w 22 3 a n c 0 0 Try.underlying22
  have hm8 := decN_eight l
  have hdn : (Pack.St.num ⟨l, 0⟩ 8).2 = decN l := rfl
  have hds : decS l = readsTo (Pack.St.num ⟨l, 0⟩ 8).1 (decN l) := rfl
  obtain ⟨s1, hs1⟩ : ∃ s1, (Pack.St.num ⟨l, 0⟩ 8).1 = s1 := ⟨_, rfl⟩
  rw [hs1] at hds
  have HDN := Lib.hid hdn
  have HS1 := Lib.hid hs1
  have HDS := Lib.hid hds
  clear hdn hs1 hds
  unfold GivesDecO
  by_cases h0 : decN l = 0
  · have hok : decOk l = false := by unfold decOk; rw [h0]; rfl
    rw [hok]
    have H0 := Lib.hid h0
    clear h0 hok
    go_enter Try.func43, Try.ntmps43
    go_wp2_with fail
    refine (newReader_any _ l _ HV.out hl).mono ?_
    rintro e w1 ⟨p, rfl, hp, hr1, hE1⟩
    go_wp2_with fail
    refine (num_any p _ 8 _ hr1).mono ?_
    rw [HDN.out, H0.out]
    rintro e w2 ⟨rfl, hB2, hr2⟩
    go_wp2_with fail
    refine (zero0_any _).mono ?_
    rintro e w3 ⟨rfl, rfl⟩
    go_wp2_with fail
    go_loop [6, 14] (fun _ i => i = .int .i64 0) (fun _ _ => 0)
    case atStart => rfl
    case round =>
      obtain rfl := hrel
      go_wp2
      go_ret2
      exact ⟨_, rfl, World.ownsRow_nil _ _ _ _, Below.trans (B := w.heap.size) hE1 (hB2.below hp hE1.size)⟩
  · have hm1 : 1 ≤ decN l := by omega
    obtain ⟨m, hm⟩ : ∃ m, decN l = m := ⟨_, rfl⟩
    rw [hm] at hm1 hm8 HDN HDS
    have HM := Lib.hid hm
    clear hm h0
    go_enter Try.func43, Try.ntmps43
    go_wp2_with fail
    refine (newReader_any _ l _ HV.out hl).mono ?_
    rintro e w1 ⟨p, rfl, hp, hr1, hE1⟩
    go_wp2_with fail
    refine (num_any p _ 8 _ hr1).mono ?_
    rw [HDN.out, HS1.out]
    rintro e w2 ⟨rfl, hB2, hr2⟩
    have hplt := hr2.lt
    have hE2 : Ext w w2 := Below.trans (B := w.heap.size) hE1 (hB2.below hp hE1.size)
    go_wp2_with fail
    refine (zeroN_any m _ hm1 hm8).mono ?_
    rintro e w3 ⟨rfl, ho3, hE3⟩
    have hr3 := hr2.ext hE3
    have e3 : Ext w w3 := hE2.trans hE3
    obtain ⟨g, hg⟩ : ∃ g, w2.heap.size = g := ⟨_, rfl⟩
    rw [hg] at ho3 hplt ⊢
    have hpg : p ≠ g := by omega
    have hwg : w.heap.size ≤ g := by rw [← hg]; exact hE2.size
    clear hg
    go_wp2_with fail
    go_loopw [6, 14] (fun _ i wr => ∃ k : Nat, k ≤ m ∧ i = .int .i64 k ∧ wr.ownsRow g 3 1 (.slice (some ⟨g, 0, none⟩) m m) m (i64s (readRow s1 m k)) ∧ RD wr p (readsTo s1 k).1 ∧ Ext w wr) (fun _ i _ => m - (intOf i).toNat)
    case atStart => exact ⟨0, by omega, rfl, by rw [readRow_zero]; exact ho3, hr3, e3⟩
    case round =>
      obtain ⟨k, hk, rfl, ho, hr, hE⟩ := hrel
      by_cases hlt : k < m
      · have hnum := num_any p _ 1099511627776 _ hr
        have HN := Lib.hid hnum
        clear hnum
        go_wp2_with fail
        refine HN.out.mono ?_
        rintro e w4 ⟨rfl, hB4, hr4⟩
        have ho4 := row_but ho hpg hB4
        obtain ⟨cur, hcur, hcl⟩ := row_ints ho4
        have hlen4 : (readRow s1 m k).length = m := by unfold readRow; simp [readsTo_len]; omega
        obtain ⟨y, hco⟩ : ∃ y, w4.cell? ⟨g, k, none⟩ = some (.int .i64 y) := by
          refine ⟨(readRow s1 m k)[k]'(by omega), ?_⟩
          rw [ho4.cellAt k (by omega)]
          simp [i64s]
        have hfo := ho4.frozenAt k
        obtain ⟨x, hx⟩ : ∃ x : Int, (((readsTo s1 k).1.num 1099511627776).2 : Int) = x := ⟨_, rfl⟩
        have hst := (ho4.stored k (.int .i64 x)).1
        rw [← i64s_set2, ← hx, ← readRow_succ s1 m k hlt, hx] at hst
        have hr5 := hr4.storeRow (k := k) (x := x) ho4 hpg
        have hE4 : Ext w w4 := Below.trans (B := w.heap.size) hE (hB4.below hp hE.size)
        rw [hx]
        have HST := Lib.hid hst
        clear hst hcur hcl ho4 ho hx hr4 hr
        go_wp2_with fail
        go_roundw
        case rel => exact ⟨k + 1, by omega, by go_num, HST.out, hr5, hE4.setCell (p := ⟨g, k, none⟩) hwg _⟩
        case measure => simp [intOf]; omega
      · obtain rfl : k = m := by omega
        have hend := end_any p _ _ hr
        have hI : wr.ownsRow w.heap.size 3 1 (.slice (some ⟨g, 0, none⟩) k k) (readsTo s1 k).2.length (i64s (readsTo s1 k).2) := by
          rw [readRow_all] at ho
          rw [readsTo_len]
          exact rowLowerI ho hwg
        have HI := Lib.hid hI
        have HEND := Lib.hid hend
        obtain ⟨d, hd⟩ : ∃ d, (readsTo s1 k).1.done = d := ⟨_, rfl⟩
        have hok : decOk l = (d == 0) := by
          unfold decOk
          rw [HM.out, HDS.out, hd, decide_eq_true hm1]
          rfl
        rw [hd] at HEND
        by_cases hd0 : d = 0
        · subst hd0
          rw [show ((0 : Int) == 0) = true from rfl] at hok
          have HOK := Lib.hid hok
          clear hok hd hI hend
          go_wp2_with fail
          refine HEND.out.mono ?_
          rintro e w6 ⟨rfl, rfl⟩
          go_wp2_with fail
          go_ret2
          exact ⟨_, by rw [HOK.out]; rfl, by rw [HOK.out, HDS.out]; exact HI.out, hE⟩
        · have hd1 : (d == 0) = false := by rw [beq_eq_false_iff_ne]; exact hd0
          rw [hd1] at hok
          have HOK := Lib.hid hok
          clear hok hd hI hend hd0
          go_wp2_with fail
          refine HEND.out.mono ?_
          rintro e w6 ⟨rfl, rfl⟩
          go_wp2_with fail
          go_ret2
          exact ⟨_, by rw [HOK.out]; rfl, by rw [HOK.out]; exact World.ownsRow_nil _ _ _ _, hE⟩
theorem decode_any (v : Value) (l : List UInt8) (w : World) (hv : Bytes w v l) (hl : l.length ≤ 140737488355328) :
    Calls Try.prog 43 #[v] w (GivesDec w l) := (decode_own v l w hv hl).mono fun _ _ h => h.any
end Go.Proofs.Ytboopfbflfimlaa
