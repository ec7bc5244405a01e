/-
  Layer 6, the program: all that order or keep.
-/
import Derived.Test.YtpfodkgncachiaaTrmB
import Derived.Test.YtpfodkgncachiaaLibO
import Derived.Test.YtpfodkgncachiaaKeysI
import Derived.Maps.OwnSet
import Derived.Laws.OwnMore
namespace Go.Proofs.Ytpfodkgncachiaa
set_option linter.unusedSimpArgs false
set_option linter.unusedVariables false
set_option maxRecDepth 100000
open Go.RowKit Go.Shelf Go.Maps

/-- slices.Sort's two contracts at this program, at the fence that asks nothing. -/
theorem sorts6 (m : Nat) : AnyZI.SortsIn Try.prog sortedIntsL_ren Fence.wide m :=
  ⟨fun blk off cap ss W hH hblk hsz => callsIn_wide.2 (AnyM.slices_Sort_int sortIntsL blk off cap ss W hH hblk hsz),
   fun p cap W => callsIn_wide.2 (AnyM.slices_Sort_int_none sortIntsL p cap W)⟩
theorem keys6_any (mb : Option Nat) (w : World) : Calls Try.prog 38 #[.map mb] w fun e w' => e = .returned (.func (.func 51) #[] #[.pointer (some ⟨w.heap.size, 0, none⟩)]) ∧ w' = w.alloc (.cells #[.map mb] 64) :=
  (callsIn_wide (n := 5)).1 (AnyZI.keys_in keysIntsL Fence.wide 5 trivial rfl mb w)

set_option maxHeartbeats 1000000 in
theorem sorted6_any (b nn : Nat) (D0 : DataW Unit) (R : Value → Option (DataW Unit × List MemPlace)) (w : World) (hown : w.ownsMap Try.prog 3 R b nn D0) (hmax : Maps.size D0 ≤ maxLen) (hbytes : Maps.size D0 * 8 ≤ 140737488355328) :
    Calls Try.prog 37 #[.func (.func 51) #[] #[.pointer (some ⟨w.heap.size, 0, none⟩)]] (w.alloc (.cells #[.map (some b)] 64)) fun e w' => ∃ (v : Value) (ss : List Int), e = .returned v ∧ ss.Perm (intKeys D0) ∧
      w'.ownsRow (w.alloc (.cells #[.map (some b)] 64)).heap.size 3 1 v ss.length ((ss.mergeSort (fun x y => decide (x ≤ y))).map encZ) ∧ (v = .slice none 0 0 ↔ ss = []) ∧ Below (w.alloc (.cells #[.map (some b)] 64)).heap.size (w.alloc (.cells #[.map (some b)] 64)) w' := by
  refine (callsIn_wide (n := 6)).1 ?_
  have hbl := hown.lt
  have hseq : SeqGives Fence.wide 3 Try.prog 51 #[.pointer (some ⟨w.heap.size, 0, none⟩)] encZ (fun ss => ss.Perm (intKeys D0)) (Maps.size D0) (w.alloc (.cells #[.map (some b)] 64)) :=
    AnyZI.keys_gives (ρ := keysIntsL_ren) { keysIntsL with } Fence.wide _ trivial rfl (by omega) w.heap.size b nn D0 _ (by simp) (by simp) (by
      obtain ⟨es, clock, hb, Ft, hs, hD⟩ := hown
      exact ⟨es, clock, (Below.heap_alloc _ _ b hbl).trans hb, Ft, hs, hD⟩)
  exact AnyZI.sorted_in sortedIntsL Fence.wide 6 trivial trivial trivial trivial rfl (by omega) (sorts6 _) (enters_of Try.func50 (by kernel_rfl) rfl) 51 #[.pointer (some ⟨w.heap.size, 0, none⟩)] trivial (enters_of Try.func51 (by kernel_rfl) rfl) _ _ hmax hbytes _ hseq

/-- The set of these numbers. -/
def keysD (L : List Int) : DataW Unit := setOf (.agg []) (L.map fun x => Lit.int .i64 x)
theorem keysD_nil : keysD [] = .map [] := by simp [keysD, setOf]
theorem keysD_snoc (L : List Int) (x : Int) : keysD (L ++ [x]) = (keysD L).put (.int .i64 x) (.agg []) := by
  unfold keysD
  rw [List.map_append, List.map_cons, List.map_nil, setOf_snoc]
theorem keysD_has (L : List Int) (x : Int) : has (keysD L) (.int .i64 x) = true ↔ x ∈ L := by
  unfold keysD
  rw [has_setOf _ _ _ (by intro y hy; obtain ⟨z, _, rfl⟩ := List.mem_map.1 hy; exact trivial)]
  rw [List.any_map, List.any_eq_true]
  constructor
  · rintro ⟨y, hy, he⟩
    have : y = x := by simpa [Lit.sameKey] using he
    rw [← this]; exact hy
  · intro h
    exact ⟨x, h, by simp [Lit.sameKey]⟩
def Wf64 (x : Int) : Prop := (Lit.int .i64 x).wf = true
theorem nodes_mem (c : Term.C) (x : Int) : x ∈ Term.nodes c ↔ x ∈ Term.all c := Term.mem_nodes c x
/-- The keys of such a set, put in order, are its numbers, rising, each once. -/
theorem sortedNodes {w : World} {b n : Nat} {R : Value → Option (DataW Unit × List MemPlace)} (c : Term.C) {ss : List Int} (hown : w.ownsMap Try.prog 3 R b n (keysD (Term.all c))) (hp : ss.Perm (intKeys (keysD (Term.all c)))) : ss.mergeSort (fun x y => decide (x ≤ y)) = Term.nodes c := by
  have hr := Term.nodes_rise c
  have hnd : (Term.nodes c).Nodup := hr.imp (fun {a b} h => by omega)
  have h1 : (Term.nodes c).Perm (intKeys (keysD (Term.all c))) := CollectedI.perm (left := fun _ => false) ⟨hnd, fun x => by rw [nodes_mem, keysD_has]; simp⟩ hown (int_keyed Try.underlying3) Try.underlying3 (fun _ => rfl)
  rw [show ss.mergeSort (fun x y => decide (x ≤ y)) = (Term.nodes c).mergeSort (fun x y => decide (x ≤ y)) from mergeSort_of_perm_i (hp.trans h1.symm)]
  exact List.mergeSort_of_pairwise (hr.imp (fun {a b} h => by rw [decide_eq_true_eq]; omega))

theorem Sl.butMap {w w' : World} {B : Nat} {v : Value} {xs : List Value} {es : Array MapEntry} {cl : Nat} (h : Sl w v xs) (hm : w.heap[B]? = some (.map es cl)) (hB : But B w w') : Sl w' v xs := by
  obtain ⟨a, cap, e, h1, h2, h3, h4⟩ := h
  refine ⟨a, cap, e, h1, h2, h3, fun i hi => ?_⟩
  obtain ⟨b, off, e2, hc⟩ := h4 i hi
  have hb : b < w.heap.size := World.block_lt_of_cell? w _ hc
  have hne : b ≠ B := by
    rintro rfl
    simp [World.cell?, hm] at hc
  exact ⟨b, off, e2, (World.cell?_of_block (w := w) (hB.block b hb hne)).trans hc⟩
theorem IRows.butMap {w w' : World} {B : Nat} {v : Value} {ls : List (List Int)} {es : Array MapEntry} {cl : Nat} (h : IRows w v ls) (hm : w.heap[B]? = some (.map es cl)) (hB : But B w w') : IRows w' v ls := by
  obtain ⟨xs, h1, h2, h3⟩ := h
  exact ⟨xs, h1.butMap hm hB, h2, fun i h h' => Sl.butMap (h3 i h h') hm hB⟩
theorem ownRow1 (w : World) (x : Value) (hx : x.oneCell' = true) : (w.alloc (.cells #[x] 22)).ownsRow w.heap.size 22 1 (.slice (some ⟨w.heap.size, 0, none⟩) 1 1) 1 [x] :=
  World.ownsRow_lit (size := 1) w #[x] 1 (Nat.le_refl _) (by simp [maxLen]) (by rfl)
theorem flatTake {ls : List (List Int)} {k : Nat} (h : k < ls.length) : (ls.take (k + 1)).flatten = (ls.take k).flatten ++ ls[k] := by
  rw [take_succ_getD ls k h, List.flatten_append, List.flatten_cons, List.flatten_nil, List.append_nil]
theorem flatLe (ls : List (List Int)) (k : Nat) : (ls.take k).flatten.length ≤ ls.flatten.length := by
  have : ls.flatten = (ls.take k).flatten ++ (ls.drop k).flatten := by rw [← List.flatten_append, List.take_append_drop]
  rw [this, List.length_append]; omega
theorem flatLe2 {ls : List (List Int)} {k j : Nat} (h : k < ls.length) (hj : j ≤ ls[k].length) : ((ls.take k).flatten ++ ls[k].take j).length ≤ ls.flatten.length := by
  have h1 := flatLe ls (k + 1)
  rw [flatTake h, List.length_append] at h1
  rw [List.length_append, List.length_take]; omega
theorem flatMem {ls : List (List Int)} {k : Nat} (h : k < ls.length) {x : Int} (hx : x ∈ ls[k]) : x ∈ ls.flatten := List.mem_flatten.2 ⟨_, List.getElem_mem h, hx⟩

theorem allRows {w : World} {base : Nat} {v x : Value} {xs : List Value} {S : List Int} {D : List (List Int)} (h : w.ownsRow base 22 1 v (1 + xs.length) ([x] ++ xs)) (h2 : xs.length = D.length) (hS : Ints w x S) (hD : ∀ i (h : i < xs.length) (h' : i < D.length), Ints w xs[i] D[i]) : IRows w v (S :: D) := by
  refine ⟨[x] ++ xs, Sl.ofOwn h, by simp [h2], fun i hi hi' => ?_⟩
  cases i with
  | zero => exact hS
  | succ i => exact hD i (by simpa using hi) (by simpa using hi')

set_option maxHeartbeats 8000000 in
theorem nodes6_any (v : Value) (c : Term.C) (w : World) (hv : IsConf w v c) (hlen : (Term.all c).length ≤ 2000000) (hnr : c.shards.length ≤ 2000000) (hwf : ∀ x ∈ Term.all c, Wf64 x) :
    Calls Try.prog 19 #[v] w (fun e w' => ∃ u, e = .returned u ∧ OwnI w' w.heap.size u (Term.nodes c) ∧ Ext w w') := by
  have hbx := box_conf
  have hmm := @run_makeMap Try.prog
  have hb0 : ∀ w : World, (Instr.build 65 #[]).run Try.prog w = .ok (.agg #[]) w := fun w => by kernel_rfl
  obtain ⟨s, d, rfl, hs, hd⟩ := hv
  obtain ⟨t, S, D⟩ := c
  unfold confV
  simp only at hs hd hnr ⊢
  have HS := Lib.hid hs
  have HD := Lib.hid hd
  obtain ⟨a1, cap1, rfl, hcap1, hmax1, _, _⟩ := hs.open
  obtain ⟨a2, cap2, rfl, hcap2, hmax2, _⟩ := hd.open
  unfold maxLen at hmax1 hmax2
  clear hs hd
  have HALL := Lib.hid (show Term.all ⟨t, S, D⟩ = (S :: D).flatten by simp [Term.all])
  rw [HALL.out] at hlen hwf
  have HWF := Lib.hid hwf
  have HLEN := Lib.hid hlen
  clear hwf hlen
  have hE1 : Ext w ((w.alloc (.cells #[.int .i64 t, .slice a1 S.length cap1, .slice a2 D.length cap2] 26)).alloc (.map #[] 0)) := (Ext.alloc _ _).trans (Ext.alloc _ _)
  have HA1 := Lib.hid ((ConfAt.new 26 w t (.slice a1 S.length cap1) (.slice a2 D.length cap2)).ext (Ext.alloc _ (.map #[] 0)))
  have hm1 := World.ownsMap_made (w.alloc (.cells #[.int .i64 t, .slice a1 S.length cap1, .slice a2 D.length cap2] 26)) Try.prog 3 (unitElem (H := Unit))
  rw [World.size_alloc] at hm1
  have HM1 := Lib.hid hm1
  clear hm1
  have HS1 := Lib.hid (HS.out.below hE1)
  have HD1 := Lib.hid (HD.out.below hE1)
  obtain ⟨w0, hw0⟩ : ∃ w0, (w.alloc (.cells #[.int .i64 t, .slice a1 S.length cap1, .slice a2 D.length cap2] 26)).alloc (.map #[] 0) = w0 := ⟨_, rfl⟩
  have hz0 : w0.heap.size = w.heap.size + 1 + 1 := by rw [← hw0]; simp
  have hown0 := ownRow1 w0 (.slice a1 S.length cap1) rfl
  obtain ⟨xs, hx1, hx2, hx3⟩ := HD1.out
  rw [hw0] at hx1 hx3
  have HX2 := Lib.hid hx2
  have hone : ∀ y ∈ xs, y.oneCell' = true := by
    intro y hy
    obtain ⟨i, hi, rfl⟩ := List.getElem_of_mem hy
    exact oneSlice (by obtain ⟨ax, cx, e, _⟩ := (hx3 i hi (by omega)).open; exact ⟨_, _, _, e⟩) _ (List.mem_singleton.2 rfl)
  have HX3 := Lib.hid hx3
  have hu := hx1.below (Ext.alloc w0 (.cells #[.slice a1 S.length cap1] 22))
  have hn1 : 1 + xs.length ≤ maxLen := by rw [hx2]; unfold maxLen; omega
  have hn2 : (1 + xs.length) * 24 ≤ 140737488355328 := by rw [hx2]; omega
  have hz1 : w0.heap.size ≤ (w0.alloc (.cells #[.slice a1 S.length cap1] 22)).heap.size := (Ext.alloc w0 _).size
  rw [hw0] at hE1 HA1 HM1 HS1 HD1
  rw [hz0] at hown0 hz1
  have O0 := Lib.hid hown0
  have U0 := Lib.hid hu
  have HONE := Lib.hid hone
  have HN1 := Lib.hid hn1
  have HN2 := Lib.hid hn2
  have HZ1 := Lib.hid hz1
  have HW0 := Lib.hid hw0
  have HZ0 := Lib.hid hz0
  obtain ⟨a0, ac0, ac1, ac2⟩ : True ∧ _ := ⟨trivial, HA1.out.cells⟩
  have hb2 : ∀ W : World, W = w0 → True := fun _ _ => trivial
  clear hx1 hx2 hx3 hone hu hn1 hn2 hz1 hown0 hz0 hb2 a0
  go_enter Try.func19, Try.ntmps19
  rw [← hw0] at O0 U0 HZ1
  clear hw0 ac0 ac1 ac2
  go_wp2_with (at_builtin; refine wpList_app rfl (.tmp 11) (.tmp 13) tRow rfl rfl rfl O0.out U0.out HONE.out HN1.out HN2.out HZ1.out ?_; rw [HW0.out]; intro v2 w2 hown2 hg2; have hg2 : (w0.alloc (.cells #[.slice a1 S.length cap1] 22)).grownBy w2 (some (w.heap.size + 1 + 1)) := hg2; have hE2 : Ext w0 w2 := Below.grown (Ext.alloc w0 _) hg2 (Ext.alloc w0 _).size (fun j hj => by cases hj; exact Nat.le_of_eq HZ0.out); obtain ⟨a5, c5, rfl, hcap5, hmax5, _⟩ := (allRows hown2 HX2.out (HS1.out.below hE2) (fun i h h' => (HX3.out i h h').below hE2)).open; have HR2 := Lib.hid (allRows hown2 HX2.out (HS1.out.below hE2) (fun i h h' => (HX3.out i h h').below hE2)); unfold maxLen at hmax5)
  have e2 := hE1.trans hE2
  obtain ⟨B, hB⟩ : ∃ B, w.heap.size + 1 = B := ⟨_, rfl⟩
  rw [hB] at HM1 ⊢
  have hBw : w.heap.size ≤ B := by omega
  have HM2 := Lib.hid (show w2.ownsMap Try.prog 3 (unitElem (H := Unit)) B 0 (keysD ((S :: D).take 0).flatten) by
    rw [List.take_zero, List.flatten_nil, keysD_nil]
    exact (HM1.out.alloc _).kept hg2 (by intro e; have := Option.some.inj e; omega))
  clear hB hown2 hg2
  go_loopw [5, 7, 16] (fun _ _ i wr => ∃ k : Nat, k ≤ (S :: D).length ∧ i = .int .i64 k ∧ Hid (wr.ownsMap Try.prog 3 (unitElem (H := Unit)) B ((S :: D).take k).flatten.length (keysD ((S :: D).take k).flatten)) ∧ Hid (But B w2 wr)) (fun _ _ i _ => (S :: D).length - (intOf i).toNat)
  case atStart => exact ⟨0, by omega, rfl, HM2.out, But.refl _ _⟩
  case round =>
    obtain ⟨k, hk, rfl, hM, hBt⟩ := hrel
    obtain ⟨wo, rfl⟩ : ∃ wo, wo = wr := ⟨_, rfl⟩
    by_cases hlt : k < (S :: D).length
    · obtain ⟨es0, cl0, hb0, _⟩ := HM2.out
      obtain ⟨a6, c6, e6, _, _, hc⟩ := (HR2.out.butMap hb0 hBt.out).open
      obtain ⟨b, off, x, rfl, hcell, hx⟩ := hc k hlt
      injection e6 with e7 e8 e9
      subst e7
      clear hc e8 e9 hb0
      have HX := Lib.hid hx
      obtain ⟨ax, cx, rfl, hcx, hmx, _⟩ := hx.open
      unfold maxLen at hmx
      clear hx
      have hlt' : (k : Int) < (D.length : Int) + 1 := by have := hlt; rw [List.length_cons] at this; omega
      go_wp2_with fail
      go_loopw [7, 22] (fun _ i wi => ∃ j : Nat, j ≤ (S :: D)[k].length ∧ i = .int .i64 j ∧ Hid (wi.ownsMap Try.prog 3 (unitElem (H := Unit)) B (((S :: D).take k).flatten ++ (S :: D)[k].take j).length (keysD (((S :: D).take k).flatten ++ (S :: D)[k].take j))) ∧ Hid (But B wo wi)) (fun _ i _ => (S :: D)[k].length - (intOf i).toNat)
      case atStart => exact ⟨0, by omega, rfl, by rw [List.take_zero, List.append_nil]; exact hM.out, But.refl _ _⟩
      case round =>
        obtain ⟨j, hj, rfl, hMi, hBi⟩ := hrel
        by_cases hlt2 : j < (S :: D)[k].length
        · obtain ⟨es1, cl1, hb1, _⟩ := hM.out
          obtain ⟨a8, c8, e8, _, _, _, hc8⟩ := (show Ints wr _ _ from Sl.butMap HX.out hb1 hBi.out).open
          obtain ⟨b2, off2, rfl, hcell2⟩ := hc8 j hlt2
          injection e8 with e10 e11 e12
          subst e10
          clear hc8 e11 e12 hb1
          have hkey : keyOf Try.prog 3 (.int .i64 (S :: D)[k][j]) = some (.int .i64 (S :: D)[k][j]) := keyOf_int_mk Try.underlying3 (HWF.out _ (flatMem hlt (List.getElem_mem hlt2)))
          have HKEY := Lib.hid hkey
          have hnn : (((S :: D).take k).flatten ++ (S :: D)[k].take j).length < maxLen := by
            have := flatLe2 hlt (Nat.le_of_lt hlt2)
            have := HLEN.out
            unfold maxLen; omega
          have HNN := Lib.hid hnn
          clear hkey hnn
          go_wp2_with (at_mapUpdate; refine wpList_mapUpdate_own _ rfl _ _ _ 64 rfl 3 65 (int_keyed Try.underlying3) Try.underlying64 (unitElem (H := Unit)) B _ _ rfl hMi.out HNN.out _ _ _ rfl rfl HKEY.out _ [] unitElem_mk ?_; intro w3 hown3 hg3)
          have hB3 : But B wo w3 := hBi.out.trans ⟨hg3.os, hg3.tape, hg3.output, hg3.size, fun q hq hne => hg3.block q hq (fun e => hne (Option.some.inj e))⟩
          have e3 : ((S :: D).take k).flatten ++ (S :: D)[k].take (j + 1) = (((S :: D).take k).flatten ++ (S :: D)[k].take j) ++ [(S :: D)[k][j]] := by rw [take_succ_getD _ j hlt2, List.append_assoc]
          have M3 := Lib.hid (show w3.ownsMap Try.prog 3 (unitElem (H := Unit)) B (((S :: D).take k).flatten ++ (S :: D)[k].take (j + 1)).length (keysD (((S :: D).take k).flatten ++ (S :: D)[k].take (j + 1))) by
            rw [e3, keysD_snoc, List.length_append, List.length_cons, List.length_nil]
            exact hown3)
          clear hown3 hg3 e3
          go_wp2_with fail
          go_roundw
          case rel => exact ⟨j + 1, by omega, by go_num, M3.out, hB3⟩
          case measure => simp [intOf]; omega
        · have e4 : (S :: D)[k].take j = (S :: D)[k] := List.take_of_length_le (by omega)
          have M4 := Lib.hid (show wr.ownsMap Try.prog 3 (unitElem (H := Unit)) B ((S :: D).take (k + 1)).flatten.length (keysD ((S :: D).take (k + 1)).flatten) by
            have := hMi.out
            rw [e4, ← flatTake hlt] at this
            exact this)
          have hB4 : But B w2 wr := hBt.out.trans hBi.out
          clear e4
          go_wp2_with fail
          go_roundw
          case rel => exact ⟨k + 1, by omega, by go_num, M4.out, hB4⟩
          case measure => simp [intOf]; omega
    · have HT := Lib.hid (show (S :: D).take k = S :: D from List.take_of_length_le (by omega))
      have hlt' : ¬ (k : Int) < (D.length : Int) + 1 := by have := hlt; rw [List.length_cons] at this; omega
      have M5 := Lib.hid (show wo.ownsMap Try.prog 3 (unitElem (H := Unit)) B (Term.all ⟨t, S, D⟩).length (keysD (Term.all ⟨t, S, D⟩)) by
        have := hM.out
        rw [HT.out, ← HALL.out] at this
        exact this)
      have hsz : Maps.size (keysD (Term.all ⟨t, S, D⟩)) ≤ 2000000 := by
        have h1 := M5.out.size_le
        have h2 := HLEN.out
        rw [← HALL.out] at h2
        omega
      have HSZ := Lib.hid hsz
      have hE5 : Ext w wo := Below.trans (B := w.heap.size) e2 (hBt.out.below hBw e2.size)
      clear hM hsz
      go_wp2_with fail
      refine (keys6_any (some B) wo).mono ?_
      rintro e w5 ⟨rfl, rfl⟩
      go_wp2_with fail
      refine (sorted6_any B _ _ _ wo M5.out (by have := HSZ.out; unfold maxLen; omega) (by have := HSZ.out; omega)).mono ?_
      rintro e w6 ⟨u, ss, rfl, hp, ho, hnil, hE6⟩
      have hss := sortedNodes ⟨t, S, D⟩ M5.out hp
      rw [hss] at ho
      have hl : ss.length = (Term.nodes ⟨t, S, D⟩).length := by rw [← hss]; exact (List.mergeSort_perm ss _).length_eq.symm
      rw [hl] at ho
      clear hss hp hnil hl
      have hE5' : Ext w (wo.alloc (.cells #[.map (some B)] 64)) := hE5.trans (Ext.alloc _ _)
      have HO := Lib.hid (show OwnI w6 w.heap.size u (Term.nodes ⟨t, S, D⟩) from rowLower ho hE5'.size)
      have hE6' : Ext w w6 := hE5'.trans hE6
      clear ho hE6
      go_wp2_with fail
      go_ret
      exact ⟨u, rfl, HO.out, hE6'⟩
end Go.Proofs.Ytpfodkgncachiaa
