/-
  Layer 6, the program: a row's nodes without those that are gone.
-/
import Derived.Test.YtpfodkgncachiaaTrmA
import Derived.Test.YtpfodkgncachiaaSlI
import Derived.Test.YtpfodkgncachiaaLibO
import Derived.Test.YtpfodkgncachiaaDelI
import Derived.Lib.SlKeysI
namespace Go.Proofs.Ytpfodkgncachiaa
set_option linter.unusedSimpArgs false
set_option linter.unusedVariables false
set_option maxRecDepth 100000
open Go.RowKit Go.Shelf Go.Lib Go.Sort Go.Maps

/-- The closure that asks whether a node is gone, in whatever world holds the row in its cell. -/
theorem isGone6 (gv : Value) (gone : List Int) (x : Int) (B : Nat) (W : World) (hc : W.cell? ⟨B, 0, none⟩ = some gv) (hg : Ints W gv gone) :
    FnGives Try.prog 23 #[.pointer (some ⟨B, 0, none⟩)] #[.int .i64 x] (.bool (hasI gone x)) W := by
  show Calls Try.prog 23 #[.int .i64 x, .pointer (some ⟨B, 0, none⟩)] W _
  have HG := Lib.hid hg
  obtain ⟨a, cap, rfl, _⟩ := hg.open
  clear hg
  go_enter Try.func23, Try.ntmps23
  go_wp2_with fail
  refine (has6_any _ gone x _ HG.out).mono ?_
  rintro e w' ⟨rfl, rfl⟩
  go_wp2_with fail
  go_ret
  exact ⟨rfl, 0, rfl⟩

/-- A row of the call's own, cut short. -/
theorem ownCut {w : World} {base g n cap : Nat} {e : TypeId} {xs : List Value} (h : w.ownsRow base e 1 (.slice (some ⟨g, 0, none⟩) n cap) n xs) (k : Nat) (hk : k ≤ n) : w.ownsRow base e 1 (.slice (some ⟨g, 0, none⟩) k cap) k (xs.take k) := by
  obtain ⟨h1, h2⟩ := h
  refine ⟨by rw [List.length_take]; omega, ?_⟩
  rcases h2 with ⟨hv, _⟩ | ⟨g', cap', cur, hv, q1, q2, q3, q4, q5, q6⟩
  · cases hv
  · injection hv with e1 e2 e3
    injection e1 with e1
    injection e1 with e1
    subst e1 e3
    refine .inr ⟨g, cap, cur, rfl, q1, q2, by omega, q4, q5, ?_⟩
    rw [← q6, List.take_take]
    congr 1
    omega
/-- The row's cells, when they are put anew. -/
theorem ownPut {w : World} {base g cap q : Nat} {l ts : List Int} (h : OwnI w base (.slice (some ⟨g, 0, none⟩) l.length cap) l) (hl : ts.length = l.length) :
    OwnI (putRow encZ (Sort.ahead w q) g 0 ts.toArray) base (.slice (some ⟨g, 0, none⟩) ts.length cap) ts ∧ w.grownBy (putRow encZ (Sort.ahead w q) g 0 ts.toArray) (some g) := by
  obtain ⟨h1, h2⟩ := h
  rcases h2 with ⟨hv, _⟩ | ⟨g', cap', cur, hv, q1, q2, q3, q4, q5, q6⟩
  · cases hv
  · injection hv with e1 e2 e3
    injection e1 with e1
    injection e1 with e1
    subst e1 e3
    have k1 := ownsRow_sorted_i (n := q) (os := #[]) (ts := ts) (ss := l) hl q1 q2 q3 q4 (by omega)
    have k2 := grownBy_sorted_i (w := w) (g := g) (n := q) (os := #[]) ts.toArray
    rw [grow_empty] at k1 k2
    rw [hl]
    refine ⟨?_, k2⟩
    unfold OwnI
    rw [hl]
    exact k1
theorem ownHolds {w : World} {base g cap : Nat} {l : List Int} (h : OwnI w base (.slice (some ⟨g, 0, none⟩) l.length cap) l) : Holds (Value.int .i64) w g 0 l.toArray ∧ l.length ≤ cap ∧ g < w.heap.size ∧ base ≤ g := by
  obtain ⟨h1, h2⟩ := h
  rcases h2 with ⟨hv, _⟩ | ⟨g', cap', cur, hv, q1, q2, q3, q4, q5, q6⟩
  · cases hv
  · injection hv with e1 e2 e3
    injection e1 with e1
    injection e1 with e1
    subst e1 e3
    exact ⟨holds_of_block_i q2 (by simpa [i64s] using q6), q3, (Array.getElem?_eq_some_iff.1 q2).1, q1⟩

set_option maxHeartbeats 2000000 in
/-- DeleteFunc on a row of the call's own: those that are not gone, in order. -/
theorem delete6_any (base g cap : Nat) (l gone : List Int) (gv : Value) (B : Nat) (w0 w : World) (h : OwnI w base (.slice (some ⟨g, 0, none⟩) l.length cap) l) (hl : l.length ≤ 1000) (hc : w.cell? ⟨B, 0, none⟩ = some gv) (hB : B < base) (hg0 : Ints w0 gv gone) (hE0 : Ext w0 w) (hb0 : w0.heap.size ≤ base) :
    Calls Try.prog 21 #[.slice (some ⟨g, 0, none⟩) l.length cap, .func (.func 23) #[] #[.pointer (some ⟨B, 0, none⟩)]] w fun e w' => ∃ u, e = .returned u ∧ OwnI w' base u (Term.left l gone) ∧ w.grownBy w' (some g) := by
  obtain ⟨hH, hcap, hgl, hbg⟩ := ownHolds h
  have hg : Ints w gv gone := hg0.below hE0
  have hcell : ∀ W : World, W.cell? ⟨B, 0, none⟩ = some gv → Ints W gv gone → ∀ x, FnGives Try.prog 23 #[.pointer (some ⟨B, 0, none⟩)] #[.int .i64 x] (.bool (hasI gone x)) W := fun W h1 h2 x => isGone6 gv gone x B W h1 h2
  have hBl : B < w.heap.size := World.block_lt_of_cell? w _ hc
  have hp : PredAt Try.prog 23 #[.pointer (some ⟨B, 0, none⟩)] (Value.int .i64) (fun x => hasI gone x) w := fun W x hb =>
    hcell W ((hb.cell (p := ⟨B, 0, none⟩) hBl).trans hc) (hg.below hb) x
  have hpo : PredOver Try.prog 23 #[.pointer (some ⟨B, 0, none⟩)] (Value.int .i64) (fun x => hasI gone x) g 0 l.toArray.size w := fun n os dk x hsz => by
    have hbel : ∀ (a : Addr), a.block < base → (sortWorld (Value.int .i64) w g 0 n dk os).cell? a = w.cell? a := fun a ha => by
      unfold sortWorld
      rw [cell?_grow _ _ _ (by rw [size_putRow]; show a.block < w.heap.size; omega), cell?_putRow_other _ _ g 0 _ _ (Or.inl (by omega))]
      rfl
    refine hcell _ ((hbel ⟨B, 0, none⟩ hB).trans hc) ?_ x
    obtain ⟨a, c, e, q1, q2, q3, q4⟩ := hg0
    refine ⟨a, c, e, q1, q2, q3, fun i hi => ?_⟩
    obtain ⟨b, off, e2, hcc⟩ := q4 i hi
    have hbw : b < w0.heap.size := World.block_lt_of_cell? w0 _ hcc
    exact ⟨b, off, e2, (hbel ⟨b, off + i, none⟩ (Nat.lt_of_lt_of_le hbw hb0)).trans ((hE0.cell (p := ⟨b, off + i, none⟩) hbw).trans hcc)⟩
  have hcon := AnyE.slices_DeleteFunc delIntsL (Value.int .i64) (fun _ => rfl) (fun x => hasI gone x) 23 #[.pointer (some ⟨B, 0, none⟩)] (enters_of Try.func23 (by kernel_rfl) rfl) 0 Try.zeroValue3 g 0 cap l.toArray w hp hpo hH (by simp; omega) (by simpa using hcap)
  rw [show l.toArray.size = l.length from by simp, show l.toArray.toList = l from by simp] at hcon
  have hleft : (l.filter fun x => !hasI gone x) = Term.left l gone := rfl
  rw [hleft] at hcon
  refine hcon.mono ?_
  rintro e w' ⟨rfl, q, rfl⟩
  have hll : (Term.left l gone).length ≤ l.length := by unfold Term.left; exact List.length_filter_le _ _
  have ht : (Term.left l gone ++ List.replicate (l.length - (Term.left l gone).length) (0 : Int)).length = l.length := by simp; omega
  obtain ⟨k1, k2⟩ := ownPut (q := q) h ht
  refine ⟨_, rfl, ?_, k2⟩
  have k3 := ownCut k1 (Term.left l gone).length (by rw [ht]; exact hll)
  unfold OwnI
  have e : (i64s (Term.left l gone ++ List.replicate (l.length - (Term.left l gone).length) (0 : Int))).take (Term.left l gone).length = i64s (Term.left l gone) := by
    rw [i64s_append, List.take_append_of_le_length (by simp), List.take_of_length_le (by simp)]
  rw [e] at k3
  exact k3

set_option maxHeartbeats 2000000 in
/-- The closure that leaves out who is gone. -/
theorem stay6_any (v gv : Value) (l gone : List Int) (B : Nat) (w : World) (hv : Ints w v l) (h1 : 1 ≤ l.length) (hl : l.length ≤ 1000) (hc : w.cell? ⟨B, 0, none⟩ = some gv) (hg : Ints w gv gone) :
    Calls Try.prog 20 #[v, .pointer (some ⟨B, 0, none⟩)] w fun e w' => ∃ u, e = .returned u ∧ OwnI w' w.heap.size u (Term.left l gone) ∧ Ext w w' := by
  have HV := Lib.hid hv
  have HG := Lib.hid hg
  have HC := Lib.hid hc
  obtain ⟨a, cap, rfl, _⟩ := hv.open
  clear hv hg hc
  go_enter Try.func20, Try.ntmps20
  go_wp2_with fail
  refine (cloneI_any _ l w HV.out (by omega)).mono ?_
  rintro e w1 ⟨u, rfl, ho, hE⟩
  obtain ⟨g, c2, rfl⟩ : ∃ g c2, u = .slice (some ⟨g, 0, none⟩) l.length c2 := by
    rcases ho.2 with ⟨_, hz⟩ | ⟨g, c2, cur, rfl, _⟩
    · omega
    · exact ⟨g, c2, rfl⟩
  have HO := Lib.hid (show OwnI w1 w.heap.size (.slice (some ⟨g, 0, none⟩) l.length c2) l from ho)
  have hgg := (ownHolds HO.out).2.2.2
  clear ho
  go_wp2_with fail
  refine (delete6_any w.heap.size g c2 l gone gv B w w1 HO.out hl ((hE.cell (p := ⟨B, 0, none⟩) (World.block_lt_of_cell? w _ HC.out)).trans HC.out) (World.block_lt_of_cell? w _ HC.out) HG.out hE (Nat.le_refl _)).mono ?_
  rintro e w2 ⟨u2, rfl, ho2, hg2⟩
  have HO2 := Lib.hid ho2
  have hE2 : Ext w w2 := Below.grown hE hg2 hE.size (fun j hj => by cases hj; exact hgg)
  clear ho2 hg2
  go_wp2_with fail
  go_ret
  exact ⟨_, rfl, HO2.out, hE2⟩
end Go.Proofs.Ytpfodkgncachiaa
