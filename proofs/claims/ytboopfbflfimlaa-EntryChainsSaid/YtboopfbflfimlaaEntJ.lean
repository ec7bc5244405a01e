/-
  Layer 5: how many entries follow one another, and the last cut: the program; may an entry stand behind others: the document's own answer.
-/
import Derived.Test.YtboopfbflfimlaaEntI
namespace Go.Proofs.Ytboopfbflfimlaa
set_option linter.unusedSimpArgs false
set_option linter.unusedVariables false
set_option maxRecDepth 100000
open Go.RowKit

set_option maxHeartbeats 2000000 in
theorem chain5_any (v : Value) (l : List Ent.E) (w : World) (hv : Ents w v l) :
    Calls Try.prog 19 #[v] w fun x w' => x = .returned (.int .i64 (Ent.chain l : Int)) ∧ Ext w w' := by
  have HV := Lib.hid hv
  obtain ⟨a, cap, rfl, hcap, hmax⟩ := hv.shape
  clear hv
  go_enter Try.func19, Try.ntmps19
  go_wp2_with fail
  refine (follow5_any _ l _ HV.out).mono ?_
  unfold Follows5
  rintro e w1 ⟨u, rfl, hl, hE⟩
  obtain ⟨au, nu, ku, rfl⟩ := hl.isSlice
  clear hl
  go_wp2_with fail
  go_ret
  exact ⟨rfl, hE⟩

set_option maxHeartbeats 2000000 in
theorem cloneI_any (v : Value) (ns : List Int) (w : World) (hv : Ints w v ns) (hl : ns.length ≤ 1000000) :
    Calls Try.prog 53 #[v] w fun x w' => ∃ u, x = .returned u ∧ w'.ownsRow w.heap.size 3 1 u ns.length (i64s ns) ∧ Ext w w' := by
  have hv0 := hv
  obtain ⟨a, cap, rfl, hcap, hmax, hn, hc⟩ := hv.open
  have e1 := fun (w : World) (a : Option Addr) (n c : Nat) => Lib.run_eql_slice_nil (P := Try.prog) w 22 3 a n c 0 0 Try.underlying22
  cases a with
  | none =>
    obtain rfl := hn rfl
    have : ns = [] := List.eq_nil_of_length_eq_zero (by omega)
    subst this
    clear hc
    go_enter Try.func53, Try.ntmps53
    go_wp2
    go_ret
    exact ⟨_, rfl, World.ownsRow_nil _ _ _ _, Below.refl _ _⟩
  | some ad =>
    have hu := i64s_one ns
    have ti := tI
    clear hc
    have hown0 : (w.alloc (.cells #[] 3)).ownsRow w.heap.size 3 1 (.slice (some ⟨w.heap.size, 0, none⟩) 0 0) 0 [] := World.ownsRow_made w #[] 0 (Nat.le_refl _) (by simp [maxLen]) (by simp)
    have hsl : Sl (w.alloc (.cells #[] 3)) (.slice (some ad) ns.length cap) (i64s ns) := hv0.below (Ext.alloc _ _)
    have hc1 : 0 + (i64s ns).length ≤ maxLen := by simp; unfold maxLen; omega
    have hc2 : (0 + (i64s ns).length) * 8 ≤ 140737488355328 := by simp; omega
    go_enter Try.func53, Try.ntmps53
    go_wp2_with (first | (at_builtin; refine wpList_app rfl (.tmp 5) (.tmp 6) ti rfl rfl rfl hown0 hsl hu hc1 hc2 (by simp) ?_; intro v2 w2 hown2 hg2))
    go_ret
    exact ⟨_, rfl, by simpa using hown2, ((Below.refl _ w).alloc (Nat.le_refl _) _).grown hg2 (by simp) (fun k hk => (hown0.lt k hk).1)⟩

set_option maxHeartbeats 4000000 in
theorem last5_any (v : Value) (l : List Ent.E) (n : Int) (w : World) (hv : Ents w v l) :
    Calls Try.prog 23 #[v, .int .i64 n] w fun x w' => ∃ u, x = .returned u ∧ Ints w' u (Ent.lastOf l (zeros n)) ∧ Ext w w' := by
  have HV := Lib.hid hv
  obtain ⟨a, cap, rfl, hcap, hmax⟩ := hv.shape
  clear hv
  have e1 := fun (w : World) (a : Option Addr) (n c : Nat) => Lib.run_eql_slice_nil (P := Try.prog) w 22 3 a n c 0 0 Try.underlying22
  have hlo : Ent.lastOf l (zeros n) = match Ent.lastCut (l.take (Ent.chain l)) with
    | none => zeros n
    | some c => c := rfl
  have hrt := fun c h => Ent.last_right (l := l) (c := c) h
  go_enter Try.func23, Try.ntmps23
  go_wp2_with fail
  refine (follow5_any _ l _ HV.out).mono ?_
  unfold Follows5
  obtain ⟨o, ho⟩ : ∃ o, Ent.lastCut (l.take (Ent.chain l)) = o := ⟨_, rfl⟩
  rw [ho] at hlo hrt ⊢
  have HLO := Lib.hid hlo
  have HRT := Lib.hid hrt
  clear hlo hrt ho
  rintro e w1 ⟨u, rfl, hl, hE⟩
  cases o with
  | none =>
    obtain rfl : u = .slice none 0 0 := hl
    go_wp2_with fail
    refine (zero_any n _).mono ?_
    unfold GivesOwnI
    rintro e w2 ⟨u2, rfl, ho2, hE2⟩
    go_wp2_with fail
    go_ret
    exact ⟨_, rfl, by rw [HLO.out]; exact Sl.ofOwn ho2, hE.trans hE2⟩
  | some c =>
    have hc8 : c.length ≤ 8 := (Vec.right_ok (HRT.out c rfl)).2.2
    obtain ⟨hi, a3, n3, k3, rfl⟩ := hl
    have HI := Lib.hid hi
    clear hi
    go_wp2_with fail
    refine (cloneI_any _ c _ HI.out (by omega)).mono ?_
    rintro e w2 ⟨u2, rfl, ho2, hE2⟩
    go_wp2_with fail
    go_ret
    exact ⟨_, rfl, by rw [HLO.out]; exact Sl.ofOwn ho2, hE.trans hE2⟩
end Go.Proofs.Ytboopfbflfimlaa
