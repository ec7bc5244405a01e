/-
  The library's slices.Clone at rows of ints. No function of the program's own.
-/
import Derived.Test.YtpfodkgncachiaaLibG
import Derived.Test.YtpfodkgncachiaaVecA
namespace Go.Proofs.Ytpfodkgncachiaa
set_option linter.unusedSimpArgs false
set_option linter.unusedVariables false
set_option maxRecDepth 100000
open Go.RowKit

set_option maxHeartbeats 2000000 in
theorem cloneI_any (v : Value) (ns : List Int) (w : World) (hv : Ints w v ns) (hl : ns.length ≤ 1000000) :
    Calls Try.prog 22 #[v] w fun x w' => ∃ u, x = .returned u ∧ w'.ownsRow w.heap.size 3 1 u ns.length (i64s ns) ∧ Ext w w' := by
  have hv0 := hv
  obtain ⟨a, cap, rfl, hcap, hmax, hn, hc⟩ := hv.open
  have e1 := fun (w : World) (a : Option Addr) (n c : Nat) => Lib.run_eql_slice_nil (P := Try.prog) w 22 3 a n c 0 0 Try.underlying22
  cases a with
  | none =>
    obtain rfl := hn rfl
    have : ns = [] := List.eq_nil_of_length_eq_zero (by omega)
    subst this
    clear hc
    go_enter Try.func22, Try.ntmps22
    go_wp2
    go_ret
    exact ⟨_, rfl, World.ownsRow_nil _ _ _ _, Below.refl _ _⟩
  | some ad =>
    have hu := i64s_one ns
    have ti := tI
    clear hc
    have hown0 : (w.alloc (.cells #[] 3)).ownsRow w.heap.size 3 1 (.slice (some ⟨w.heap.size, 0, none⟩) 0 0) 0 [] := World.ownsRow_made w #[] 0 (Nat.le_refl _) (by simp [maxLen]) (by simp)
    have hsl : Sl (w.alloc (.cells #[] 3)) (.slice (some ad) ns.length cap) (i64s ns) := hv0.below (Ext.alloc _ _)
    have hc1 : 0 + (i64s ns).length ≤ maxLen := by simp; unfold maxLen; omega
    have hc2 : (0 + (i64s ns).length) * 8 ≤ 140737488355328 := by simp; omega
    go_enter Try.func22, Try.ntmps22
    go_wp2_with (first | (at_builtin; refine wpList_app rfl (.tmp 5) (.tmp 6) ti rfl rfl rfl hown0 hsl hu hc1 hc2 (by simp) ?_; intro v2 w2 hown2 hg2))
    go_ret
    exact ⟨_, rfl, by simpa using hown2, ((Below.refl _ w).alloc (Nat.le_refl _) _).grown hg2 (by simp) (fun k hk => (hown0.lt k hk).1)⟩

end Go.Proofs.Ytpfodkgncachiaa
