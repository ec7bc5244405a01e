import Derived.Lib.SlBytesConst
import Derived.Test.YtnoeconcpgdjlaaGreatBsCrcPut
set_option linter.unusedSimpArgs false
set_option linter.unusedVariables false
namespace Go.Proofs.YtnoeconcpgdjlaaGreat
set_option maxRecDepth 100000
open Go.RowKit
theorem Rows.nil (w : World) : Rows w (.slice none 0 0) [] := ⟨[], ⟨none, 0, rfl, Nat.le_refl _, by simp [maxLen], fun _ => rfl, fun i hi => absurd hi (by simp)⟩, rfl, fun i h => absurd h (by simp)⟩
theorem Tab.ext {w w' : World} {p d : Nat} {c : Int} (h : Tab w p d c) (hb : Ext w w') : Tab w' p d c := by
 have hp : p < w.heap.size := World.block_lt_of_cell? w _ h.done
 unfold Tab at h ⊢
 rw [hb.block p hp]; exact h
theorem Tab.lt {w : World} {p d : Nat} {c : Int} (h : Tab w p d c) : p < w.heap.size := World.block_lt_of_cell? w _ h.done
end Go.Proofs.YtnoeconcpgdjlaaGreat
