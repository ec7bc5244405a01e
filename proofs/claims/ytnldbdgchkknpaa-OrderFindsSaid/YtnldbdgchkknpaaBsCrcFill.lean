/-
  Merged: Layer 1, the program: the table is filled.
-/
import Derived.Test.YtnldbdgchkknpaaProg
import Derived.Test.YtnldbdgchkknpaaBsLib
import Derived.Test.YtnldbdgchkknpaaBsMath

set_option linter.unusedSimpArgs false
set_option linter.unusedVariables false

namespace Go.Proofs.Ytnldbdgchkknpaa
set_option maxRecDepth 100000
open Go.RowKit
/- Layer 1, the program: the table is filled. -/
/-- The table's cells while it is filled: right at the multiples of m; ahead and behind as they were. -/
structure Filled (cs cs0 : Array Value) (m : Nat) : Prop where
  size : cs.size = 260
  all : ∀ i, i < 256 → ∃ x : Nat, cs[3 + i]? = some (.int .u32 (x : Int)) ∧ x < 4294967296 ∧ (i % m = 0 → x = Crc.steps 8 i)
  rest : ∀ i, i < 3 ∨ 259 ≤ i → cs[i]? = cs0[i]?

/-- On the way from the multiples of 2 b to those of b: those below lim are right. -/
structure Mid (cs cs0 : Array Value) (b lim : Nat) : Prop where
  size : cs.size = 260
  all : ∀ i, i < 256 → ∃ x : Nat, cs[3 + i]? = some (.int .u32 (x : Int)) ∧ x < 4294967296 ∧ (i % (2 * b) = 0 → x = Crc.steps 8 i) ∧ (i % b = 0 → i < lim → x = Crc.steps 8 i)
  rest : ∀ i, i < 3 ∨ 259 ≤ i → cs[i]? = cs0[i]?

theorem Mid.start {cs cs0 : Array Value} {b : Nat} (h : Filled cs cs0 (2 * b)) : Mid cs cs0 b 0 :=
  ⟨h.size, fun i hi => by obtain ⟨x, h1, h2, h3⟩ := h.all i hi; exact ⟨x, h1, h2, h3, fun _ h => absurd h (by omega)⟩, h.rest⟩
end Go.Proofs.Ytnldbdgchkknpaa
