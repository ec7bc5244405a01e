/-
  Merged: Layer 1, the program: the table is filled.
-/
import Derived.Test.YtkpcmedmiiohnaaProg
import Derived.Test.YtkpcmedmiiohnaaBsLib
import Derived.Test.YtkpcmedmiiohnaaBsMath

set_option linter.unusedSimpArgs false
set_option linter.unusedVariables false

namespace Go.Proofs.Ytkpcmedmiiohnaa
set_option maxRecDepth 100000
open Go.RowKit
/- Layer 1, the program: the table is filled. -/
/-- The table's cells while it is filled: right at the multiples of m; ahead and behind as they were. -/
structure Filled (cs cs0 : Array Value) (m : Nat) : Prop where
  size : cs.size = 260
  all : ∀ i, i < 256 → ∃ x : Nat, cs[3 + i]? = some (.int .u32 (x : Int)) ∧ x < 4294967296 ∧ (i % m = 0 → x = Crc.steps 8 i)
  rest : ∀ i, i < 3 ∨ 259 ≤ i → cs[i]? = cs0[i]?

/-- On the way from the multiples of 2 b to those of b: those below lim are right. -/
structure Mid (cs cs0 : Array Value) (b lim : Nat) : Prop where
  size : cs.size = 260
  all : ∀ i, i < 256 → ∃ x : Nat, cs[3 + i]? = some (.int .u32 (x : Int)) ∧ x < 4294967296 ∧ (i % (2 * b) = 0 → x = Crc.steps 8 i) ∧ (i % b = 0 → i < lim → x = Crc.steps 8 i)
  rest : ∀ i, i < 3 ∨ 259 ≤ i → cs[i]? = cs0[i]?

theorem Mid.start {cs cs0 : Array Value} {b : Nat} (h : Filled cs cs0 (2 * b)) : Mid cs cs0 b 0 :=
  ⟨h.size, fun i hi => by obtain ⟨x, h1, h2, h3⟩ := h.all i hi; exact ⟨x, h1, h2, h3, fun _ h => absurd h (by omega)⟩, h.rest⟩
theorem Mid.finish {cs cs0 : Array Value} {b lim : Nat} (h : Mid cs cs0 b lim) (hl : 256 ≤ lim) : Filled cs cs0 b :=
  ⟨h.size, fun i hi => by obtain ⟨x, h1, h2, _, h3⟩ := h.all i hi; exact ⟨x, h1, h2, fun hm => h3 hm (by omega)⟩, h.rest⟩
theorem Mid.next {cs cs0 : Array Value} {b a : Nat} (h : Mid cs cs0 b a) (hb : 0 < b) (ha : a % (2 * b) = 0) (hab : a + 2 * b ≤ 256) (hlt : Crc.steps 8 (a + b) < 4294967296) :
    Mid (cs.setIfInBounds (3 + (a + b)) (.int .u32 (Crc.steps 8 (a + b) : Nat))) cs0 b (a + 2 * b) := by
  refine ⟨by simp [h.size], fun i hi => ?_, fun i hi => ?_⟩
  · by_cases e : i = a + b
    · subst e
      refine ⟨Crc.steps 8 (a + b), by rw [Array.getElem?_setIfInBounds_self]; simp [h.size]; omega, hlt, fun _ => rfl, fun _ _ => rfl⟩
    · obtain ⟨x, h1, h2, h3, h4⟩ := h.all i hi
      refine ⟨x, by rw [Array.getElem?_setIfInBounds_ne (by omega)]; exact h1, h2, h3, fun hm hl => ?_⟩
      by_cases hia : i < a
      · exact h4 hm hia
      · apply h3
        obtain ⟨d, hd⟩ : ∃ d, i = a + d := ⟨i - a, by omega⟩
        subst hd
        obtain ⟨q, hq⟩ : ∃ q, a = 2 * b * q := ⟨a / (2 * b), by have := Nat.div_add_mod a (2 * b); omega⟩
        have hda : (a + d) % b = d % b := by
          rw [hq, show 2 * b * q = b * (2 * q) from by ac_rfl, Nat.mul_add_mod]
        rw [hda] at hm
        have hd2 : d < 2 * b := by omega
        have hdb : d ≠ b := by omega
        have hd0 : d = 0 := by
          obtain ⟨r, hr⟩ : ∃ r, d = b * r := ⟨d / b, by have := Nat.div_add_mod d b; omega⟩
          match r, hr with
          | 0, hr => simpa using hr
          | 1, hr => omega
          | r + 2, hr => rw [Nat.mul_add] at hr; omega
        subst hd0
        exact ha
  · rw [Array.getElem?_setIfInBounds_ne (by omega)]; exact h.rest i hi

end Go.Proofs.Ytkpcmedmiiohnaa
