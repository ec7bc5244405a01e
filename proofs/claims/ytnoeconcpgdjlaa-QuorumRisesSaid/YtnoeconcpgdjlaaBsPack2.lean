/-
  Merged: Layer 2: parts, out of what comes in.
-/
import Derived.Test.YtnoeconcpgdjlaaRows
import Derived.Test.YtnoeconcpgdjlaaChecked
import Derived.SizedLaws
import Derived.JoinedCond
import Derived.Test.YtnoeconcpgdjlaaBsPack

set_option linter.unusedSimpArgs false
set_option linter.unusedVariables false

namespace Go.Proofs.Ytnoeconcpgdjlaa
open Go.ChangeShapes Go.WideShapes Go.ChangeAt Go.RowKit
/- Layer 2: parts, out of what comes in; and what the bound gives. -/
section
variable {H : Type} {enc : TypeId × Value → H} {w : World} {base : Nat} {spare : Nat → Bool} {held : Bool}

/-- How long a slice is, and its datum. -/
theorem len_of_raw {P : Program} {t e : TypeId} {fuel : Nat} {a : Option Addr} {n c : Nat} {x : DataW H × List MemPlace} (ht : P.underlying t = some (.slice e)) (h : DataW.trod enc P w base spare held fuel t [.slice a n c] = some x) :
    n = 0 ∨ ∃ elems spare, x.1 = .slice elems spare ∧ elems.length = n := by
  rcases DataW.trod_slice ht h with ⟨e, _⟩ | ⟨a, len, cap, elems, rest, n', _, e, rfl, _, _, _, hlen, _, _, _⟩
  · injection e with e _
    injection e with _ e _
    exact .inl e
  · injection e with e _
    injection e with _ e _
    exact .inr ⟨_, _, rfl, by simp; omega⟩
theorem reach_of_raw {P : Program} {ts : List TypeId} {ds : List (DataW H)} {j k : Nat} {t e : TypeId} {fuel : Nat} {a : Option Addr} {n c : Nat} {x : DataW H × List MemPlace} (hsz : (DataW.weightsEach P ts ds).all (· ≤ reachBytes) = true) (hj : ts[j]? = some t) (hd : ds[j]? = some x.1)
    (ht : P.underlying t = some (.slice e)) (hk : P.bytesOf e = k) (h : DataW.trod enc P w base spare held fuel t [.slice a n c] = some x) : n * k ≤ 140737488351232 := by
  have hr : reachBytes = 140737488351232 := by decide
  rcases len_of_raw ht h with rfl | ⟨elems, spare, e1, e2⟩
  · omega
  · have := sized_slice hsz hj (by rw [hd, e1]) ht
    rw [hk, hr] at this
    have h2 : elems.length * k ≤ (elems.length + spare.length) * k := Nat.mul_le_mul_right _ (by omega)
    rw [e2] at h2 this
    omega
theorem bulk_of_raw {P : Program} {t e : TypeId} {fuel : Nat} {a : Option Addr} {n c : Nat} {x : DataW H × List MemPlace} (ht : P.underlying t = some (.slice e)) (h : DataW.trod enc P w base spare held fuel t [.slice a n c] = some x) : n ≤ Rows.uptoBulk x.1 := by
  rcases len_of_raw ht h with rfl | ⟨elems, spare, e1, e2⟩
  · omega
  · rw [e1]
    have key : ∀ es : List (DataW H), es.length ≤ Rows.uptoBulkAll es := by
      intro es
      induction es with
      | nil => simp
      | cons d es ih =>
        have : 1 ≤ Rows.uptoBulk d := by
          cases d with
          | lit l => cases l <;> simp [Rows.uptoBulk]
          | _ => simp [Rows.uptoBulk]
        simp only [List.length_cons, Rows.uptoBulkAll]
        omega
    have := key elems
    simp only [Rows.uptoBulk]
    omega
end
end Go.Proofs.Ytnoeconcpgdjlaa
