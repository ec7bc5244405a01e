/-
  Layer 1, the document's own answers: each call's contract.
-/
import Derived.Test.YtpfodkgncachiaaProg
import Derived.Test.YtpfodkgncachiaaLib
import Derived.Test.YtpfodkgncachiaaRegion
import Derived.Deep.RegionHeld3
import Derived.Deep.DeepCutAuto
import Derived.Test.YtpfodkgncachiaaCrcMath
namespace Go.Proofs.Ytpfodkgncachiaa
set_option maxRecDepth 100000
open Go.RowKit

theorem ret_u32 {a b : Int} (h : a = b) : Ending.returned (.int .u32 a) = .returned (.int .u32 b) := by rw [h]

theorem tU8 : ElemOf Try.prog 39 5 (.int .u8 0) 1 := ⟨Try.underlying39, by kernel_rfl, rfl⟩

/-- What stands behind the k-th round: the bytes of n so far. -/
def lows (n : Nat) : Nat → List UInt8
  | 0 => []
  | k + 1 => lows n k ++ [UInt8.ofNat (n / 256 ^ k)]
theorem lows_length (n k : Nat) : (lows n k).length = k := by
  induction k with
  | zero => rfl
  | succ k ih => simp [lows, ih]
theorem lows_four (n : Nat) : lows n 4 = Crc.low n := by simp [lows, Crc.low]

/-- A call that hands back bytes and true, or none and false. -/
def GivesCut (w : World) (r : Option (List UInt8)) (e : Ending) (w' : World) : Prop :=
  Below w.heap.size w w' ∧ match r with
    | none => e = .returned (.tuple #[.slice none 0 0, .bool false])
    | some l => ∃ v, e = .returned (.tuple #[v, .bool true]) ∧ Bytes w' v l

end Go.Proofs.Ytpfodkgncachiaa
