/-
  Layer 3, the program: a vector as bytes.
-/
import Derived.Test.YtpfodkgncachiaaVecB
import Derived.Test.YtpfodkgncachiaaPackAlive
namespace Go.Proofs.Ytpfodkgncachiaa
open Go.RowKit

/-- A vector's bytes. -/
def Vec.enc (v : List Int) : List UInt8 := Pack.num v.length ++ nums v
def bytesOr : Bool → List UInt8 → List UInt8
  | true, l => l
  | false, _ => []
@[simp] theorem bytesOr_true (l : List UInt8) : bytesOr true l = l := rfl
@[simp] theorem bytesOr_false (l : List UInt8) : bytesOr false l = [] := rfl
def formErr : Bool → Int
  | true => 0
  | false => 30
@[simp] theorem formErr_true : formErr true = 0 := rfl
@[simp] theorem formErr_false : formErr false = 30 := rfl
def GivesEnc (w : World) (l : List UInt8) (err : Int) (e : Ending) (w' : World) : Prop := ∃ u, e = .returned (.tuple #[u, .int .i64 err]) ∧ Bytes w' u l ∧ Ext w w'
theorem right_okNum {v : List Int} (h : Vec.right v = true) : v.all okNum = true := by
  rw [List.all_eq_true]
  intro x hx
  have := (Vec.right_ok h).1 x hx
  unfold okNum
  rw [decide_eq_true_eq]
  omega

end Go.Proofs.Ytpfodkgncachiaa
