/-
  Layer 6: configurations as bytes: the document's own answer.
-/
import Derived.Test.YtpfodkgncachiaaTrmC
import Derived.Test.YtpfodkgncachiaaTrmD
namespace Go.Proofs.Ytpfodkgncachiaa
set_option linter.unusedSimpArgs false
set_option linter.unusedVariables false
set_option maxRecDepth 100000
open Go.RowKit

theorem numsTake {ns : List Int} (h : ∀ x ∈ ns, 0 ≤ x ∧ x ≤ 15) (hn : ns.length ≤ 100) (k : Nat) : (Pack.num ns.length ++ Rec.numsOf (ns.take k)).length ≤ 909 := by
  have h2 : ∀ x ∈ ns.take k, 0 ≤ x ∧ x ≤ 15 := fun x hx => h x (List.mem_of_mem_take hx)
  have hl : (ns.take k).length ≤ 100 := by rw [List.length_take]; omega
  have h1 := Term.row_le h2 hl
  unfold Term.row at h1
  rw [List.length_append] at h1 ⊢
  have := Pack.num_nine (n := ns.length) (by omega)
  have := nums_le (ns.take k) (okRow h2)
  have e : Rec.numsOf (ns.take k) = nums (ns.take k) := rfl
  rw [e]
  omega

end Go.Proofs.Ytpfodkgncachiaa
