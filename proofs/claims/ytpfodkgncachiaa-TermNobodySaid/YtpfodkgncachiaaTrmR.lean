/-
  Layer 6: the next configuration: the document's own answer.
-/
import Derived.Test.YtpfodkgncachiaaTrmI
import Derived.Test.YtpfodkgncachiaaTrmQ
import Derived.Test.YtpfodkgncachiaaTrmN
namespace Go.Proofs.Ytpfodkgncachiaa
set_option linter.unusedSimpArgs false
set_option linter.unusedVariables false
set_option maxRecDepth 100000
open Go.RowKit

theorem leftKeep {l gone : List Int} {k : Nat} (hk : k < l.length) (h : hasI gone l[k] = false) : Term.left (l.take (k + 1)) gone = Term.left (l.take k) gone ++ [l[k]] := by
  unfold hasI at h
  unfold Term.left
  rw [take_succ_getD l k hk, List.filter_append, List.filter_cons, h]
  rfl
theorem leftDrop {l gone : List Int} {k : Nat} (hk : k < l.length) (h : hasI gone l[k] = true) : Term.left (l.take (k + 1)) gone = Term.left (l.take k) gone := by
  unfold hasI at h
  unfold Term.left
  rw [take_succ_getD l k hk, List.filter_append, List.filter_cons, h]
  simp

theorem build_confR2 (w : World) (n : Int) (a : Option Addr) (m c : Nat) : (Instr.build 25 #[(0, .int .i64 n), (1, .slice a m c)]).run Try.prog w = .ok (.agg #[.int .i64 n, .slice a m c, .slice none 0 0]) w := by kernel_rfl

end Go.Proofs.Ytpfodkgncachiaa
