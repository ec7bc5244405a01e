/-
  No cell of these rows narrows 'for every input' (looked for: loops, veiled, ifaces, maps, wideKeys, modest, calm, conditions, laid).
  DERIVED. THE GIVEN ROWS OF THIS SEAT. 4 by the template 'for every input the law returns true; each argument reads behind the call as it read before'; 0 by the template 'total and deterministic' (their statements: YtkpcmedmiiohnaaTotals.lean).
  GIVEN WITH THE SEED: the statements are not yours to turn. If you find one false, say at which input.
  Laid BY PROGRAM, IN A SANDBOX (cutbox-rows.mjs): the forced cells as the released guide's own fill.sh prints them over the translation 5748393847f5f911… (all of the seat's roots in one cut). By AI agents, Wed Nov 11 2026. No macro, syntax, notation, axiom, sorry.
-/
import Derived.Test.YtkpcmedmiiohnaaChecked
import GoSem.Claim
import GoSem.ClaimJoined
import GoSem.ClaimMapViews
import Derived.JoinedTies
import Derived.KernelRfl
namespace Go.Proofs.Ytkpcmedmiiohnaa
/- THE CELL 'sum', in the pinned program and in every row, IS THE sha256 OF THE DUMP (.gsa) THAT YtkpcmedmiiohnaaProg.lean LOADS. Nothing in Lean hashes anything: it is a label: what it is worth is what the hold of that sum in a sandbox is worth. -/
noncomputable def Try.pinned : Pinned := { name := "ytkpcmedmiiohnaa", sum := "5748393847f5f9113f24adf3490846b90de27a0431c0fa39f819c5a27bbab592", checked := Try.checked }
namespace Rows
def none {H : Type} : Left H := { results := [], args := [] }

/-- 'carabinerlaw14.RegisterAll': WHATEVER THE INPUT: true; the input reads as it did. -/
def registerAllSpec : ChangeSpec := { name := "registerAll", fn := fun _ => fun
  | [d1, d2, d3] => { results := [.lit (.bool true)], args := [d1, d2, d3] }
  | _ => none }
def registerAllRow : OpenClaim := { program := "ytkpcmedmiiohnaa", sum := "5748393847f5f9113f24adf3490846b90de27a0431c0fa39f819c5a27bbab592", func := "carabiner/carabinerlaw14.RegisterAll", spec := "registerAll", unfollowed := true, recurses := true, apart := false }
def RegisterAllSaid : Prop := registerAllRow.holds Try.pinned (OpenSpec.ofChange registerAllSpec)

/-- ITS FALSE NEIGHBOUR: 'it returns false'. Refute it at one input. -/
def registerAllWrong : ChangeSpec := { name := "registerAll", fn := fun _ => fun
  | [d1, d2, d3] => { results := [.lit (.bool false)], args := [d1, d2, d3] }
  | _ => none }
def RegisterAllWrongFalsely : Prop := registerAllRow.holds Try.pinned (OpenSpec.ofChange registerAllWrong)

/-- 'carabinerlaw14.RegisterStays': WHATEVER THE INPUT: true; the input reads as it did. -/
def registerStaysSpec : ChangeSpec := { name := "registerStays", fn := fun _ => fun
  | [d1, d2] => { results := [.lit (.bool true)], args := [d1, d2] }
  | _ => none }
def registerStaysRow : OpenClaim := { program := "ytkpcmedmiiohnaa", sum := "5748393847f5f9113f24adf3490846b90de27a0431c0fa39f819c5a27bbab592", func := "carabiner/carabinerlaw14.RegisterStays", spec := "registerStays", unfollowed := true, recurses := true, apart := false }
def RegisterStaysSaid : Prop := registerStaysRow.holds Try.pinned (OpenSpec.ofChange registerStaysSpec)

/-- ITS FALSE NEIGHBOUR: 'it returns false'. Refute it at one input. -/
def registerStaysWrong : ChangeSpec := { name := "registerStays", fn := fun _ => fun
  | [d1, d2] => { results := [.lit (.bool false)], args := [d1, d2] }
  | _ => none }
def RegisterStaysWrongFalsely : Prop := registerStaysRow.holds Try.pinned (OpenSpec.ofChange registerStaysWrong)

/-- 'carabinerlaw14.RegisterFinds': WHATEVER THE INPUT: true; the input reads as it did. -/
def registerFindsSpec : ChangeSpec := { name := "registerFinds", fn := fun _ => fun
  | [d1, d2, d3] => { results := [.lit (.bool true)], args := [d1, d2, d3] }
  | _ => none }
def registerFindsRow : OpenClaim := { program := "ytkpcmedmiiohnaa", sum := "5748393847f5f9113f24adf3490846b90de27a0431c0fa39f819c5a27bbab592", func := "carabiner/carabinerlaw14.RegisterFinds", spec := "registerFinds", unfollowed := true, recurses := true, apart := false }
def RegisterFindsSaid : Prop := registerFindsRow.holds Try.pinned (OpenSpec.ofChange registerFindsSpec)

/-- ITS FALSE NEIGHBOUR: 'it returns false'. Refute it at one input. -/
def registerFindsWrong : ChangeSpec := { name := "registerFinds", fn := fun _ => fun
  | [d1, d2, d3] => { results := [.lit (.bool false)], args := [d1, d2, d3] }
  | _ => none }
def RegisterFindsWrongFalsely : Prop := registerFindsRow.holds Try.pinned (OpenSpec.ofChange registerFindsWrong)

/-- 'carabinerlaw14.RegisterRows': WHATEVER THE INPUT: true; the input reads as it did. -/
def registerRowsSpec : ChangeSpec := { name := "registerRows", fn := fun _ => fun
  | [d1, d2] => { results := [.lit (.bool true)], args := [d1, d2] }
  | _ => none }
def registerRowsRow : OpenClaim := { program := "ytkpcmedmiiohnaa", sum := "5748393847f5f9113f24adf3490846b90de27a0431c0fa39f819c5a27bbab592", func := "carabiner/carabinerlaw14.RegisterRows", spec := "registerRows", unfollowed := true, recurses := true, apart := false }
def RegisterRowsSaid : Prop := registerRowsRow.holds Try.pinned (OpenSpec.ofChange registerRowsSpec)

/-- ITS FALSE NEIGHBOUR: 'it returns false'. Refute it at one input. -/
def registerRowsWrong : ChangeSpec := { name := "registerRows", fn := fun _ => fun
  | [d1, d2] => { results := [.lit (.bool false)], args := [d1, d2] }
  | _ => none }
def RegisterRowsWrongFalsely : Prop := registerRowsRow.holds Try.pinned (OpenSpec.ofChange registerRowsWrong)

/- THE SECOND FORM. 'bulk': how many values and letters a reading holds, each counted each time it is reached (what is shared counts as often as it is met; a slice's spare places count too). A statement '..UptoSaid' is the law's where the arguments, and the package variables that the reading takes, are together of bulk at most 1048576: NARROWER than '..Said'. Prove '..Said' where nothing that the law and all that it calls make is longer than what came in: it says more and counts as full. Else prove '..UptoSaid'. A law counts once. -/
mutual
def uptoBulk {H : Type} : DataW H → Nat
  | .lit (.string bytes) => bytes.length + 1
  | .lit _ => 1
  | .nil => 1
  | .ptr d => uptoBulk d + 1
  | .slice elems spare => uptoBulkAll elems + uptoBulkAll spare + 1
  | .agg parts => uptoBulkAll parts + 1
  | .iface _ d => uptoBulk d + 1
  | .map entries => uptoBulkEntries entries + 1
  | .held _ => 1
def uptoBulkAll {H : Type} : List (DataW H) → Nat
  | [] => 0
  | d :: r => uptoBulk d + uptoBulkAll r
def uptoBulkEntries {H : Type} : List (Lit × DataW H) → Nat
  | [] => 0
  | x :: r => uptoBulkEntry x + uptoBulkEntries r
def uptoBulkEntry {H : Type} : Lit × DataW H → Nat
  | (.string bytes, d) => bytes.length + uptoBulk d + 1
  | (_, d) => uptoBulk d + 1
 end
def uptoSmall : (H : Type) → List (DataW H) → Bool := fun _ ds => decide (uptoBulkAll ds ≤ 1048576)
def OpenSpec.upto (s : _root_.Go.ChangeSpec) : _root_.Go.OpenSpec := { _root_.Go.OpenSpec.ofChange s with cond := some uptoSmall }

/-- 'carabinerlaw14.RegisterAll', WHERE WHAT IT READS IS OF BULK AT MOST 1048576: true; the input reads as it did. -/
def registerAllUptoRow : OpenClaim := { program := "ytkpcmedmiiohnaa", sum := "5748393847f5f9113f24adf3490846b90de27a0431c0fa39f819c5a27bbab592", func := "carabiner/carabinerlaw14.RegisterAll", spec := "registerAll", unfollowed := true, recurses := true, apart := false, narrowed := true }
def RegisterAllUptoSaid : Prop := registerAllUptoRow.holds Try.pinned (OpenSpec.upto registerAllSpec)

/-- 'carabinerlaw14.RegisterStays', WHERE WHAT IT READS IS OF BULK AT MOST 1048576: true; the input reads as it did. -/
def registerStaysUptoRow : OpenClaim := { program := "ytkpcmedmiiohnaa", sum := "5748393847f5f9113f24adf3490846b90de27a0431c0fa39f819c5a27bbab592", func := "carabiner/carabinerlaw14.RegisterStays", spec := "registerStays", unfollowed := true, recurses := true, apart := false, narrowed := true }
def RegisterStaysUptoSaid : Prop := registerStaysUptoRow.holds Try.pinned (OpenSpec.upto registerStaysSpec)

/-- 'carabinerlaw14.RegisterFinds', WHERE WHAT IT READS IS OF BULK AT MOST 1048576: true; the input reads as it did. -/
def registerFindsUptoRow : OpenClaim := { program := "ytkpcmedmiiohnaa", sum := "5748393847f5f9113f24adf3490846b90de27a0431c0fa39f819c5a27bbab592", func := "carabiner/carabinerlaw14.RegisterFinds", spec := "registerFinds", unfollowed := true, recurses := true, apart := false, narrowed := true }
def RegisterFindsUptoSaid : Prop := registerFindsUptoRow.holds Try.pinned (OpenSpec.upto registerFindsSpec)

/-- 'carabinerlaw14.RegisterRows', WHERE WHAT IT READS IS OF BULK AT MOST 1048576: true; the input reads as it did. -/
def registerRowsUptoRow : OpenClaim := { program := "ytkpcmedmiiohnaa", sum := "5748393847f5f9113f24adf3490846b90de27a0431c0fa39f819c5a27bbab592", func := "carabiner/carabinerlaw14.RegisterRows", spec := "registerRows", unfollowed := true, recurses := true, apart := false, narrowed := true }
def RegisterRowsUptoSaid : Prop := registerRowsUptoRow.holds Try.pinned (OpenSpec.upto registerRowsSpec)

end Rows
end Go.Proofs.Ytkpcmedmiiohnaa
