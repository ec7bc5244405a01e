/-
 Merged: Layer 7, the document: what a message has, by its kind, read.
-/
import Derived.Test.YtldfpklgbedgjaaGreatBrEnt
import Derived.Test.YtldfpklgbedgjaaGreatBrRec
import Derived.Test.YtldfpklgbedgjaaGreatBrTerm
import Derived.Test.YtldfpklgbedgjaaGreatMsgT
namespace Go.Proofs.YtldfpklgbedgjaaGreat
set_option linter.unusedSimpArgs false
set_option linter.unusedVariables false
set_option maxRecDepth 100000
open Go.RowKit
def rdShardR (x : St7) : St7 := ⟨{ x.m with shard := ((x.s.num 1099511627776).2 : Nat) }, x.err, (x.s.num 1099511627776).1⟩
def fieldsR (x : St7) : St7 :=
 if x.m.kind = 1 then rdReco (rdNumber (rdShardR x))
 else if x.m.kind = 2 then rdNumber (rdShardR x)
 else if x.m.kind = 3 then rdEnt x
 else if x.m.kind = 4 ∨ x.m.kind = 6 then rdIs (rdNumber x)
 else if x.m.kind = 7 then rdBallot x
 else if x.m.kind = 8 then (if (rdOld (rdBallot x)).m.old = 0 then rdOld (rdBallot x) else rdConf (rdOld (rdBallot x)))
 else if x.m.kind = 9 then rdConf (rdBallot x)
 else if x.m.kind = 10 then rdIs (rdBallot x)
 else x
def RowsM (w : World) (rt et sv dv : Value) (m : Msg.M) : Prop := RowI w rt m.reco.tags ∧ RowI w et m.ent.cut ∧ RowI w sv m.conf.seqs ∧ RowRR w dv m.conf.shards
theorem RowsM.keeps {w w' : World} {rt et sv dv : Value} {m : Msg.M} (h : RowsM w rt et sv dv m) (k : Keeps w w') : RowsM w' rt et sv dv m := ⟨k.i _ _ h.1, k.i _ _ h.2.1, k.i _ _ h.2.2.1, k.r _ _ h.2.2.2⟩
theorem RowsM.sl {w : World} {rt et sv dv : Value} {m : Msg.M} (h : RowsM w rt et sv dv m) : IsSl rt ∧ IsSl et ∧ IsSl sv ∧ IsSl dv := ⟨intsSlice h.1.ints, intsSlice h.2.1.ints, intsSlice h.2.2.1.ints, irowsSlice h.2.2.2.rows⟩
theorem StAt.keeps {w w' : World} {q : Nat} {l : List UInt8} {e : Int} {m : Msg.M} {rt et sv dv : Value} (h : StAt w q l e m rt et sv dv) (hB : But q w w') : Keeps w w' := Keeps.ofBut h (by decide) (by decide) (by decide) hB
def GivesFields (w : World) (n : Nat) (X : St7) (x : Ending) (w' : World) : Prop := ∃ l' rt et sv dv, x = .returned (.agg (stCells l' X.s.err X.m rt et sv dv)) ∧ Sim l' X.s ∧ l'.length ≤ n ∧ RowsM w' rt et sv dv X.m ∧ Ext w w'
end Go.Proofs.YtldfpklgbedgjaaGreat
