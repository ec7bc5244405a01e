/-
 Merged: Layer 7: messages as values of 22 cells: six numbers, Is, a record's four cells, an entry's six, two numbers, a configuration's three.
-/
import Derived.Test.YtldfpklgbedgjaaGreatBrEnt
import Derived.Test.YtldfpklgbedgjaaGreatBrMath
import Derived.Test.YtldfpklgbedgjaaGreatBrRec
import Derived.Test.YtldfpklgbedgjaaGreatBrTerm
set_option linter.unusedSimpArgs false
set_option linter.unusedVariables false
namespace Go.Proofs.YtldfpklgbedgjaaGreat
set_option maxRecDepth 100000
set_option linter.unusedSimpArgs false
set_option linter.unusedVariables false
open Go.RowKit
def msgCells (m : Msg.M) (rt et sv dv : Value) : Array Value := #[.int .i64 m.kind, .int .i64 m.src, .int .i64 m.dst, .int .i64 m.term, .int .i64 m.shard, .int .i64 m.number, .bool m.is, .int .i64 m.reco.client, .int .i64 m.reco.number, rt, .string ⟨m.reco.data.toArray⟩, .int .i64 m.ent.number, .int .i64 m.ent.kind, et, .int .i64 m.ent.tag, .int .i64 m.ent.term, .int .i64 m.ent.pos, .int .i64 m.ballot, .int .i64 m.old, .int .i64 m.conf.term, sv, dv]
def IsMsg (w : World) (v : Value) (m : Msg.M) : Prop := ∃ rt et sv dv, v = .agg (msgCells m rt et sv dv) ∧ Ints w rt m.reco.tags ∧ Ints w et m.ent.cut ∧ Ints w sv m.conf.seqs ∧ IRows w dv m.conf.shards
theorem IsMsg.below {w w' : World} {v : Value} {m : Msg.M} (h : IsMsg w v m) (hb : Below w.heap.size w w') : IsMsg w' v m := by
 obtain ⟨rt, et, sv, dv, rfl, h1, h2, h3, h4⟩ := h
 exact ⟨rt, et, sv, dv, rfl, h1.below hb, h2.below hb, h3.below hb, h4.below hb⟩
theorem IsMsg.parts {w : World} {m : Msg.M} {rt et sv dv : Value} (h1 : Ints w rt m.reco.tags) (h2 : Ints w et m.ent.cut) (h3 : Ints w sv m.conf.seqs) (h4 : IRows w dv m.conf.shards) :
 IsRec w (.agg #[.int .i64 m.reco.client, .int .i64 m.reco.number, rt, .string ⟨m.reco.data.toArray⟩]) m.reco ∧ IsEnt w (.agg #[.int .i64 m.ent.number, .int .i64 m.ent.kind, et, .int .i64 m.ent.tag, .int .i64 m.ent.term, .int .i64 m.ent.pos]) m.ent ∧ IsConf w (.agg #[.int .i64 m.conf.term, sv, dv]) m.conf :=
 ⟨⟨rt, rfl, h1⟩, ⟨et, rfl, h2⟩, ⟨sv, dv, rfl, h3, h4⟩⟩
def MsgAt (T : TypeId) (w : World) (p : Nat) (m : Msg.M) (rt et sv dv : Value) : Prop := w.heap[p]? = some (.cells (msgCells m rt et sv dv) T (0, 0))
theorem MsgAt.new (T : TypeId) (w : World) (m : Msg.M) (rt et sv dv : Value) : MsgAt T (w.alloc (.cells (msgCells m rt et sv dv) T)) w.heap.size m rt et sv dv := heap_alloc_new w _
theorem MsgAt.lt {T : TypeId} {w : World} {p : Nat} {m : Msg.M} {rt et sv dv : Value} (h : MsgAt T w p m rt et sv dv) : p < w.heap.size := (Array.getElem?_eq_some_iff.1 h).1
theorem MsgAt.ext {T : TypeId} {w w' : World} {p : Nat} {m : Msg.M} {rt et sv dv : Value} (h : MsgAt T w p m rt et sv dv) (hE : Ext w w') : MsgAt T w' p m rt et sv dv := (hE.block p h.lt).trans h
theorem MsgAt.but {T : TypeId} {w w' : World} {p q : Nat} {m : Msg.M} {rt et sv dv : Value} (h : MsgAt T w p m rt et sv dv) (hB : But q w w') (hne : p ≠ q) : MsgAt T w' p m rt et sv dv := (hB.block p h.lt hne).trans h
theorem MsgAt.head {T : TypeId} {w : World} {p : Nat} {m : Msg.M} {rt et sv dv : Value} (h : MsgAt T w p m rt et sv dv) : w.cell? ⟨p, 0, none⟩ = some (.int .i64 m.kind) ∧ w.cell? ⟨p, 1, none⟩ = some (.int .i64 m.src) ∧ w.cell? ⟨p, 2, none⟩ = some (.int .i64 m.dst) ∧ w.cell? ⟨p, 3, none⟩ = some (.int .i64 m.term) ∧ w.cell? ⟨p, 4, none⟩ = some (.int .i64 m.shard) ∧ w.cell? ⟨p, 5, none⟩ = some (.int .i64 m.number) ∧ w.cell? ⟨p, 6, none⟩ = some (.bool m.is) :=
 ⟨cell_of_heap h 0, cell_of_heap h 1, cell_of_heap h 2, cell_of_heap h 3, cell_of_heap h 4, cell_of_heap h 5, cell_of_heap h 6⟩
theorem MsgAt.reco {T : TypeId} {w : World} {p : Nat} {m : Msg.M} {rt et sv dv : Value} (h : MsgAt T w p m rt et sv dv) : w.cell? ⟨p, 7, none⟩ = some (.int .i64 m.reco.client) ∧ w.cell? ⟨p, 8, none⟩ = some (.int .i64 m.reco.number) ∧ w.cell? ⟨p, 9, none⟩ = some rt ∧ w.cell? ⟨p, 10, none⟩ = some (.string ⟨m.reco.data.toArray⟩) :=
 ⟨cell_of_heap h 7, cell_of_heap h 8, cell_of_heap h 9, cell_of_heap h 10⟩
theorem MsgAt.ent {T : TypeId} {w : World} {p : Nat} {m : Msg.M} {rt et sv dv : Value} (h : MsgAt T w p m rt et sv dv) : w.cell? ⟨p, 11, none⟩ = some (.int .i64 m.ent.number) ∧ w.cell? ⟨p, 12, none⟩ = some (.int .i64 m.ent.kind) ∧ w.cell? ⟨p, 13, none⟩ = some et ∧ w.cell? ⟨p, 14, none⟩ = some (.int .i64 m.ent.tag) ∧ w.cell? ⟨p, 15, none⟩ = some (.int .i64 m.ent.term) ∧ w.cell? ⟨p, 16, none⟩ = some (.int .i64 m.ent.pos) :=
 ⟨cell_of_heap h 11, cell_of_heap h 12, cell_of_heap h 13, cell_of_heap h 14, cell_of_heap h 15, cell_of_heap h 16⟩
theorem MsgAt.votes {T : TypeId} {w : World} {p : Nat} {m : Msg.M} {rt et sv dv : Value} (h : MsgAt T w p m rt et sv dv) : w.cell? ⟨p, 17, none⟩ = some (.int .i64 m.ballot) ∧ w.cell? ⟨p, 18, none⟩ = some (.int .i64 m.old) :=
 ⟨cell_of_heap h 17, cell_of_heap h 18⟩
theorem MsgAt.conf {T : TypeId} {w : World} {p : Nat} {m : Msg.M} {rt et sv dv : Value} (h : MsgAt T w p m rt et sv dv) : w.cell? ⟨p, 19, none⟩ = some (.int .i64 m.conf.term) ∧ w.cell? ⟨p, 20, none⟩ = some sv ∧ w.cell? ⟨p, 21, none⟩ = some dv :=
 ⟨cell_of_heap h 19, cell_of_heap h 20, cell_of_heap h 21⟩
end Go.Proofs.YtldfpklgbedgjaaGreat
