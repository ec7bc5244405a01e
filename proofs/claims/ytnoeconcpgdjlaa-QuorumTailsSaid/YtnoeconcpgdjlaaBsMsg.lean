/-
  Merged: Messages, the mathematics: read part by part, each up to whatever bound that lets through what a right message has; Layer 7: messages as values of 22 cells: six numbers, Is, a record's four cells, an entry's six, two numbers, a configuration's three; Layer 7, the program: which fields a message has; Layer 7, the program: may a message be; Layer 7: a message's block, allocated and stored whole; Layer 7, the program: may a message be; Layer 7: a message of the document's type, allocated and stored whole; Layer 7: a message out of what comes in.
-/
import Derived.Deep.MidRow
import Derived.Test.YtnoeconcpgdjlaaBsEnt
import Derived.Test.YtnoeconcpgdjlaaBsEnt2
import Derived.Test.YtnoeconcpgdjlaaBsMath
import Derived.Test.YtnoeconcpgdjlaaBsMath2
import Derived.Test.YtnoeconcpgdjlaaBsRec
import Derived.Test.YtnoeconcpgdjlaaBsTerm
import Derived.Test.YtnoeconcpgdjlaaBsVec

namespace Go.Proofs.Ytnoeconcpgdjlaa
set_option linter.unusedSimpArgs false
set_option linter.unusedVariables false
/- Messages, the mathematics: read part by part, each up to whatever bound that lets through what a right message has. -/
namespace Msg
namespace By

/-- Up to what each part is read. -/
structure Bds where
  k : Int
  s : Int
  d : Int
  t : Int
  sh : Int
  n : Int
  b : Int
  o : Int
  x : Nat → Int
structure Bds.Ok (B : Bds) : Prop where
  k : 10 ≤ B.k
  s : 15 ≤ B.s
  d : 15 ≤ B.d
  t : 64 ≤ B.t
  sh : 7 ≤ B.sh
  n : 1099511627776 ≤ B.n
  b : 1099511627776 ≤ B.b
  o : 1099511627776 ≤ B.o
  x1 : ∀ r, Rec.right r = true → ((Rec.enc r).length : Int) ≤ B.x 1
  x3 : ∀ e, Ent.right e = true → ((Ent.enc e).length : Int) ≤ B.x 3
  x8 : ∀ c, Term.right c = true → ((Term.enc c).length : Int) ≤ B.x 8
  x9 : ∀ c, Term.right c = true → ((Term.enc c).length : Int) ≤ B.x 9
def optNum (c : Bool) (most : Int) (s : Pack.St) : Pack.St × Nat := if c then s.num most else (s, 0)
def optText (c : Bool) (most : Int) (s : Pack.St) : Pack.St × List UInt8 := if c then s.text most else (s, [])
def stK (B : Bds) (l : List UInt8) : Pack.St × Nat := Pack.St.num ⟨l, 0⟩ B.k
def stS (B : Bds) (l : List UInt8) : Pack.St × Nat := (stK B l).1.num B.s
def stD (B : Bds) (l : List UInt8) : Pack.St × Nat := (stS B l).1.num B.d
def stT (B : Bds) (l : List UInt8) : Pack.St × Nat := (stD B l).1.num B.t
def k (B : Bds) (l : List UInt8) : Nat := (stK B l).2
def stShard (B : Bds) (l : List UInt8) : Pack.St × Nat := optNum (decide (k B l = 1 ∨ k B l = 2)) B.sh (stT B l).1
def stNumber (B : Bds) (l : List UInt8) : Pack.St × Nat := optNum (decide (k B l = 1 ∨ k B l = 2 ∨ k B l = 4 ∨ k B l = 6)) B.n (stShard B l).1
def stBallot (B : Bds) (l : List UInt8) : Pack.St × Nat := optNum (decide (7 ≤ k B l ∧ k B l ≤ 10)) B.b (stNumber B l).1
def stOld (B : Bds) (l : List UInt8) : Pack.St × Nat := optNum (decide (k B l = 8)) B.o (stBallot B l).1
def stIs (B : Bds) (l : List UInt8) : Pack.St × Bool := optBool (decide (k B l = 4 ∨ k B l = 6 ∨ k B l = 10)) (stOld B l).1
def stText (B : Bds) (l : List UInt8) : Pack.St × List UInt8 := optText (decide (k B l = 1 ∨ k B l = 3 ∨ k B l = 9 ∨ (k B l = 8 ∧ (stOld B l).2 ≠ 0))) (B.x (k B l)) (stIs B l).1
def recOf (B : Bds) (l : List UInt8) : Rec.R := if k B l = 1 then (Rec.dec (stText B l).2).getD rec0 else rec0
def entOf (B : Bds) (vd : List UInt8 → List Int) (l : List UInt8) : Ent.E := if k B l = 3 then (Ent.dec vd (stText B l).2).getD ent0 else ent0
def confOf (B : Bds) (l : List UInt8) : Term.C := if k B l = 9 ∨ (k B l = 8 ∧ (stOld B l).2 ≠ 0) then (Term.dec (stText B l).2).getD conf0 else conf0
def read (B : Bds) (vd : List UInt8 → List Int) (l : List UInt8) : M := ⟨k B l, (stS B l).2, (stD B l).2, (stT B l).2, (stShard B l).2, (stNumber B l).2, (stIs B l).2, recOf B l, entOf B vd l, (stBallot B l).2, (stOld B l).2, confOf B l⟩

/-! What is read without an error, and to its end, is what would be written. -/
/-- A record that is told is there. -/
def recGot (B : Bds) (l : List UInt8) : Bool := !(decide (k B l = 1)) || (Rec.dec (stText B l).2).isSome
/-- Read so, bytes with a right sum are a message, or none, as the document has it. -/
def ok (B : Bds) (vd : List UInt8 → List Int) (l : List UInt8) : Bool := ((stText B l).1.done == 0) && (recGot B l && right (read B vd l))
end By

/-- Whether all fields are the same. -/
def alike (a b : M) : Bool := ((a.kind == b.kind) && ((a.src == b.src) && ((a.dst == b.dst) && ((a.term == b.term) && ((a.shard == b.shard) && (a.number == b.number)))))) && (((a.is == b.is) && ((a.ballot == b.ballot) && (a.old == b.old))) && (Rec.same a.reco b.reco && (Ent.alike a.ent b.ent && Term.alike a.conf b.conf)))
theorem alike_iff (a b : M) : alike a b = true ↔ a = b := by
  unfold alike
  simp only [Bool.and_eq_true, beq_iff_eq, Rec.same_iff, Ent.alike_iff, Term.alike_iff]
  constructor
  · rintro ⟨⟨h1, h2, h3, h4, h5, h6⟩, ⟨h7, h8, h9⟩, h10, h11, h12⟩
    exact ext h1 h2 h3 h4 h5 h6 h7 h10 h11 h8 h9 h12
  · rintro rfl
    simp
theorem alike_self (a : M) : alike a a = true := (alike_iff a a).2 rfl
end Msg
end Go.Proofs.Ytnoeconcpgdjlaa

namespace Go.Proofs.Ytnoeconcpgdjlaa
set_option maxRecDepth 100000
set_option linter.unusedSimpArgs false
set_option linter.unusedVariables false
open Go.RowKit
/- Layer 7: messages as values of 22 cells: six numbers, Is, a record's four cells, an entry's six, two numbers, a configuration's three. -/
/-- The cells of a message whose rows are rt (tags), et (cut), sv (sequencers), dv (shards). -/
def msgCells (m : Msg.M) (rt et sv dv : Value) : Array Value := #[.int .i64 m.kind, .int .i64 m.src, .int .i64 m.dst, .int .i64 m.term, .int .i64 m.shard, .int .i64 m.number, .bool m.is, .int .i64 m.reco.client, .int .i64 m.reco.number, rt, .string ⟨m.reco.data.toArray⟩, .int .i64 m.ent.number, .int .i64 m.ent.kind, et, .int .i64 m.ent.tag, .int .i64 m.ent.term, .int .i64 m.ent.pos, .int .i64 m.ballot, .int .i64 m.old, .int .i64 m.conf.term, sv, dv]
def IsMsg (w : World) (v : Value) (m : Msg.M) : Prop := ∃ rt et sv dv, v = .agg (msgCells m rt et sv dv) ∧ Ints w rt m.reco.tags ∧ Ints w et m.ent.cut ∧ Ints w sv m.conf.seqs ∧ IRows w dv m.conf.shards
theorem IsMsg.below {w w' : World} {v : Value} {m : Msg.M} (h : IsMsg w v m) (hb : Below w.heap.size w w') : IsMsg w' v m := by
  obtain ⟨rt, et, sv, dv, rfl, h1, h2, h3, h4⟩ := h
  exact ⟨rt, et, sv, dv, rfl, h1.below hb, h2.below hb, h3.below hb, h4.below hb⟩
theorem IsMsg.parts {w : World} {m : Msg.M} {rt et sv dv : Value} (h1 : Ints w rt m.reco.tags) (h2 : Ints w et m.ent.cut) (h3 : Ints w sv m.conf.seqs) (h4 : IRows w dv m.conf.shards) :
    IsRec w (.agg #[.int .i64 m.reco.client, .int .i64 m.reco.number, rt, .string ⟨m.reco.data.toArray⟩]) m.reco ∧ IsEnt w (.agg #[.int .i64 m.ent.number, .int .i64 m.ent.kind, et, .int .i64 m.ent.tag, .int .i64 m.ent.term, .int .i64 m.ent.pos]) m.ent ∧ IsConf w (.agg #[.int .i64 m.conf.term, sv, dv]) m.conf :=
  ⟨⟨rt, rfl, h1⟩, ⟨et, rfl, h2⟩, ⟨sv, dv, rfl, h3, h4⟩⟩
/-- A message's value, opened. -/
theorem IsMsg.shape {w : World} {v : Value} {m : Msg.M} (h : IsMsg w v m) : ∃ a0 n0 c0 a1 n1 c1 a2 n2 c2 a3 n3 c3, v = .agg (msgCells m (.slice a0 n0 c0) (.slice a1 n1 c1) (.slice a2 n2 c2) (.slice a3 n3 c3)) := by
  obtain ⟨rt, et, sv, dv, rfl, h1, h2, h3, h4⟩ := h
  obtain ⟨a0, c0, rfl, _⟩ := h1.open
  obtain ⟨a1, c1, rfl, _⟩ := h2.open
  obtain ⟨a2, c2, rfl, _⟩ := h3.open
  obtain ⟨a3, c3, rfl, _⟩ := h4.open
  exact ⟨_, _, _, _, _, _, _, _, _, _, _, _, rfl⟩
/-- Block p is a message (of the program's type, or of the document's). -/
def MsgAt (T : TypeId) (w : World) (p : Nat) (m : Msg.M) (rt et sv dv : Value) : Prop := w.heap[p]? = some (.cells (msgCells m rt et sv dv) T (0, 0))
theorem MsgAt.new (T : TypeId) (w : World) (m : Msg.M) (rt et sv dv : Value) : MsgAt T (w.alloc (.cells (msgCells m rt et sv dv) T)) w.heap.size m rt et sv dv := heap_alloc_new w _
theorem MsgAt.lt {T : TypeId} {w : World} {p : Nat} {m : Msg.M} {rt et sv dv : Value} (h : MsgAt T w p m rt et sv dv) : p < w.heap.size := (Array.getElem?_eq_some_iff.1 h).1
theorem MsgAt.ext {T : TypeId} {w w' : World} {p : Nat} {m : Msg.M} {rt et sv dv : Value} (h : MsgAt T w p m rt et sv dv) (hE : Ext w w') : MsgAt T w' p m rt et sv dv := (hE.block p h.lt).trans h
theorem MsgAt.but {T : TypeId} {w w' : World} {p q : Nat} {m : Msg.M} {rt et sv dv : Value} (h : MsgAt T w p m rt et sv dv) (hB : But q w w') (hne : p ≠ q) : MsgAt T w' p m rt et sv dv := (hB.block p h.lt hne).trans h
theorem MsgAt.head {T : TypeId} {w : World} {p : Nat} {m : Msg.M} {rt et sv dv : Value} (h : MsgAt T w p m rt et sv dv) : w.cell? ⟨p, 0, none⟩ = some (.int .i64 m.kind) ∧ w.cell? ⟨p, 1, none⟩ = some (.int .i64 m.src) ∧ w.cell? ⟨p, 2, none⟩ = some (.int .i64 m.dst) ∧ w.cell? ⟨p, 3, none⟩ = some (.int .i64 m.term) ∧ w.cell? ⟨p, 4, none⟩ = some (.int .i64 m.shard) ∧ w.cell? ⟨p, 5, none⟩ = some (.int .i64 m.number) ∧ w.cell? ⟨p, 6, none⟩ = some (.bool m.is) :=
  ⟨cell_of_heap h 0, cell_of_heap h 1, cell_of_heap h 2, cell_of_heap h 3, cell_of_heap h 4, cell_of_heap h 5, cell_of_heap h 6⟩
theorem MsgAt.reco {T : TypeId} {w : World} {p : Nat} {m : Msg.M} {rt et sv dv : Value} (h : MsgAt T w p m rt et sv dv) : w.cell? ⟨p, 7, none⟩ = some (.int .i64 m.reco.client) ∧ w.cell? ⟨p, 8, none⟩ = some (.int .i64 m.reco.number) ∧ w.cell? ⟨p, 9, none⟩ = some rt ∧ w.cell? ⟨p, 10, none⟩ = some (.string ⟨m.reco.data.toArray⟩) :=
  ⟨cell_of_heap h 7, cell_of_heap h 8, cell_of_heap h 9, cell_of_heap h 10⟩
theorem MsgAt.ent {T : TypeId} {w : World} {p : Nat} {m : Msg.M} {rt et sv dv : Value} (h : MsgAt T w p m rt et sv dv) : w.cell? ⟨p, 11, none⟩ = some (.int .i64 m.ent.number) ∧ w.cell? ⟨p, 12, none⟩ = some (.int .i64 m.ent.kind) ∧ w.cell? ⟨p, 13, none⟩ = some et ∧ w.cell? ⟨p, 14, none⟩ = some (.int .i64 m.ent.tag) ∧ w.cell? ⟨p, 15, none⟩ = some (.int .i64 m.ent.term) ∧ w.cell? ⟨p, 16, none⟩ = some (.int .i64 m.ent.pos) :=
  ⟨cell_of_heap h 11, cell_of_heap h 12, cell_of_heap h 13, cell_of_heap h 14, cell_of_heap h 15, cell_of_heap h 16⟩
theorem MsgAt.votes {T : TypeId} {w : World} {p : Nat} {m : Msg.M} {rt et sv dv : Value} (h : MsgAt T w p m rt et sv dv) : w.cell? ⟨p, 17, none⟩ = some (.int .i64 m.ballot) ∧ w.cell? ⟨p, 18, none⟩ = some (.int .i64 m.old) :=
  ⟨cell_of_heap h 17, cell_of_heap h 18⟩
theorem MsgAt.conf {T : TypeId} {w : World} {p : Nat} {m : Msg.M} {rt et sv dv : Value} (h : MsgAt T w p m rt et sv dv) : w.cell? ⟨p, 19, none⟩ = some (.int .i64 m.conf.term) ∧ w.cell? ⟨p, 20, none⟩ = some sv ∧ w.cell? ⟨p, 21, none⟩ = some dv :=
  ⟨cell_of_heap h 19, cell_of_heap h 20, cell_of_heap h 21⟩
/- Layer 7, the program: which fields a message has. -/
/-- The fields as a set of bits. -/
def maskOf (k o : Int) : Int := if k = 1 then 67 else if k = 2 then 3 else if k = 3 then 4 else if k = 4 ∨ k = 6 then 34 else if k = 8 then (if o = 0 then 24 else 152) else if k = 9 then 136 else if k = 7 then 8 else if k = 10 then 40 else 0
def mask (m : Msg.M) : Int := maskOf m.kind m.old

theorem box_msg (w : World) (m : Msg.M) (rt et sv dv : Value) : (Instr.box 77 (.agg (msgCells m rt et sv dv))).run Try.prog w = .ok (.pointer (some ⟨w.heap.size, 0, none⟩)) (w.alloc (.cells (msgCells m rt et sv dv) 77)) := by kernel_rfl

set_option maxHeartbeats 4000000 in
theorem isBetween7_any (n a b : Int) (w : World) : Calls Try.prog 66 #[.int .i64 n, .int .i64 a, .int .i64 b] w fun e w' => e = .returned (.bool (decide (a ≤ n ∧ n ≤ b))) ∧ w = w' := by
  by_cases h0 : a ≤ n
  · by_cases h1 : n ≤ b
    · have e : decide (a ≤ n ∧ n ≤ b) = true := by simp [h0, h1]
      rw [e]
      clear e
      go_enter Try.func66, Try.ntmps66
      go_wp2
      go_ret
      exact ⟨rfl, rfl⟩
    · have e : decide (a ≤ n ∧ n ≤ b) = false := by simp [h1]
      rw [e]
      clear e
      go_enter Try.func66, Try.ntmps66
      go_wp2
      go_ret
      exact ⟨rfl, rfl⟩
  · have e : decide (a ≤ n ∧ n ≤ b) = false := by simp [h0]
    rw [e]
    clear e
    go_enter Try.func66, Try.ntmps66
    go_wp2
    go_ret
    exact ⟨rfl, rfl⟩
theorem isNode7_any (n : Int) (w : World) : Calls Try.prog 67 #[.int .i64 n] w fun e w' => e = .returned (.bool (decide (0 ≤ n ∧ n ≤ 15))) ∧ w = w' := by
  go_enter Try.func67, Try.ntmps67
  go_wp2_with fail
  refine (isBetween7_any n 0 15 _).mono ?_
  rintro e w' ⟨rfl, rfl⟩
  go_wp2_with fail
  go_ret
  exact ⟨by simp, rfl⟩

theorem kindsCases (k : Int) : k = 1 ∨ k = 2 ∨ k = 3 ∨ k = 4 ∨ k = 6 ∨ k = 8 ∨ k = 9 ∨ k = 7 ∨ k = 10 ∨ ((k == 1) = false ∧ (k == 2) = false ∧ (k == 3) = false ∧ (k == 4) = false ∧ (k == 6) = false ∧ (k == 8) = false ∧ (k == 9) = false ∧ (k == 7) = false ∧ (k == 10) = false) := by
  simp only [beq_eq_false_iff_ne]
  omega
theorem maskNone {k o : Int} (h1 : (k == 1) = false) (h2 : (k == 2) = false) (h3 : (k == 3) = false) (h4 : (k == 4) = false) (h6 : (k == 6) = false) (h8 : (k == 8) = false) (h9 : (k == 9) = false) (h7 : (k == 7) = false) (h10 : (k == 10) = false) : maskOf k o = 0 := by
  simp only [beq_eq_false_iff_ne] at h1 h2 h3 h4 h6 h7 h8 h9 h10
  simp [maskOf, h1, h2, h3, h4, h6, h7, h8, h9, h10]
theorem maskOld {o : Int} (h : (o == 0) = false) : maskOf 8 o = 152 := by
  rw [beq_eq_false_iff_ne] at h
  simp [maskOf, h]

set_option maxHeartbeats 8000000 in
theorem fieldsOf_flat (m : Msg.M) (rt et sv dv : Value) (w : World) :
    Calls Try.prog 68 #[.agg (msgCells m rt et sv dv)] w fun e w' => e = .returned (.int .i64 (mask m)) ∧ Ext w w' := by
  have hbx := box_msg
  have hA := MsgAt.new 77 w m rt et sv dv
  have c0 := hA.head.1
  have c18 := hA.votes.2
  have hE : Ext w (w.alloc (.cells (msgCells m rt et sv dv) 77)) := Ext.alloc _ _
  unfold mask
  generalize hM : msgCells m rt et sv dv = M at *
  generalize m.kind = k at *
  generalize m.old = o at *
  clear hM hA
  rcases kindsCases k with rfl | rfl | rfl | rfl | rfl | rfl | rfl | rfl | rfl | ⟨k1, k2, k3, k4, k6, k8, k9, k7, k10⟩
  case inr.inr.inr.inr.inr.inl =>
    cases ho : (o == 0) with
    | true =>
      rw [beq_iff_eq] at ho
      subst ho
      go_enter Try.func68, Try.ntmps68
      go_wp2_with fail
      go_ret
      exact ⟨rfl, hE⟩
    | false =>
      have HM := Lib.hid (maskOld ho)
      go_enter Try.func68, Try.ntmps68
      go_wp2_with fail
      go_ret
      exact ⟨by rw [HM.out]; rfl, hE⟩
  case inr.inr.inr.inr.inr.inr.inr.inr.inr =>
    have HM := Lib.hid (maskNone (o := o) k1 k2 k3 k4 k6 k8 k9 k7 k10)
    go_enter Try.func68, Try.ntmps68
    go_wp2_with fail
    go_ret
    exact ⟨by rw [HM.out]; rfl, hE⟩
  all_goals
    go_enter Try.func68, Try.ntmps68
    go_wp2_with fail
    go_ret
    exact ⟨rfl, hE⟩

theorem fieldsOf_any (v : Value) (m : Msg.M) (w : World) (hv : IsMsg w v m) :
    Calls Try.prog 68 #[v] w fun e w' => e = .returned (.int .i64 (mask m)) ∧ Ext w w' := by
  obtain ⟨rt, et, sv, dv, rfl, _⟩ := hv
  exact fieldsOf_flat m rt et sv dv w

/-- Is a field in the set? -/
def hasBit (h f : Int) : Bool := bits .and .i64 h f != 0
def eith (h f : Int) (r n : Bool) : Bool := cond (hasBit h f) r n
/-- What is told under a guard. -/
def gate (p : Bool) (x : Value) : Value := match p with
  | true => x
  | false => undef
/- Layer 7, the program: may a message be. -/
theorem either_any (h f : Int) (r n : Bool) (b : Nat) (w : World) (hc : w.cell? ⟨b, 0, none⟩ = some (.int .i64 h)) :
    Calls Try.prog 69 #[.int .i64 f, .bool r, .bool n, .pointer (some ⟨b, 0, none⟩)] w fun e w' => e = .returned (.bool (eith h f r n)) ∧ Ext w w' := by
  unfold eith hasBit
  cases hb : (bits .and .i64 h f != 0) with
  | true =>
    go_enter Try.func69, Try.ntmps69
    go_wp2_with fail
    go_ret
    exact ⟨rfl, Ext.refl _⟩
  | false =>
    go_enter Try.func69, Try.ntmps69
    go_wp2_with fail
    go_ret
    exact ⟨rfl, Ext.refl _⟩
theorem isBetween7_ext (n a b : Int) (w : World) : Calls Try.prog 66 #[.int .i64 n, .int .i64 a, .int .i64 b] w fun e w' => e = .returned (.bool (decide (a ≤ n ∧ n ≤ b))) ∧ Ext w w' :=
  (isBetween7_any n a b w).mono fun _ _ h => ⟨h.1, h.2 ▸ Ext.refl _⟩
theorem isRec0 (w : World) : IsRec w (.agg #[.int .i64 0, .int .i64 0, .slice none 0 0, .string ⟨#[]⟩]) Msg.rec0 := ⟨_, rfl, ints0 w⟩
theorem isEnt0 (w : World) : IsEnt w (.agg #[.int .i64 0, .int .i64 0, .slice none 0 0, .int .i64 0, .int .i64 0, .int .i64 0]) Msg.ent0 := ⟨_, rfl, ints0 w⟩
theorem isConf0 (w : World) : IsConf w (.agg #[.int .i64 0, .slice none 0 0, .slice none 0 0]) Msg.conf0 := ⟨_, _, rfl, ints0 w, irows0 w⟩
theorem ldBool {w : World} {q i : Nat} {b : Bool} (h : w.cell? ⟨q, i, none⟩ = some (.bool b)) : (Instr.loadAt 4 (.pointer (some ⟨q, i, none⟩))).run Try.prog w = .ok (.bool b) w := by simp [go_sem, h]
theorem ldRec7 {w : World} {b o : Nat} {c n : Int} {u : Value} {s : ByteArray} (h : ∃ a n c, u = .slice a n c) (p0 : w.cell? ⟨b, o, none⟩ = some (.int .i64 c)) (p1 : w.cell? ⟨b, o + 1, none⟩ = some (.int .i64 n)) (p2 : w.cell? ⟨b, o + 2, none⟩ = some u) (p3 : w.cell? ⟨b, o + 3, none⟩ = some (.string s)) :
    (Instr.loadAt 62 (.pointer (some ⟨b, o, none⟩))).run Try.prog w = .ok (.agg #[.int .i64 c, .int .i64 n, u, .string s]) w := by
  obtain ⟨a, x, c, rfl⟩ := h
  simp [go_sem, p0, p1, p2, p3]
theorem ldEnt7 (T : TypeId) (hT : T = 74 ∨ T = 64) {w : World} {b o : Nat} {n k t m p : Int} {u : Value} (h : ∃ a n c, u = .slice a n c) (p0 : w.cell? ⟨b, o, none⟩ = some (.int .i64 n)) (p1 : w.cell? ⟨b, o + 1, none⟩ = some (.int .i64 k)) (p2 : w.cell? ⟨b, o + 2, none⟩ = some u) (p3 : w.cell? ⟨b, o + 3, none⟩ = some (.int .i64 t)) (p4 : w.cell? ⟨b, o + 4, none⟩ = some (.int .i64 m)) (p5 : w.cell? ⟨b, o + 5, none⟩ = some (.int .i64 p)) :
    (Instr.loadAt T (.pointer (some ⟨b, o, none⟩))).run Try.prog w = .ok (.agg #[.int .i64 n, .int .i64 k, u, .int .i64 t, .int .i64 m, .int .i64 p]) w := by
  obtain ⟨a, x, c, rfl⟩ := h
  rcases hT with rfl | rfl
  · simp [go_sem, p0, p1, p2, p3, p4, p5]
  · simp [go_sem, p0, p1, p2, p3, p4, p5]
theorem ldConf7 (T : TypeId) (hT : T = 36 ∨ T = 25) {w : World} {b o : Nat} {n : Int} {u d : Value} (h : ∃ a n c, u = .slice a n c) (h2 : ∃ a n c, d = .slice a n c) (p0 : w.cell? ⟨b, o, none⟩ = some (.int .i64 n)) (p1 : w.cell? ⟨b, o + 1, none⟩ = some u) (p2 : w.cell? ⟨b, o + 2, none⟩ = some d) :
    (Instr.loadAt T (.pointer (some ⟨b, o, none⟩))).run Try.prog w = .ok (.agg #[.int .i64 n, u, d]) w := by
  obtain ⟨a, x, c, rfl⟩ := h
  obtain ⟨a2, x2, c2, rfl⟩ := h2
  rcases hT with rfl | rfl
  · simp [go_sem, p0, p1, p2]
  · simp [go_sem, p0, p1, p2]
/-- All that a walk wants of a message whose cells lie in a block. -/
structure Msg7 (T : TypeId) (w : World) (p : Nat) (m : Msg.M) (rt et sv dv : Value) : Prop where
  at_ : MsgAt T w p m rt et sv dv
  hr : Ints w rt m.reco.tags
  he : Ints w et m.ent.cut
  hs : Ints w sv m.conf.seqs
  hd : IRows w dv m.conf.shards
theorem Msg7.ext {T : TypeId} {w w' : World} {p : Nat} {m : Msg.M} {rt et sv dv : Value} (h : Msg7 T w p m rt et sv dv) (hE : Ext w w') : Msg7 T w' p m rt et sv dv :=
  ⟨h.at_.ext hE, h.hr.below hE, h.he.below hE, h.hs.below hE, h.hd.below hE⟩
theorem intsSlice {w : World} {v : Value} {l : List Int} (h : Ints w v l) : ∃ a n c, v = .slice a n c := by
  obtain ⟨a, c, rfl, _⟩ := h.open
  exact ⟨_, _, _, rfl⟩
theorem irowsSlice {w : World} {v : Value} {l : List (List Int)} (h : IRows w v l) : ∃ a n c, v = .slice a n c := by
  obtain ⟨a, c, rfl, _⟩ := h.open
  exact ⟨_, _, _, rfl⟩
theorem Msg7.ldRec {T : TypeId} {w : World} {p : Nat} {m : Msg.M} {rt et sv dv : Value} (h : Msg7 T w p m rt et sv dv) : (Instr.loadAt 62 (.pointer (some ⟨p, 7, none⟩))).run Try.prog w = .ok (.agg #[.int .i64 m.reco.client, .int .i64 m.reco.number, rt, .string ⟨m.reco.data.toArray⟩]) w :=
  ldRec7 (intsSlice h.hr) h.at_.reco.1 h.at_.reco.2.1 h.at_.reco.2.2.1 h.at_.reco.2.2.2
theorem Msg7.ldEnt {T : TypeId} {w : World} {p : Nat} {m : Msg.M} {rt et sv dv : Value} (h : Msg7 T w p m rt et sv dv) (t : TypeId) (ht : t = 74 ∨ t = 64) : (Instr.loadAt t (.pointer (some ⟨p, 11, none⟩))).run Try.prog w = .ok (.agg #[.int .i64 m.ent.number, .int .i64 m.ent.kind, et, .int .i64 m.ent.tag, .int .i64 m.ent.term, .int .i64 m.ent.pos]) w :=
  ldEnt7 t ht (intsSlice h.he) h.at_.ent.1 h.at_.ent.2.1 h.at_.ent.2.2.1 h.at_.ent.2.2.2.1 h.at_.ent.2.2.2.2.1 h.at_.ent.2.2.2.2.2
theorem Msg7.ldConf {T : TypeId} {w : World} {p : Nat} {m : Msg.M} {rt et sv dv : Value} (h : Msg7 T w p m rt et sv dv) (t : TypeId) (ht : t = 36 ∨ t = 25) : (Instr.loadAt t (.pointer (some ⟨p, 19, none⟩))).run Try.prog w = .ok (.agg #[.int .i64 m.conf.term, sv, dv]) w :=
  ldConf7 t ht (intsSlice h.hs) (irowsSlice h.hd) h.at_.conf.1 h.at_.conf.2.1 h.at_.conf.2.2
theorem Msg7.isRec {T : TypeId} {w : World} {p : Nat} {m : Msg.M} {rt et sv dv : Value} (h : Msg7 T w p m rt et sv dv) : IsRec w (.agg #[.int .i64 m.reco.client, .int .i64 m.reco.number, rt, .string ⟨m.reco.data.toArray⟩]) m.reco := (IsMsg.parts (m := m) h.hr h.he h.hs h.hd).1
theorem Msg7.isEnt {T : TypeId} {w : World} {p : Nat} {m : Msg.M} {rt et sv dv : Value} (h : Msg7 T w p m rt et sv dv) : IsEnt w (.agg #[.int .i64 m.ent.number, .int .i64 m.ent.kind, et, .int .i64 m.ent.tag, .int .i64 m.ent.term, .int .i64 m.ent.pos]) m.ent := (IsMsg.parts (m := m) h.hr h.he h.hs h.hd).2.1
theorem Msg7.isConf {T : TypeId} {w : World} {p : Nat} {m : Msg.M} {rt et sv dv : Value} (h : Msg7 T w p m rt et sv dv) : IsConf w (.agg #[.int .i64 m.conf.term, sv, dv]) m.conf := (IsMsg.parts (m := m) h.hr h.he h.hs h.hd).2.2
theorem Msg7.isMsg {T : TypeId} {w : World} {p : Nat} {m : Msg.M} {rt et sv dv : Value} (h : Msg7 T w p m rt et sv dv) : IsMsg w (.agg (msgCells m rt et sv dv)) m := ⟨rt, et, sv, dv, rfl, h.hr, h.he, h.hs, h.hd⟩
theorem Msg7.range {T : TypeId} {w : World} {p : Nat} {m : Msg.M} {rt et sv dv : Value} (h : Msg7 T w p m rt et sv dv) : w.rangeAt p 0 (msgCells m rt et sv dv).toList := by
  have := World.rangeAt_of_block h.at_ 0 (msgCells m rt et sv dv).size
  rwa [Nat.zero_add, Array.extract_size] at this
theorem Msg7.ld {T : TypeId} {w : World} {p : Nat} {m : Msg.M} {rt et sv dv : Value} (h : Msg7 T w p m rt et sv dv) : (Instr.loadAt 77 (.pointer (some ⟨p, 0, none⟩))).run Try.prog w = .ok (.agg (msgCells m rt et sv dv)) w :=
  run_loadAt_mid w p 0 77 (msgCells m rt et sv dv).toList _ h.range Try.underlying77 rfl (by kernel_rfl)
theorem box_msgR (w : World) (m : Msg.M) (rt et sv dv : Value) : (Instr.box 66 (.agg (msgCells m rt et sv dv))).run Try.prog w = .ok (.pointer (some ⟨w.heap.size, 0, none⟩)) (w.alloc (.cells (msgCells m rt et sv dv) 66)) := by kernel_rfl
theorem Msg7.new {w : World} {m : Msg.M} {rt et sv dv : Value} (T : TypeId) (h1 : Ints w rt m.reco.tags) (h2 : Ints w et m.ent.cut) (h3 : Ints w sv m.conf.seqs) (h4 : IRows w dv m.conf.shards) : Msg7 T (w.alloc (.cells (msgCells m rt et sv dv) T)) w.heap.size m rt et sv dv :=
  have hE := Ext.alloc w (.cells (msgCells m rt et sv dv) T)
  ⟨MsgAt.new _ w m rt et sv dv, h1.below hE, h2.below hE, h3.below hE, h4.below hE⟩
/-- A message's value, opened, with what its rows hold. -/
theorem IsMsg.opened {w : World} {v : Value} {m : Msg.M} (h : IsMsg w v m) : ∃ a0 n0 c0 a1 n1 c1 a2 n2 c2 a3 n3 c3, v = .agg (msgCells m (.slice a0 n0 c0) (.slice a1 n1 c1) (.slice a2 n2 c2) (.slice a3 n3 c3)) ∧ Ints w (.slice a0 n0 c0) m.reco.tags ∧ Ints w (.slice a1 n1 c1) m.ent.cut ∧ Ints w (.slice a2 n2 c2) m.conf.seqs ∧ IRows w (.slice a3 n3 c3) m.conf.shards := by
  obtain ⟨rt, et, sv, dv, rfl, h1, h2, h3, h4⟩ := h
  obtain ⟨a0, n0, c0, rfl⟩ := intsSlice h1
  obtain ⟨a1, n1, c1, rfl⟩ := intsSlice h2
  obtain ⟨a2, n2, c2, rfl⟩ := intsSlice h3
  obtain ⟨a3, n3, c3, rfl⟩ := irowsSlice h4
  exact ⟨_, _, _, _, _, _, _, _, _, _, _, _, rfl, h1, h2, h3, h4⟩

/-- A closure's call in a region. -/
theorem Yield.callf {P : Program} {o : Oper} {ev : Operand → Value} {w : World} {R : Value → World → Prop} {F : FuncId} {x : Operand} {caps : Array Value} {xs : Array Operand} {ats : Array TypeId} {fn : Func} {c : Code} (ho : o.op = .call { callee := .value x, args := xs, argTypes := ats }) (hx : ev x = .func (.func F) #[] caps) (hf : P.funcs[F]? = some fn) (hb : fn.body = some c)
    (hn : (fn.name == "runtime.NumGoroutine") = false) (h : Calls P F (xs.map ev ++ caps) w (fun e w' => ∃ v, e = .returned v ∧ R v w')) : Yield P o ev w R := by
  unfold Yield execOp
  have hr : (do let d ← resolve ev { callee := .value x, args := xs, argTypes := ats } o.type; invoke d.target d.args).run P w = .ok (.enter F (xs.map ev ++ caps)) w := by
    have hn' : ¬ fn.name = "runtime.NumGoroutine" := by simpa using hn
    simp [resolve, hx, Deferred.ofValue, invoke, callFunc, hf, hn', hb]
  simp only [ho]
  rw [hr]
  exact h.mono fun e w' he => by obtain ⟨v, rfl, hv⟩ := he; exact hv
theorem MsgAt.range {T : TypeId} {w : World} {p : Nat} {m : Msg.M} {rt et sv dv : Value} (h : MsgAt T w p m rt et sv dv) : w.rangeAt p 0 (msgCells m rt et sv dv).toList := by
  have := World.rangeAt_of_block h 0 (msgCells m rt et sv dv).size
  rwa [Nat.zero_add, Array.extract_size] at this
/-- A message, loaded out of its block. -/
theorem ldM {ops : Array Oper} {rest : List Oper} {op : Oper} {a : Act} {w : World} {Q : Exit → Act → World → Prop} {T : TypeId} {p : Nat} {m : Msg.M} {rt et sv dv : Value} (hw : Region.wanted op (yielded ops a.tmps) = true) (x : Operand) (ho : op.op = .load 77 x)
    (hx : a.eval x = .pointer (some ⟨p, 0, none⟩)) (h : Msg7 T w p m rt et sv dv) (hk : wpList Try.prog ops Q rest (a.put op.dst (.agg (msgCells m rt et sv dv))) w) : wpList Try.prog ops Q (op :: rest) a w :=
  BigFrame.wpList_want hw fun K hK => wp_load_mid 77 x ho p 0 hx (msgCells m rt et sv dv).toList _ h.range Try.underlying77 rfl (by kernel_rfl) (hK _ _ hk)
/- Layer 7: a message's block, allocated and stored whole. -/
theorem there7 {T : TypeId} {w : World} {M : Nat} {rt et sv dv : Value} {m : Msg.M} (h : MsgAt T w M m rt et sv dv) (o n : Nat) (hn : o + n ≤ 22) : w.there M o n := fun j hj => by
  refine ⟨?_, frozen_of_heap h _⟩
  rw [cell_of_heap h]
  have : o + j < (msgCells m rt et sv dv).size := by show _ < 22; omega
  rw [Array.getElem?_eq_getElem this]
  rfl
/-- Whatever is loaded. -/
theorem ldAny {P : Program} {ops : Array Oper} {rest : List Oper} {op : Oper} {a : Act} {w : World} {Q : Exit → Act → World → Prop} {T : TypeId} {u v : Value} (hw : Region.wanted op (yielded ops a.tmps) = true) (x : Operand) (ho : op.op = .load T x)
    (hx : a.eval x = u) (hr : (Instr.loadAt T u).run P w = .ok v w) (hk : wpList P ops Q rest (a.put op.dst v) w) : wpList P ops Q (op :: rest) a w :=
  BigFrame.wpList_want hw fun K hK => by
    unfold Oper.wp execOp
    simp only [ho, hx]
    rw [Sem.run_bind, hr]
    exact hK _ _ hk
theorem heap_setCells (b : Nat) (T : TypeId) (fr : Nat × Nat) : ∀ (vs pre cs : List Value) (o : Nat) (w : World), w.heap[b]? = some (.cells (pre ++ cs).toArray T fr) → pre.length = o → cs.length = vs.length → (w.setCells b o vs).heap[b]? = some (.cells (pre ++ vs).toArray T fr) := by
  intro vs
  induction vs with
  | nil =>
    intro pre cs o w h _ hl
    have : cs = [] := List.length_eq_zero_iff.1 hl
    subst this
    exact h
  | cons v vs ih =>
    intro pre cs o w h ho hl
    match cs, hl with
    | c :: cs, hl =>
      have h1 := heap_setCell h o v
      have e : (pre ++ c :: cs).toArray.setIfInBounds o v = ((pre ++ [v]) ++ cs).toArray := by
        rw [List.setIfInBounds_toArray]
        congr 1
        subst ho
        rw [List.set_append_right _ _ (Nat.le_refl _)]
        simp
      rw [e] at h1
      have h2 := ih (pre ++ [v]) cs (o + 1) (w.setCell ⟨b, o, none⟩ v) h1 (by rw [List.length_append, ho]; rfl) (by simpa using hl)
      rw [show pre ++ v :: vs = (pre ++ [v]) ++ vs by simp]
      exact h2
theorem but_setCells (b : Nat) : ∀ (vs : List Value) (o : Nat) (w : World), But b w (w.setCells b o vs) := by
  intro vs
  induction vs with
  | nil => exact fun o w => But.refl _ _
  | cons v vs ih => exact fun o w => ((But.refl b w).setCell o none v).trans (ih (o + 1) _)
/-- A whole message stored in its block. -/
theorem storeAll {W : World} {T : TypeId} {q : Nat} {m m2 : Msg.M} {rt et sv dv r2 e2 s2 d2 : Value} (h : MsgAt T W q m rt et sv dv) : MsgAt T (W.setCells q 0 (msgCells m2 r2 e2 s2 d2).toList) q m2 r2 e2 s2 d2 ∧ But q W (W.setCells q 0 (msgCells m2 r2 e2 s2 d2).toList) :=
  ⟨heap_setCells q T (0, 0) (msgCells m2 r2 e2 s2 d2).toList [] (msgCells m rt et sv dv).toList 0 W h rfl rfl, but_setCells q _ _ _⟩
theorem stM {W : World} {T : TypeId} {q : Nat} {m m2 : Msg.M} {rt et sv dv r2 e2 s2 d2 : Value} (h : MsgAt T W q m rt et sv dv) (h1 : ∃ a n c, r2 = .slice a n c) (h2 : ∃ a n c, e2 = .slice a n c) (h3 : ∃ a n c, s2 = .slice a n c) (h4 : ∃ a n c, d2 = .slice a n c) :
    (Instr.storeAt 77 (.pointer (some ⟨q, 0, none⟩)) (.agg (msgCells m2 r2 e2 s2 d2))).run Try.prog W = .ok () (W.setCells q 0 (msgCells m2 r2 e2 s2 d2).toList) := by
  obtain ⟨_, _, _, rfl⟩ := h1
  obtain ⟨_, _, _, rfl⟩ := h2
  obtain ⟨_, _, _, rfl⟩ := h3
  obtain ⟨_, _, _, rfl⟩ := h4
  exact run_storeAt_mid W q 0 77 _ (there7 h 0 22 (by omega)) (by kernel_rfl) (by simp [msgCells, Value.oneCell'])
/-- A message's block, new. -/
theorem allocM {ops : Array Oper} {rest : List Oper} {op : Oper} {a : Act} {w : World} {Q : Exit → Act → World → Prop} (hw : Region.wanted op (yielded ops a.tmps) = true) (ho : op.op = .alloc 77)
    (h : ∀ W b, Hid (MsgAt 77 W b Msg.none0 (.slice none 0 0) (.slice none 0 0) (.slice none 0 0) (.slice none 0 0)) → Hid (Ext w W) → Hid (b = w.heap.size) → wpList Try.prog ops Q rest (a.put op.dst (.pointer (some ⟨b, 0, none⟩))) W) : wpList Try.prog ops Q (op :: rest) a w :=
  BigFrame.wpList_want hw fun K hK => by
    have hr : (execOp a.eval op).run Try.prog w = .ok (.value (.pointer (some ⟨w.heap.size, 0, none⟩))) (w.alloc (.cells (msgCells Msg.none0 (.slice none 0 0) (.slice none 0 0) (.slice none 0 0) (.slice none 0 0)) 77)) := by
      unfold execOp
      simp only [ho]
      kernel_rfl
    unfold Oper.wp
    rw [hr]
    exact hK _ _ (h _ _ (Lib.hid (MsgAt.new _ w _ _ _ _ _)) (Lib.hid (Ext.alloc _ _)) (Lib.hid rfl))
/-- A message stored whole. -/
theorem putM {ops : Array Oper} {rest : List Oper} {op : Oper} {a : Act} {w : World} {Q : Exit → Act → World → Prop} {q : Nat} {m m2 : Msg.M} {rt et sv dv r2 e2 s2 d2 : Value} (hw : Region.wanted op (yielded ops a.tmps) = true) (x y : Operand) (ho : op.op = .store 77 x y)
    (hx : a.eval x = .pointer (some ⟨q, 0, none⟩)) (hy : a.eval y = .agg (msgCells m2 r2 e2 s2 d2)) (hat : MsgAt 77 w q m rt et sv dv) (h1 : ∃ a n c, r2 = .slice a n c) (h2 : ∃ a n c, e2 = .slice a n c) (h3 : ∃ a n c, s2 = .slice a n c) (h4 : ∃ a n c, d2 = .slice a n c)
    (h : ∀ W, Hid (MsgAt 77 W q m2 r2 e2 s2 d2) → Hid (But q w W) → wpList Try.prog ops Q rest (a.put op.dst undef) W) : wpList Try.prog ops Q (op :: rest) a w :=
  BigFrame.wpList_want hw fun K hK => by
    have hs := stM (m2 := m2) hat h1 h2 h3 h4
    obtain ⟨k1, k2⟩ := storeAll (m2 := m2) (r2 := r2) (e2 := e2) (s2 := s2) (d2 := d2) hat
    unfold Oper.wp execOp
    simp only [ho, hx, hy]
    rw [Sem.run_bind, hs]
    exact hK _ _ (h _ (Lib.hid k1) (Lib.hid k2))
theorem noSlice : ∃ a n c, (Value.slice none 0 0) = .slice a n c := ⟨_, _, _, rfl⟩
/- Layer 7, the program: may a message be. -/
def bit1 (m : Msg.M) : Bool := eith (mask m) 1 (decide (0 ≤ m.shard ∧ m.shard ≤ 7)) (m.shard == 0)
def bit2 (m : Msg.M) : Bool := eith (mask m) 2 (decide (0 ≤ m.number ∧ m.number ≤ 1099511627776)) (m.number == 0)
def bit3 (m : Msg.M) : Bool := eith (mask m) 4 (Ent.right m.ent) (Ent.alike m.ent Msg.ent0)
def bit4 (m : Msg.M) : Bool := eith (mask m) 8 (decide (1 ≤ m.ballot ∧ m.ballot ≤ 1099511627776)) (m.ballot == 0)
def bit5 (m : Msg.M) : Bool := eith (mask m) 16 (decide (0 ≤ m.old ∧ m.old ≤ 1099511627776)) (m.old == 0)
def bit6 (m : Msg.M) : Bool := eith (mask m) 32 true (!m.is)
def bit7 (m : Msg.M) : Bool := eith (mask m) 64 (Rec.right m.reco) (Rec.same m.reco Msg.rec0)
def bit8 (m : Msg.M) : Bool := eith (mask m) 128 (Term.right m.conf && (m.conf.term == m.term)) (Term.alike m.conf Msg.conf0)
def bitsAll (m : Msg.M) : Bool := ((((((bit1 m && bit2 m) && bit3 m) && bit4 m) && bit5 m) && bit6 m) && bit7 m) && bit8 m
def headBits (m : Msg.M) : Bool := decide (1 ≤ m.kind ∧ m.kind ≤ 10) && (decide (0 ≤ m.src ∧ m.src ≤ 15) && (decide (0 ≤ m.dst ∧ m.dst ≤ 15) && decide (1 ≤ m.term ∧ m.term ≤ 64)))
theorem bits8 (m : Msg.M) (M : Int) (hM : mask m = M) (x1 x2 x3 x4 x5 x6 x7 x8 : Bool) (h1 : hasBit M 1 = x1) (h2 : hasBit M 2 = x2) (h3 : hasBit M 4 = x3) (h4 : hasBit M 8 = x4) (h5 : hasBit M 16 = x5) (h6 : hasBit M 32 = x6) (h7 : hasBit M 64 = x7) (h8 : hasBit M 128 = x8) :
    bitsAll m = (((((((cond x1 (decide (0 ≤ m.shard ∧ m.shard ≤ 7)) (m.shard == 0) && cond x2 (decide (0 ≤ m.number ∧ m.number ≤ 1099511627776)) (m.number == 0)) && cond x3 (Ent.right m.ent) (Ent.alike m.ent Msg.ent0)) && cond x4 (decide (1 ≤ m.ballot ∧ m.ballot ≤ 1099511627776)) (m.ballot == 0)) && cond x5 (decide (0 ≤ m.old ∧ m.old ≤ 1099511627776)) (m.old == 0)) && cond x6 true (!m.is)) && cond x7 (Rec.right m.reco) (Rec.same m.reco Msg.rec0)) && cond x8 (Term.right m.conf && (m.conf.term == m.term)) (Term.alike m.conf Msg.conf0)) := by
  unfold bitsAll bit1 bit2 bit3 bit4 bit5 bit6 bit7 bit8 eith
  rw [hM, h1, h2, h3, h4, h5, h6, h7, h8]
theorem right_bits (m : Msg.M) : Msg.right m = (headBits m && bitsAll m) := by
  obtain ⟨k, s, d, t, sh, n, is, r, e, b, o, c⟩ := m
  by_cases hk : 1 ≤ k ∧ k ≤ 10
  · have hks : (k = 8 ∧ o = 0) ∨ (k = 8 ∧ ¬ o = 0) ∨ k = 1 ∨ k = 2 ∨ k = 3 ∨ k = 4 ∨ k = 5 ∨ k = 6 ∨ k = 7 ∨ k = 9 ∨ k = 10 := by omega
    rw [Bool.eq_iff_iff]
    rcases hks with ⟨rfl, rfl⟩ | ⟨rfl, ho⟩ | rfl | rfl | rfl | rfl | rfl | rfl | rfl | rfl | rfl
    rw [bits8 ⟨8, s, d, t, sh, n, is, r, e, b, 0, c⟩ 24 (rfl) false false false true true false false false rfl rfl rfl rfl rfl rfl rfl rfl]
    rotate_left
    rw [bits8 ⟨8, s, d, t, sh, n, is, r, e, b, o, c⟩ 152 (by simp [mask, maskOf, ho]) false false false true true false false true rfl rfl rfl rfl rfl rfl rfl rfl]
    rotate_left
    rw [bits8 ⟨1, s, d, t, sh, n, is, r, e, b, o, c⟩ 67 (rfl) true true false false false false true false rfl rfl rfl rfl rfl rfl rfl rfl]
    rotate_left
    rw [bits8 ⟨2, s, d, t, sh, n, is, r, e, b, o, c⟩ 3 (rfl) true true false false false false false false rfl rfl rfl rfl rfl rfl rfl rfl]
    rotate_left
    rw [bits8 ⟨3, s, d, t, sh, n, is, r, e, b, o, c⟩ 4 (rfl) false false true false false false false false rfl rfl rfl rfl rfl rfl rfl rfl]
    rotate_left
    rw [bits8 ⟨4, s, d, t, sh, n, is, r, e, b, o, c⟩ 34 (rfl) false true false false false true false false rfl rfl rfl rfl rfl rfl rfl rfl]
    rotate_left
    rw [bits8 ⟨5, s, d, t, sh, n, is, r, e, b, o, c⟩ 0 (rfl) false false false false false false false false rfl rfl rfl rfl rfl rfl rfl rfl]
    rotate_left
    rw [bits8 ⟨6, s, d, t, sh, n, is, r, e, b, o, c⟩ 34 (rfl) false true false false false true false false rfl rfl rfl rfl rfl rfl rfl rfl]
    rotate_left
    rw [bits8 ⟨7, s, d, t, sh, n, is, r, e, b, o, c⟩ 8 (rfl) false false false true false false false false rfl rfl rfl rfl rfl rfl rfl rfl]
    rotate_left
    rw [bits8 ⟨9, s, d, t, sh, n, is, r, e, b, o, c⟩ 136 (rfl) false false false true false false false true rfl rfl rfl rfl rfl rfl rfl rfl]
    rotate_left
    rw [bits8 ⟨10, s, d, t, sh, n, is, r, e, b, o, c⟩ 40 (rfl) false false false true false true false false rfl rfl rfl rfl rfl rfl rfl rfl]
    rotate_left
    all_goals
      unfold headBits
      simp only [cond_true, cond_false, Msg.right, Msg.headOk, Msg.kindOk, Msg.quiet, Msg.votes, Msg.plain, Msg.withConf, Bool.and_eq_true, Bool.or_eq_true, decide_eq_true_eq, beq_iff_eq, Bool.not_eq_true', if_true, reduceCtorEq, Bool.true_or, Bool.false_or, true_and, and_true, true_or, or_true, Int.reduceEq, if_false, or_self, or_false, false_or]
      try simp only [if_neg ho, Bool.and_eq_true, decide_eq_true_eq, beq_iff_eq]
      generalize (Ent.alike e Msg.ent0 = true) = P1 at *
      generalize (Rec.same r Msg.rec0 = true) = P2 at *
      generalize (Term.alike c Msg.conf0 = true) = P3 at *
      generalize (Ent.right e = true) = P4 at *
      generalize (Rec.right r = true) = P5 at *
      generalize (Term.right c = true) = P6 at *
      grind
  · have h1 : Msg.right ⟨k, s, d, t, sh, n, is, r, e, b, o, c⟩ = false := by
      cases h : Msg.right ⟨k, s, d, t, sh, n, is, r, e, b, o, c⟩ with
      | false => rfl
      | true => exact absurd (Msg.kind_in h) hk
    rw [h1]
    unfold headBits
    simp only
    rw [decide_eq_false hk]
    rfl

set_option maxHeartbeats 32000000 in
theorem right7_any (v : Value) (m : Msg.M) (w : World) (hv : IsMsg w v m) :
    Calls Try.prog 45 #[v] w fun e w' => e = .returned (.bool (Msg.right m)) ∧ Ext w w' := by
  have HF := Lib.hid (fun w1 u (hu : IsMsg w1 u m) => fieldsOf_any u m w1 hu)
  have HCR0 := Lib.hid (fun u w1 (hu : IsConf w1 u m.conf) => right6_any u m.conf w1 hu)
  rw [right_bits]
  obtain ⟨rt, et, sv, dv, rfl, h1, h2, h3, h4⟩ := hv
  have hbx := box_msg
  have hE1 : Ext w (w.alloc (.cells (msgCells m rt et sv dv) 77)) := Ext.alloc _ _
  have HM1 := Lib.hid (show Msg7 77 (w.alloc (.cells (msgCells m rt et sv dv) 77)) w.heap.size m rt et sv dv from ⟨MsgAt.new _ w m rt et sv dv, h1.below hE1, h2.below hE1, h3.below hE1, h4.below hE1⟩)
  clear h1 h2 h3 h4
  obtain ⟨c0, c1, c2, c3, _⟩ := HM1.out.at_.head
  unfold headBits
  cases k1 : decide (1 ≤ m.kind ∧ m.kind ≤ 10) with
  | false =>
    have K1 := Lib.hid k1
    clear k1
    go_enter Try.func45, Try.ntmps45
    go_wp2_with fail
    refine (isBetween7_any m.kind 1 10 _).mono ?_
    rw [K1.out]
    rintro e w' ⟨rfl, rfl⟩
    go_wp2_with fail
    go_ret
    exact ⟨rfl, hE1⟩
  | true =>
    have K1 := Lib.hid k1
    clear k1
    cases k2 : decide (0 ≤ m.src ∧ m.src ≤ 15) with
    | false =>
      have K2 := Lib.hid k2
      clear k2
      go_enter Try.func45, Try.ntmps45
      go_wp2_with fail
      refine (isBetween7_any m.kind 1 10 _).mono ?_
      rw [K1.out]
      rintro e w' ⟨rfl, rfl⟩
      go_wp2_with fail
      refine (isNode7_any m.src _).mono ?_
      rw [K2.out]
      rintro e w' ⟨rfl, rfl⟩
      go_wp2_with fail
      go_ret
      exact ⟨rfl, hE1⟩
    | true =>
      have K2 := Lib.hid k2
      clear k2
      cases k3 : decide (0 ≤ m.dst ∧ m.dst ≤ 15) with
      | false =>
        have K3 := Lib.hid k3
        clear k3
        go_enter Try.func45, Try.ntmps45
        go_wp2_with fail
        refine (isBetween7_any m.kind 1 10 _).mono ?_
        rw [K1.out]
        rintro e w' ⟨rfl, rfl⟩
        go_wp2_with fail
        refine (isNode7_any m.src _).mono ?_
        rw [K2.out]
        rintro e w' ⟨rfl, rfl⟩
        go_wp2_with fail
        refine (isNode7_any m.dst _).mono ?_
        rw [K3.out]
        rintro e w' ⟨rfl, rfl⟩
        go_wp2_with fail
        go_ret
        exact ⟨rfl, hE1⟩
      | true =>
        have K3 := Lib.hid k3
        clear k3
        cases k4 : decide (1 ≤ m.term ∧ m.term ≤ 64) with
        | false =>
          have K4 := Lib.hid k4
          clear k4
          go_enter Try.func45, Try.ntmps45
          go_wp2_with fail
          refine (isBetween7_any m.kind 1 10 _).mono ?_
          rw [K1.out]
          rintro e w' ⟨rfl, rfl⟩
          go_wp2_with fail
          refine (isNode7_any m.src _).mono ?_
          rw [K2.out]
          rintro e w' ⟨rfl, rfl⟩
          go_wp2_with fail
          refine (isNode7_any m.dst _).mono ?_
          rw [K3.out]
          rintro e w' ⟨rfl, rfl⟩
          go_wp2_with fail
          refine (isBetween7_any m.term 1 64 _).mono ?_
          rw [K4.out]
          rintro e w' ⟨rfl, rfl⟩
          go_wp2_with fail
          go_ret
          exact ⟨rfl, hE1⟩
        | true =>
          have K4 := Lib.hid k4
          clear k4
          have HA := Lib.hid (show bitsAll m = _ from rfl)
          simp only [Bool.true_and]
          obtain ⟨b, hb⟩ : ∃ b, b = bitsAll m := ⟨_, rfl⟩
          rw [← hb]
          have HB := Lib.hid hb
          clear hb HA
          go_enter Try.func45, Try.ntmps45
          go_wp2_with fail
          refine (isBetween7_any m.kind 1 10 _).mono ?_
          rw [K1.out]
          rintro e w' ⟨rfl, rfl⟩
          go_wp2_with fail
          refine (isNode7_any m.src _).mono ?_
          rw [K2.out]
          rintro e w' ⟨rfl, rfl⟩
          go_wp2_with fail
          refine (isNode7_any m.dst _).mono ?_
          rw [K3.out]
          rintro e w' ⟨rfl, rfl⟩
          go_wp2_with fail
          refine (isBetween7_any m.term 1 64 _).mono ?_
          rw [K4.out]
          rintro e w' ⟨rfl, rfl⟩
          clear c0 c1 c2 c3 hbx
          generalize w.alloc (.cells (msgCells m rt et sv dv) 77) = w1 at *
          generalize w.heap.size = q at *
          go_wp2_with (refine ldM (by rfl) _ rfl rfl HM1.out ?_)
          refine (HF.out _ _ HM1.out.isMsg).mono ?_
          rintro e w2 ⟨rfl, hE2⟩
          go_wp2_with fail
          have hE3 : Ext w (w2.alloc (.cells #[.int .i64 (mask m)] 121)) := hE1.trans (hE2.trans (Ext.alloc _ _))
          have HM := Lib.hid ((HM1.out.ext hE2).ext (Ext.alloc w2 (.cells #[.int .i64 (mask m)] 121)))
          have hcb := heap_alloc_new w2 (.cells #[.int .i64 (mask m)] 121)
          have HC := Lib.hid (cell_of_heap hcb 0)
          have HCB := Lib.hid (Array.getElem?_eq_some_iff.1 hcb).1
          clear hcb
          generalize w2.alloc (.cells #[.int .i64 (mask m)] 121) = w3 at *
          generalize w2.heap.size = c at *
          clear hE1 hE2 HM1 HF K1 K2 K3 K4
          obtain ⟨p1, hp1⟩ : ∃ p, p = eith (mask m) 1 (decide (0 ≤ m.shard ∧ m.shard ≤ 7)) (m.shard == 0) := ⟨_, rfl⟩
          obtain ⟨c2, hc2⟩ : ∃ p, p = eith (mask m) 2 (decide (0 ≤ m.number ∧ m.number ≤ 1099511627776)) (m.number == 0) := ⟨_, rfl⟩
          obtain ⟨c3, hc3⟩ : ∃ p, p = eith (mask m) 4 (Ent.right m.ent) (Ent.alike m.ent Msg.ent0) := ⟨_, rfl⟩
          obtain ⟨c4, hc4⟩ : ∃ p, p = eith (mask m) 8 (decide (1 ≤ m.ballot ∧ m.ballot ≤ 1099511627776)) (m.ballot == 0) := ⟨_, rfl⟩
          obtain ⟨c5, hc5⟩ : ∃ p, p = eith (mask m) 16 (decide (0 ≤ m.old ∧ m.old ≤ 1099511627776)) (m.old == 0) := ⟨_, rfl⟩
          obtain ⟨c6, hc6⟩ : ∃ p, p = eith (mask m) 32 true (!m.is) := ⟨_, rfl⟩
          obtain ⟨c7, hc7⟩ : ∃ p, p = eith (mask m) 64 (Rec.right m.reco) (Rec.same m.reco Msg.rec0) := ⟨_, rfl⟩
          obtain ⟨cr, hcr⟩ : ∃ p, p = Term.right m.conf := ⟨_, rfl⟩
          obtain ⟨cw, hcw⟩ : ∃ p, p = (cr && (m.conf.term == m.term)) := ⟨_, rfl⟩
          obtain ⟨c8, hc8⟩ : ∃ p, p = eith (mask m) 128 cw (Term.alike m.conf Msg.conf0) := ⟨_, rfl⟩
          obtain ⟨p2, hp2⟩ : ∃ p, p = (p1 && c2) := ⟨_, rfl⟩
          obtain ⟨p3, hp3⟩ : ∃ p, p = (p2 && c3) := ⟨_, rfl⟩
          obtain ⟨p4, hp4⟩ : ∃ p, p = (p3 && c4) := ⟨_, rfl⟩
          obtain ⟨p5, hp5⟩ : ∃ p, p = (p4 && c5) := ⟨_, rfl⟩
          obtain ⟨p6, hp6⟩ : ∃ p, p = (p5 && c6) := ⟨_, rfl⟩
          obtain ⟨p7, hp7⟩ : ∃ p, p = (p6 && c7) := ⟨_, rfl⟩
          obtain ⟨p8, hp8⟩ : ∃ p, p = (p7 && c8) := ⟨_, rfl⟩
          have HZ := Lib.hid (show p8 = b by rw [HB.out, hp8, hp7, hp6, hp5, hp4, hp3, hp2, hc8, hcw, hcr, hc7, hc6, hc5, hc4, hc3, hc2, hp1]; rfl)
          have HCR := Lib.hid (fun w1 hu => (hcr ▸ HCR0.out _ w1 hu : Calls Try.prog 30 #[.agg #[.int .i64 m.conf.term, sv, dv]] w1 fun x w' => x = .returned (.bool cr) ∧ Ext w1 w'))
          have HP1 := Lib.hid hp1
          have HP2 := Lib.hid hp2
          have HP3 := Lib.hid hp3
          have HP4 := Lib.hid hp4
          have HP5 := Lib.hid hp5
          have HP6 := Lib.hid hp6
          have HP7 := Lib.hid hp7
          have HP8 := Lib.hid hp8
          have HC2 := Lib.hid hc2
          have HC3 := Lib.hid hc3
          have HC4 := Lib.hid hc4
          have HC5 := Lib.hid hc5
          have HC6 := Lib.hid hc6
          have HC7 := Lib.hid hc7
          have HC8 := Lib.hid hc8
          have HCW := Lib.hid hcw
          clear hp1 hp2 hp3 hp4 hp5 hp6 hp7 hp8 hc2 hc3 hc4 hc5 hc6 hc7 hc8 hcw hcr HCR0 HB
          refine wp_region_facts (by kernel_rfl) Ext (fun iop v w => match iop with
              | 0 => v = .func (.func 69) #[] #[.pointer (some ⟨c, 0, none⟩)]
              | 1 => v = .pointer (some ⟨q, 4, none⟩)
              | 2 => v = .int .i64 m.shard
              | 3 => v = .bool (decide (0 ≤ m.shard ∧ m.shard ≤ 7))
              | 4 => v = .pointer (some ⟨q, 4, none⟩)
              | 5 => v = .int .i64 m.shard
              | 6 => v = .bool (m.shard == 0)
              | 7 => v = .bool p1
              | 8 => v = .bool p1
              | 9 => v = gate p1 (.func (.func 69) #[] #[.pointer (some ⟨c, 0, none⟩)])
              | 10 => v = gate p1 (.pointer (some ⟨q, 5, none⟩))
              | 11 => v = gate p1 (.int .i64 m.number)
              | 12 => v = gate p1 (.bool (decide (0 ≤ m.number ∧ m.number ≤ 1099511627776)))
              | 13 => v = gate p1 (.pointer (some ⟨q, 5, none⟩))
              | 14 => v = gate p1 (.int .i64 m.number)
              | 15 => v = gate p1 (.bool (m.number == 0))
              | 16 => v = gate p1 (.bool c2)
              | 17 => v = .bool p2
              | 18 => v = .bool p2
              | 19 => v = gate p2 (.func (.func 69) #[] #[.pointer (some ⟨c, 0, none⟩)])
              | 20 => v = gate p2 (.pointer (some ⟨q, 11, none⟩))
              | 21 => v = gate p2 (.agg #[.int .i64 m.ent.number, .int .i64 m.ent.kind, et, .int .i64 m.ent.tag, .int .i64 m.ent.term, .int .i64 m.ent.pos])
              | 22 => v = gate p2 (.bool (Ent.right m.ent))
              | 23 => v = gate p2 (.pointer (some ⟨q, 11, none⟩))
              | 24 => v = gate p2 (.agg #[.int .i64 m.ent.number, .int .i64 m.ent.kind, et, .int .i64 m.ent.tag, .int .i64 m.ent.term, .int .i64 m.ent.pos])
              | 25 => v = gate p2 (.agg #[.int .i64 0, .int .i64 0, .slice none 0 0, .int .i64 0, .int .i64 0, .int .i64 0])
              | 26 => v = gate p2 (.bool (Ent.alike m.ent Msg.ent0))
              | 27 => v = gate p2 (.bool c3)
              | 28 => v = .bool p3
              | 29 => v = .bool p3
              | 30 => v = gate p3 (.func (.func 69) #[] #[.pointer (some ⟨c, 0, none⟩)])
              | 31 => v = gate p3 (.pointer (some ⟨q, 17, none⟩))
              | 32 => v = gate p3 (.int .i64 m.ballot)
              | 33 => v = gate p3 (.bool (decide (1 ≤ m.ballot ∧ m.ballot ≤ 1099511627776)))
              | 34 => v = gate p3 (.pointer (some ⟨q, 17, none⟩))
              | 35 => v = gate p3 (.int .i64 m.ballot)
              | 36 => v = gate p3 (.bool (m.ballot == 0))
              | 37 => v = gate p3 (.bool c4)
              | 38 => v = .bool p4
              | 39 => v = .bool p4
              | 40 => v = gate p4 (.func (.func 69) #[] #[.pointer (some ⟨c, 0, none⟩)])
              | 41 => v = gate p4 (.pointer (some ⟨q, 18, none⟩))
              | 42 => v = gate p4 (.int .i64 m.old)
              | 43 => v = gate p4 (.bool (decide (0 ≤ m.old ∧ m.old ≤ 1099511627776)))
              | 44 => v = gate p4 (.pointer (some ⟨q, 18, none⟩))
              | 45 => v = gate p4 (.int .i64 m.old)
              | 46 => v = gate p4 (.bool (m.old == 0))
              | 47 => v = gate p4 (.bool c5)
              | 48 => v = .bool p5
              | 49 => v = .bool p5
              | 50 => v = gate p5 (.func (.func 69) #[] #[.pointer (some ⟨c, 0, none⟩)])
              | 51 => v = gate p5 (.pointer (some ⟨q, 6, none⟩))
              | 52 => v = gate p5 (.bool m.is)
              | 53 => v = gate p5 (.bool (!m.is))
              | 54 => v = gate p5 (.bool c6)
              | 55 => v = .bool p6
              | 56 => v = .bool p6
              | 57 => v = gate p6 (.func (.func 69) #[] #[.pointer (some ⟨c, 0, none⟩)])
              | 58 => v = gate p6 (.pointer (some ⟨q, 7, none⟩))
              | 59 => v = gate p6 (.agg #[.int .i64 m.reco.client, .int .i64 m.reco.number, rt, .string ⟨m.reco.data.toArray⟩])
              | 60 => v = gate p6 (.bool (Rec.right m.reco))
              | 61 => v = gate p6 (.pointer (some ⟨q, 7, none⟩))
              | 62 => v = gate p6 (.agg #[.int .i64 m.reco.client, .int .i64 m.reco.number, rt, .string ⟨m.reco.data.toArray⟩])
              | 63 => v = gate p6 (.agg #[.int .i64 0, .int .i64 0, .slice none 0 0, .string ⟨#[]⟩])
              | 64 => v = gate p6 (.bool (Rec.same m.reco Msg.rec0))
              | 65 => v = gate p6 (.bool c7)
              | 66 => v = .bool p7
              | 67 => v = .bool p7
              | 68 => v = gate p7 (.func (.func 69) #[] #[.pointer (some ⟨c, 0, none⟩)])
              | 69 => v = gate p7 (.pointer (some ⟨q, 19, none⟩))
              | 70 => v = gate p7 (.agg #[.int .i64 m.conf.term, sv, dv])
              | 71 => v = gate p7 (.bool cr)
              | 72 => v = gate p7 (.bool cr)
              | 73 => v = gate p7 (gate cr (.pointer (some ⟨q, 19, none⟩)))
              | 74 => v = gate p7 (gate cr (.pointer (some ⟨q, 19, none⟩)))
              | 75 => v = gate p7 (gate cr (.int .i64 m.conf.term))
              | 76 => v = gate p7 (gate cr (.pointer (some ⟨q, 3, none⟩)))
              | 77 => v = gate p7 (gate cr (.int .i64 m.term))
              | 78 => v = gate p7 (gate cr (.bool (m.conf.term == m.term)))
              | 79 => v = gate p7 (.bool cw)
              | 80 => v = gate p7 (.pointer (some ⟨q, 19, none⟩))
              | 81 => v = gate p7 (.agg #[.int .i64 m.conf.term, sv, dv])
              | 82 => v = gate p7 (.agg #[.int .i64 0, .slice none 0 0, .slice none 0 0])
              | 83 => v = gate p7 (.bool (Term.alike m.conf Msg.conf0))
              | 84 => v = gate p7 (.bool c8)
              | 85 => v = .bool p8
              | _ => v = .bool p8
              ) (by kernel_rfl) (fun _ _ _ h k => Ext.trans h k) (fun a => Ext.refl a) (Ext.drew _) ?_ ?_ ?_
          · intro iop v wa wb hF hL
            iterate 86 (rcases iop with _ | iop; exact hF)
            exact hF
          · refine Obls.cons ?_ (Obls.cons ?_ (Obls.cons ?_ (Obls.cons ?_ (Obls.cons ?_ (Obls.cons ?_ (Obls.cons ?_ (Obls.cons ?_ (Obls.cons ?_ (Obls.cons ?_ (Obls.cons ?_ (Obls.cons ?_ (Obls.cons ?_ (Obls.cons ?_ (Obls.cons ?_ (Obls.cons ?_ (Obls.cons ?_ (Obls.cons ?_ (Obls.cons ?_ (Obls.cons ?_ (Obls.cons ?_ (Obls.cons ?_ (Obls.cons ?_ (Obls.cons ?_ (Obls.cons ?_ (Obls.cons ?_ (Obls.cons ?_ (Obls.cons ?_ (Obls.cons ?_ (Obls.cons ?_ (Obls.cons ?_ (Obls.cons ?_ (Obls.cons ?_ (Obls.cons ?_ (Obls.cons ?_ (Obls.cons ?_ (Obls.cons ?_ (Obls.cons ?_ (Obls.cons ?_ (Obls.cons ?_ (Obls.cons ?_ (Obls.cons ?_ (Obls.cons ?_ (Obls.cons ?_ (Obls.cons ?_ (Obls.cons ?_ (Obls.cons ?_ (Obls.cons ?_ (Obls.cons ?_ (Obls.cons ?_ (Obls.cons ?_ (Obls.cons ?_ (Obls.cons ?_ (Obls.cons ?_ (Obls.cons ?_ (Obls.cons ?_ (Obls.cons ?_ (Obls.cons ?_ (Obls.cons ?_ (Obls.cons ?_ (Obls.cons ?_ (Obls.cons ?_ (Obls.cons ?_ (Obls.cons ?_ (Obls.cons ?_ (Obls.cons ?_ (Obls.cons ?_ (Obls.cons ?_ (Obls.cons ?_ (Obls.cons ?_ (Obls.cons ?_ (Obls.cons ?_ (Obls.cons ?_ (Obls.cons ?_ (Obls.cons ?_ (Obls.cons ?_ (Obls.cons ?_ (Obls.cons ?_ (Obls.cons ?_ (Obls.cons ?_ (Obls.cons ?_ (Obls.cons ?_ (Obls.cons ?_ (Obls.cons ?_ (Obls.cons ?_ (Obls.cons ?_ (Obls.cons ?_ (Obls.nil)))))))))))))))))))))))))))))))))))))))))))))))))))))))))))))))))))))))))))))))))))))))
            · intro ev wy hp hl hk hd
              have e4 : ev (.tmp 4) = .func (.func 69) #[] #[.pointer (some ⟨c, 0, none⟩)] := hk 4 (by decide)
              clear hk hd
              exact Yield.mv rfl ⟨Ext.refl _, e4⟩
            · intro ev wy hp hl hk hd
              have e1 : ev (.tmp 1) = .pointer (some ⟨q, 0, none⟩) := hk 1 (by decide)
              clear hk hd
              exact Yield.op (v := .pointer (some ⟨q, 4, none⟩)) (w' := wy) (by simp [execOp, go_sem, e1]) ⟨Ext.refl _, rfl⟩
            · intro ev wy hp hl hk hd
              have e31 : ev (.tmp 31) = .pointer (some ⟨q, 4, none⟩) := hk 31 (by decide)
              clear hk hd
              exact Yield.load rfl e31 (ldInt (HM.out.ext hl).at_.head.2.2.2.2.1) ⟨Ext.refl _, rfl⟩
            · intro ev wy hp hl hk hd
              have e32 : ev (.tmp 32) = .int .i64 m.shard := hk 32 (by decide)
              clear hk hd
              refine Yield.call rfl hp Try.func66 rfl (by kernel_rfl) ?_
              simp only [List.map_toArray, List.map_cons, List.map_nil, hp.const, e32]
              exact ((isBetween7_ext _ _ _ _)).mono fun _ _ ⟨he, hb⟩ => ⟨_, he, hb, by first | rfl | simp⟩
            · intro ev wy hp hl hk hd
              have e1 : ev (.tmp 1) = .pointer (some ⟨q, 0, none⟩) := hk 1 (by decide)
              clear hk hd
              exact Yield.op (v := .pointer (some ⟨q, 4, none⟩)) (w' := wy) (by simp [execOp, go_sem, e1]) ⟨Ext.refl _, rfl⟩
            · intro ev wy hp hl hk hd
              have e34 : ev (.tmp 34) = .pointer (some ⟨q, 4, none⟩) := hk 34 (by decide)
              clear hk hd
              exact Yield.load rfl e34 (ldInt (HM.out.ext hl).at_.head.2.2.2.2.1) ⟨Ext.refl _, rfl⟩
            · intro ev wy hp hl hk hd
              have e35 : ev (.tmp 35) = .int .i64 m.shard := hk 35 (by decide)
              clear hk hd
              exact Yield.op (v := .bool (m.shard == 0)) (w' := wy) (by simp [execOp, go_sem, e35, hp.const]) ⟨Ext.refl _, rfl⟩
            · intro ev wy hp hl hk hd
              have e30 : ev (.tmp 30) = .func (.func 69) #[] #[.pointer (some ⟨c, 0, none⟩)] := hk 30 (by decide)
              have e33 : ev (.tmp 33) = .bool (decide (0 ≤ m.shard ∧ m.shard ≤ 7)) := hk 33 (by decide)
              have e36 : ev (.tmp 36) = .bool (m.shard == 0) := hk 36 (by decide)
              clear hk hd
              refine Yield.callf rfl e30 Try.func69 rfl (by kernel_rfl) ?_
              simp only [List.map_toArray, List.map_cons, List.map_nil, List.append_toArray, List.cons_append, List.nil_append, hp.const, e33, e36]
              exact (either_any _ _ _ _ c _ ((hl.cell (p := ⟨c, 0, none⟩) HCB.out).trans HC.out)).mono fun e w' ⟨he, hE⟩ => ⟨_, he, hE, by rw [HP1.out]⟩
            · intro ev wy hp hl hk hd
              have e37 : ev (.tmp 37) = .bool p1 := hk 37 (by decide)
              clear hk hd
              exact Yield.mv rfl ⟨Ext.refl _, e37⟩
            · intro ev wy hp hl hk hd
              obtain hgc | hgc := p1.eq_false_or_eq_true.symm
              · subst hgc; exact ⟨fun x hx he => (by rw [show x = .bool false from hx] at he; cases he), fun _ _ _ => rfl⟩
              subst hgc
              have e4 : ev (.tmp 4) = .func (.func 69) #[] #[.pointer (some ⟨c, 0, none⟩)] := hk 4 (by decide)
              clear hk
              refine ⟨fun _ _ _ => ?_, fun _ hx hne => absurd hx hne⟩
              clear hd
              exact Yield.mv rfl ⟨Ext.refl _, e4⟩
            · intro ev wy hp hl hk hd
              obtain hgc | hgc := p1.eq_false_or_eq_true.symm
              · subst hgc; exact ⟨fun x hx he => (by rw [show x = .bool false from hx] at he; cases he), fun _ _ _ => rfl⟩
              subst hgc
              have e1 : ev (.tmp 1) = .pointer (some ⟨q, 0, none⟩) := hk 1 (by decide)
              clear hk
              refine ⟨fun _ _ _ => ?_, fun _ hx hne => absurd hx hne⟩
              clear hd
              exact Yield.op (v := .pointer (some ⟨q, 5, none⟩)) (w' := wy) (by simp [execOp, go_sem, e1]) ⟨Ext.refl _, rfl⟩
            · intro ev wy hp hl hk hd
              obtain hgc | hgc := p1.eq_false_or_eq_true.symm
              · subst hgc; exact ⟨fun x hx he => (by rw [show x = .bool false from hx] at he; cases he), fun _ _ _ => rfl⟩
              subst hgc
              have e40 : ev (.tmp 40) = .pointer (some ⟨q, 5, none⟩) := hk 40 (by decide)
              clear hk
              refine ⟨fun _ _ _ => ?_, fun _ hx hne => absurd hx hne⟩
              clear hd
              exact Yield.load rfl e40 (ldInt (HM.out.ext hl).at_.head.2.2.2.2.2.1) ⟨Ext.refl _, rfl⟩
            · intro ev wy hp hl hk hd
              obtain hgc | hgc := p1.eq_false_or_eq_true.symm
              · subst hgc; exact ⟨fun x hx he => (by rw [show x = .bool false from hx] at he; cases he), fun _ _ _ => rfl⟩
              subst hgc
              have e41 : ev (.tmp 41) = .int .i64 m.number := hk 41 (by decide)
              clear hk
              refine ⟨fun _ _ _ => ?_, fun _ hx hne => absurd hx hne⟩
              clear hd
              refine Yield.call rfl hp Try.func66 rfl (by kernel_rfl) ?_
              simp only [List.map_toArray, List.map_cons, List.map_nil, hp.const, e41]
              exact ((isBetween7_ext _ _ _ _)).mono fun _ _ ⟨he, hb⟩ => ⟨_, he, hb, by first | rfl | simp⟩
            · intro ev wy hp hl hk hd
              obtain hgc | hgc := p1.eq_false_or_eq_true.symm
              · subst hgc; exact ⟨fun x hx he => (by rw [show x = .bool false from hx] at he; cases he), fun _ _ _ => rfl⟩
              subst hgc
              have e1 : ev (.tmp 1) = .pointer (some ⟨q, 0, none⟩) := hk 1 (by decide)
              clear hk
              refine ⟨fun _ _ _ => ?_, fun _ hx hne => absurd hx hne⟩
              clear hd
              exact Yield.op (v := .pointer (some ⟨q, 5, none⟩)) (w' := wy) (by simp [execOp, go_sem, e1]) ⟨Ext.refl _, rfl⟩
            · intro ev wy hp hl hk hd
              obtain hgc | hgc := p1.eq_false_or_eq_true.symm
              · subst hgc; exact ⟨fun x hx he => (by rw [show x = .bool false from hx] at he; cases he), fun _ _ _ => rfl⟩
              subst hgc
              have e43 : ev (.tmp 43) = .pointer (some ⟨q, 5, none⟩) := hk 43 (by decide)
              clear hk
              refine ⟨fun _ _ _ => ?_, fun _ hx hne => absurd hx hne⟩
              clear hd
              exact Yield.load rfl e43 (ldInt (HM.out.ext hl).at_.head.2.2.2.2.2.1) ⟨Ext.refl _, rfl⟩
            · intro ev wy hp hl hk hd
              obtain hgc | hgc := p1.eq_false_or_eq_true.symm
              · subst hgc; exact ⟨fun x hx he => (by rw [show x = .bool false from hx] at he; cases he), fun _ _ _ => rfl⟩
              subst hgc
              have e44 : ev (.tmp 44) = .int .i64 m.number := hk 44 (by decide)
              clear hk
              refine ⟨fun _ _ _ => ?_, fun _ hx hne => absurd hx hne⟩
              clear hd
              exact Yield.op (v := .bool (m.number == 0)) (w' := wy) (by simp [execOp, go_sem, e44, hp.const]) ⟨Ext.refl _, rfl⟩
            · intro ev wy hp hl hk hd
              obtain hgc | hgc := p1.eq_false_or_eq_true.symm
              · subst hgc; exact ⟨fun x hx he => (by rw [show x = .bool false from hx] at he; cases he), fun _ _ _ => rfl⟩
              subst hgc
              have e39 : ev (.tmp 39) = .func (.func 69) #[] #[.pointer (some ⟨c, 0, none⟩)] := hk 39 (by decide)
              have e42 : ev (.tmp 42) = .bool (decide (0 ≤ m.number ∧ m.number ≤ 1099511627776)) := hk 42 (by decide)
              have e45 : ev (.tmp 45) = .bool (m.number == 0) := hk 45 (by decide)
              clear hk
              refine ⟨fun _ _ _ => ?_, fun _ hx hne => absurd hx hne⟩
              clear hd
              refine Yield.callf rfl e39 Try.func69 rfl (by kernel_rfl) ?_
              simp only [List.map_toArray, List.map_cons, List.map_nil, List.append_toArray, List.cons_append, List.nil_append, hp.const, e42, e45]
              exact (either_any _ _ _ _ c _ ((hl.cell (p := ⟨c, 0, none⟩) HCB.out).trans HC.out)).mono fun e w' ⟨he, hE⟩ => ⟨_, he, hE, by rw [HC2.out]; rfl⟩
            · intro ev wy hp hl hk hd
              have e38 : ev (.tmp 38) = .bool p1 := hk 38 (by decide)
              have e46 : ev (.tmp 46) = gate p1 (.bool c2) := hk 46 (by decide)
              clear hk hd
              obtain hgc | hgc : p1 = false ∨ p1 = true := by cases p1 <;> simp
              · subst hgc; exact Yield.pick (t := false) rfl e38 ⟨Ext.refl _, by rw [HP2.out]; exact hp.const _⟩
              · subst hgc; exact Yield.pick (t := true) rfl e38 ⟨Ext.refl _, by rw [HP2.out]; exact e46⟩
            · intro ev wy hp hl hk hd
              have e47 : ev (.tmp 47) = .bool p2 := hk 47 (by decide)
              clear hk hd
              exact Yield.mv rfl ⟨Ext.refl _, e47⟩
            · intro ev wy hp hl hk hd
              obtain hgc | hgc := p2.eq_false_or_eq_true.symm
              · subst hgc; exact ⟨fun x hx he => (by rw [show x = .bool false from hx] at he; cases he), fun _ _ _ => rfl⟩
              subst hgc
              have e4 : ev (.tmp 4) = .func (.func 69) #[] #[.pointer (some ⟨c, 0, none⟩)] := hk 4 (by decide)
              clear hk
              refine ⟨fun _ _ _ => ?_, fun _ hx hne => absurd hx hne⟩
              clear hd
              exact Yield.mv rfl ⟨Ext.refl _, e4⟩
            · intro ev wy hp hl hk hd
              obtain hgc | hgc := p2.eq_false_or_eq_true.symm
              · subst hgc; exact ⟨fun x hx he => (by rw [show x = .bool false from hx] at he; cases he), fun _ _ _ => rfl⟩
              subst hgc
              have e1 : ev (.tmp 1) = .pointer (some ⟨q, 0, none⟩) := hk 1 (by decide)
              clear hk
              refine ⟨fun _ _ _ => ?_, fun _ hx hne => absurd hx hne⟩
              clear hd
              exact Yield.op (v := .pointer (some ⟨q, 11, none⟩)) (w' := wy) (by simp [execOp, go_sem, e1]) ⟨Ext.refl _, rfl⟩
            · intro ev wy hp hl hk hd
              obtain hgc | hgc := p2.eq_false_or_eq_true.symm
              · subst hgc; exact ⟨fun x hx he => (by rw [show x = .bool false from hx] at he; cases he), fun _ _ _ => rfl⟩
              subst hgc
              have e50 : ev (.tmp 50) = .pointer (some ⟨q, 11, none⟩) := hk 50 (by decide)
              clear hk
              refine ⟨fun _ _ _ => ?_, fun _ hx hne => absurd hx hne⟩
              clear hd
              exact Yield.load rfl e50 ((HM.out.ext hl).ldEnt _ (.inl rfl)) ⟨Ext.refl _, rfl⟩
            · intro ev wy hp hl hk hd
              obtain hgc | hgc := p2.eq_false_or_eq_true.symm
              · subst hgc; exact ⟨fun x hx he => (by rw [show x = .bool false from hx] at he; cases he), fun _ _ _ => rfl⟩
              subst hgc
              have e51 : ev (.tmp 51) = .agg #[.int .i64 m.ent.number, .int .i64 m.ent.kind, et, .int .i64 m.ent.tag, .int .i64 m.ent.term, .int .i64 m.ent.pos] := hk 51 (by decide)
              clear hk
              refine ⟨fun _ _ _ => ?_, fun _ hx hne => absurd hx hne⟩
              clear hd
              refine Yield.call rfl hp Try.func70 rfl (by kernel_rfl) ?_
              simp only [List.map_toArray, List.map_cons, List.map_nil, e51]
              exact ((right5_any _ m.ent _ (HM.out.ext hl).isEnt)).mono fun _ _ ⟨he, hb⟩ => ⟨_, he, hb, by first | rfl | simp⟩
            · intro ev wy hp hl hk hd
              obtain hgc | hgc := p2.eq_false_or_eq_true.symm
              · subst hgc; exact ⟨fun x hx he => (by rw [show x = .bool false from hx] at he; cases he), fun _ _ _ => rfl⟩
              subst hgc
              have e1 : ev (.tmp 1) = .pointer (some ⟨q, 0, none⟩) := hk 1 (by decide)
              clear hk
              refine ⟨fun _ _ _ => ?_, fun _ hx hne => absurd hx hne⟩
              clear hd
              exact Yield.op (v := .pointer (some ⟨q, 11, none⟩)) (w' := wy) (by simp [execOp, go_sem, e1]) ⟨Ext.refl _, rfl⟩
            · intro ev wy hp hl hk hd
              obtain hgc | hgc := p2.eq_false_or_eq_true.symm
              · subst hgc; exact ⟨fun x hx he => (by rw [show x = .bool false from hx] at he; cases he), fun _ _ _ => rfl⟩
              subst hgc
              have e53 : ev (.tmp 53) = .pointer (some ⟨q, 11, none⟩) := hk 53 (by decide)
              clear hk
              refine ⟨fun _ _ _ => ?_, fun _ hx hne => absurd hx hne⟩
              clear hd
              exact Yield.load rfl e53 ((HM.out.ext hl).ldEnt _ (.inl rfl)) ⟨Ext.refl _, rfl⟩
            · intro ev wy hp hl hk hd
              obtain hgc | hgc := p2.eq_false_or_eq_true.symm
              · subst hgc; exact ⟨fun x hx he => (by rw [show x = .bool false from hx] at he; cases he), fun _ _ _ => rfl⟩
              subst hgc
              clear hk
              refine ⟨fun _ _ _ => ?_, fun _ hx hne => absurd hx hne⟩
              clear hd
              exact Yield.op (v := .agg #[.int .i64 0, .int .i64 0, .slice none 0 0, .int .i64 0, .int .i64 0, .int .i64 0]) (w' := wy) (by simp [execOp, go_sem, build_ent0]) ⟨Ext.refl _, rfl⟩
            · intro ev wy hp hl hk hd
              obtain hgc | hgc := p2.eq_false_or_eq_true.symm
              · subst hgc; exact ⟨fun x hx he => (by rw [show x = .bool false from hx] at he; cases he), fun _ _ _ => rfl⟩
              subst hgc
              have e54 : ev (.tmp 54) = .agg #[.int .i64 m.ent.number, .int .i64 m.ent.kind, et, .int .i64 m.ent.tag, .int .i64 m.ent.term, .int .i64 m.ent.pos] := hk 54 (by decide)
              have e55 : ev (.tmp 55) = .agg #[.int .i64 0, .int .i64 0, .slice none 0 0, .int .i64 0, .int .i64 0, .int .i64 0] := hk 55 (by decide)
              clear hk
              refine ⟨fun _ _ _ => ?_, fun _ hx hne => absurd hx hne⟩
              clear hd
              refine Yield.call rfl hp Try.func38 rfl (by kernel_rfl) ?_
              simp only [List.map_toArray, List.map_cons, List.map_nil, e54, e55]
              exact ((same5_any _ _ m.ent Msg.ent0 _ (HM.out.ext hl).isEnt (isEnt0 _))).mono fun _ _ ⟨he, hb⟩ => ⟨_, he, hb, by first | rfl | simp⟩
            · intro ev wy hp hl hk hd
              obtain hgc | hgc := p2.eq_false_or_eq_true.symm
              · subst hgc; exact ⟨fun x hx he => (by rw [show x = .bool false from hx] at he; cases he), fun _ _ _ => rfl⟩
              subst hgc
              have e49 : ev (.tmp 49) = .func (.func 69) #[] #[.pointer (some ⟨c, 0, none⟩)] := hk 49 (by decide)
              have e52 : ev (.tmp 52) = .bool (Ent.right m.ent) := hk 52 (by decide)
              have e56 : ev (.tmp 56) = .bool (Ent.alike m.ent Msg.ent0) := hk 56 (by decide)
              clear hk
              refine ⟨fun _ _ _ => ?_, fun _ hx hne => absurd hx hne⟩
              clear hd
              refine Yield.callf rfl e49 Try.func69 rfl (by kernel_rfl) ?_
              simp only [List.map_toArray, List.map_cons, List.map_nil, List.append_toArray, List.cons_append, List.nil_append, hp.const, e52, e56]
              exact (either_any _ _ _ _ c _ ((hl.cell (p := ⟨c, 0, none⟩) HCB.out).trans HC.out)).mono fun e w' ⟨he, hE⟩ => ⟨_, he, hE, by rw [HC3.out]; rfl⟩
            · intro ev wy hp hl hk hd
              have e48 : ev (.tmp 48) = .bool p2 := hk 48 (by decide)
              have e57 : ev (.tmp 57) = gate p2 (.bool c3) := hk 57 (by decide)
              clear hk hd
              obtain hgc | hgc : p2 = false ∨ p2 = true := by cases p2 <;> simp
              · subst hgc; exact Yield.pick (t := false) rfl e48 ⟨Ext.refl _, by rw [HP3.out]; exact hp.const _⟩
              · subst hgc; exact Yield.pick (t := true) rfl e48 ⟨Ext.refl _, by rw [HP3.out]; exact e57⟩
            · intro ev wy hp hl hk hd
              have e58 : ev (.tmp 58) = .bool p3 := hk 58 (by decide)
              clear hk hd
              exact Yield.mv rfl ⟨Ext.refl _, e58⟩
            · intro ev wy hp hl hk hd
              obtain hgc | hgc := p3.eq_false_or_eq_true.symm
              · subst hgc; exact ⟨fun x hx he => (by rw [show x = .bool false from hx] at he; cases he), fun _ _ _ => rfl⟩
              subst hgc
              have e4 : ev (.tmp 4) = .func (.func 69) #[] #[.pointer (some ⟨c, 0, none⟩)] := hk 4 (by decide)
              clear hk
              refine ⟨fun _ _ _ => ?_, fun _ hx hne => absurd hx hne⟩
              clear hd
              exact Yield.mv rfl ⟨Ext.refl _, e4⟩
            · intro ev wy hp hl hk hd
              obtain hgc | hgc := p3.eq_false_or_eq_true.symm
              · subst hgc; exact ⟨fun x hx he => (by rw [show x = .bool false from hx] at he; cases he), fun _ _ _ => rfl⟩
              subst hgc
              have e1 : ev (.tmp 1) = .pointer (some ⟨q, 0, none⟩) := hk 1 (by decide)
              clear hk
              refine ⟨fun _ _ _ => ?_, fun _ hx hne => absurd hx hne⟩
              clear hd
              exact Yield.op (v := .pointer (some ⟨q, 17, none⟩)) (w' := wy) (by simp [execOp, go_sem, e1]) ⟨Ext.refl _, rfl⟩
            · intro ev wy hp hl hk hd
              obtain hgc | hgc := p3.eq_false_or_eq_true.symm
              · subst hgc; exact ⟨fun x hx he => (by rw [show x = .bool false from hx] at he; cases he), fun _ _ _ => rfl⟩
              subst hgc
              have e61 : ev (.tmp 61) = .pointer (some ⟨q, 17, none⟩) := hk 61 (by decide)
              clear hk
              refine ⟨fun _ _ _ => ?_, fun _ hx hne => absurd hx hne⟩
              clear hd
              exact Yield.load rfl e61 (ldInt (HM.out.ext hl).at_.votes.1) ⟨Ext.refl _, rfl⟩
            · intro ev wy hp hl hk hd
              obtain hgc | hgc := p3.eq_false_or_eq_true.symm
              · subst hgc; exact ⟨fun x hx he => (by rw [show x = .bool false from hx] at he; cases he), fun _ _ _ => rfl⟩
              subst hgc
              have e62 : ev (.tmp 62) = .int .i64 m.ballot := hk 62 (by decide)
              clear hk
              refine ⟨fun _ _ _ => ?_, fun _ hx hne => absurd hx hne⟩
              clear hd
              refine Yield.call rfl hp Try.func66 rfl (by kernel_rfl) ?_
              simp only [List.map_toArray, List.map_cons, List.map_nil, hp.const, e62]
              exact ((isBetween7_ext _ _ _ _)).mono fun _ _ ⟨he, hb⟩ => ⟨_, he, hb, by first | rfl | simp⟩
            · intro ev wy hp hl hk hd
              obtain hgc | hgc := p3.eq_false_or_eq_true.symm
              · subst hgc; exact ⟨fun x hx he => (by rw [show x = .bool false from hx] at he; cases he), fun _ _ _ => rfl⟩
              subst hgc
              have e1 : ev (.tmp 1) = .pointer (some ⟨q, 0, none⟩) := hk 1 (by decide)
              clear hk
              refine ⟨fun _ _ _ => ?_, fun _ hx hne => absurd hx hne⟩
              clear hd
              exact Yield.op (v := .pointer (some ⟨q, 17, none⟩)) (w' := wy) (by simp [execOp, go_sem, e1]) ⟨Ext.refl _, rfl⟩
            · intro ev wy hp hl hk hd
              obtain hgc | hgc := p3.eq_false_or_eq_true.symm
              · subst hgc; exact ⟨fun x hx he => (by rw [show x = .bool false from hx] at he; cases he), fun _ _ _ => rfl⟩
              subst hgc
              have e64 : ev (.tmp 64) = .pointer (some ⟨q, 17, none⟩) := hk 64 (by decide)
              clear hk
              refine ⟨fun _ _ _ => ?_, fun _ hx hne => absurd hx hne⟩
              clear hd
              exact Yield.load rfl e64 (ldInt (HM.out.ext hl).at_.votes.1) ⟨Ext.refl _, rfl⟩
            · intro ev wy hp hl hk hd
              obtain hgc | hgc := p3.eq_false_or_eq_true.symm
              · subst hgc; exact ⟨fun x hx he => (by rw [show x = .bool false from hx] at he; cases he), fun _ _ _ => rfl⟩
              subst hgc
              have e65 : ev (.tmp 65) = .int .i64 m.ballot := hk 65 (by decide)
              clear hk
              refine ⟨fun _ _ _ => ?_, fun _ hx hne => absurd hx hne⟩
              clear hd
              exact Yield.op (v := .bool (m.ballot == 0)) (w' := wy) (by simp [execOp, go_sem, e65, hp.const]) ⟨Ext.refl _, rfl⟩
            · intro ev wy hp hl hk hd
              obtain hgc | hgc := p3.eq_false_or_eq_true.symm
              · subst hgc; exact ⟨fun x hx he => (by rw [show x = .bool false from hx] at he; cases he), fun _ _ _ => rfl⟩
              subst hgc
              have e60 : ev (.tmp 60) = .func (.func 69) #[] #[.pointer (some ⟨c, 0, none⟩)] := hk 60 (by decide)
              have e63 : ev (.tmp 63) = .bool (decide (1 ≤ m.ballot ∧ m.ballot ≤ 1099511627776)) := hk 63 (by decide)
              have e66 : ev (.tmp 66) = .bool (m.ballot == 0) := hk 66 (by decide)
              clear hk
              refine ⟨fun _ _ _ => ?_, fun _ hx hne => absurd hx hne⟩
              clear hd
              refine Yield.callf rfl e60 Try.func69 rfl (by kernel_rfl) ?_
              simp only [List.map_toArray, List.map_cons, List.map_nil, List.append_toArray, List.cons_append, List.nil_append, hp.const, e63, e66]
              exact (either_any _ _ _ _ c _ ((hl.cell (p := ⟨c, 0, none⟩) HCB.out).trans HC.out)).mono fun e w' ⟨he, hE⟩ => ⟨_, he, hE, by rw [HC4.out]; rfl⟩
            · intro ev wy hp hl hk hd
              have e59 : ev (.tmp 59) = .bool p3 := hk 59 (by decide)
              have e67 : ev (.tmp 67) = gate p3 (.bool c4) := hk 67 (by decide)
              clear hk hd
              obtain hgc | hgc : p3 = false ∨ p3 = true := by cases p3 <;> simp
              · subst hgc; exact Yield.pick (t := false) rfl e59 ⟨Ext.refl _, by rw [HP4.out]; exact hp.const _⟩
              · subst hgc; exact Yield.pick (t := true) rfl e59 ⟨Ext.refl _, by rw [HP4.out]; exact e67⟩
            · intro ev wy hp hl hk hd
              have e68 : ev (.tmp 68) = .bool p4 := hk 68 (by decide)
              clear hk hd
              exact Yield.mv rfl ⟨Ext.refl _, e68⟩
            · intro ev wy hp hl hk hd
              obtain hgc | hgc := p4.eq_false_or_eq_true.symm
              · subst hgc; exact ⟨fun x hx he => (by rw [show x = .bool false from hx] at he; cases he), fun _ _ _ => rfl⟩
              subst hgc
              have e4 : ev (.tmp 4) = .func (.func 69) #[] #[.pointer (some ⟨c, 0, none⟩)] := hk 4 (by decide)
              clear hk
              refine ⟨fun _ _ _ => ?_, fun _ hx hne => absurd hx hne⟩
              clear hd
              exact Yield.mv rfl ⟨Ext.refl _, e4⟩
            · intro ev wy hp hl hk hd
              obtain hgc | hgc := p4.eq_false_or_eq_true.symm
              · subst hgc; exact ⟨fun x hx he => (by rw [show x = .bool false from hx] at he; cases he), fun _ _ _ => rfl⟩
              subst hgc
              have e1 : ev (.tmp 1) = .pointer (some ⟨q, 0, none⟩) := hk 1 (by decide)
              clear hk
              refine ⟨fun _ _ _ => ?_, fun _ hx hne => absurd hx hne⟩
              clear hd
              exact Yield.op (v := .pointer (some ⟨q, 18, none⟩)) (w' := wy) (by simp [execOp, go_sem, e1]) ⟨Ext.refl _, rfl⟩
            · intro ev wy hp hl hk hd
              obtain hgc | hgc := p4.eq_false_or_eq_true.symm
              · subst hgc; exact ⟨fun x hx he => (by rw [show x = .bool false from hx] at he; cases he), fun _ _ _ => rfl⟩
              subst hgc
              have e71 : ev (.tmp 71) = .pointer (some ⟨q, 18, none⟩) := hk 71 (by decide)
              clear hk
              refine ⟨fun _ _ _ => ?_, fun _ hx hne => absurd hx hne⟩
              clear hd
              exact Yield.load rfl e71 (ldInt (HM.out.ext hl).at_.votes.2) ⟨Ext.refl _, rfl⟩
            · intro ev wy hp hl hk hd
              obtain hgc | hgc := p4.eq_false_or_eq_true.symm
              · subst hgc; exact ⟨fun x hx he => (by rw [show x = .bool false from hx] at he; cases he), fun _ _ _ => rfl⟩
              subst hgc
              have e72 : ev (.tmp 72) = .int .i64 m.old := hk 72 (by decide)
              clear hk
              refine ⟨fun _ _ _ => ?_, fun _ hx hne => absurd hx hne⟩
              clear hd
              refine Yield.call rfl hp Try.func66 rfl (by kernel_rfl) ?_
              simp only [List.map_toArray, List.map_cons, List.map_nil, hp.const, e72]
              exact ((isBetween7_ext _ _ _ _)).mono fun _ _ ⟨he, hb⟩ => ⟨_, he, hb, by first | rfl | simp⟩
            · intro ev wy hp hl hk hd
              obtain hgc | hgc := p4.eq_false_or_eq_true.symm
              · subst hgc; exact ⟨fun x hx he => (by rw [show x = .bool false from hx] at he; cases he), fun _ _ _ => rfl⟩
              subst hgc
              have e1 : ev (.tmp 1) = .pointer (some ⟨q, 0, none⟩) := hk 1 (by decide)
              clear hk
              refine ⟨fun _ _ _ => ?_, fun _ hx hne => absurd hx hne⟩
              clear hd
              exact Yield.op (v := .pointer (some ⟨q, 18, none⟩)) (w' := wy) (by simp [execOp, go_sem, e1]) ⟨Ext.refl _, rfl⟩
            · intro ev wy hp hl hk hd
              obtain hgc | hgc := p4.eq_false_or_eq_true.symm
              · subst hgc; exact ⟨fun x hx he => (by rw [show x = .bool false from hx] at he; cases he), fun _ _ _ => rfl⟩
              subst hgc
              have e74 : ev (.tmp 74) = .pointer (some ⟨q, 18, none⟩) := hk 74 (by decide)
              clear hk
              refine ⟨fun _ _ _ => ?_, fun _ hx hne => absurd hx hne⟩
              clear hd
              exact Yield.load rfl e74 (ldInt (HM.out.ext hl).at_.votes.2) ⟨Ext.refl _, rfl⟩
            · intro ev wy hp hl hk hd
              obtain hgc | hgc := p4.eq_false_or_eq_true.symm
              · subst hgc; exact ⟨fun x hx he => (by rw [show x = .bool false from hx] at he; cases he), fun _ _ _ => rfl⟩
              subst hgc
              have e75 : ev (.tmp 75) = .int .i64 m.old := hk 75 (by decide)
              clear hk
              refine ⟨fun _ _ _ => ?_, fun _ hx hne => absurd hx hne⟩
              clear hd
              exact Yield.op (v := .bool (m.old == 0)) (w' := wy) (by simp [execOp, go_sem, e75, hp.const]) ⟨Ext.refl _, rfl⟩
            · intro ev wy hp hl hk hd
              obtain hgc | hgc := p4.eq_false_or_eq_true.symm
              · subst hgc; exact ⟨fun x hx he => (by rw [show x = .bool false from hx] at he; cases he), fun _ _ _ => rfl⟩
              subst hgc
              have e70 : ev (.tmp 70) = .func (.func 69) #[] #[.pointer (some ⟨c, 0, none⟩)] := hk 70 (by decide)
              have e73 : ev (.tmp 73) = .bool (decide (0 ≤ m.old ∧ m.old ≤ 1099511627776)) := hk 73 (by decide)
              have e76 : ev (.tmp 76) = .bool (m.old == 0) := hk 76 (by decide)
              clear hk
              refine ⟨fun _ _ _ => ?_, fun _ hx hne => absurd hx hne⟩
              clear hd
              refine Yield.callf rfl e70 Try.func69 rfl (by kernel_rfl) ?_
              simp only [List.map_toArray, List.map_cons, List.map_nil, List.append_toArray, List.cons_append, List.nil_append, hp.const, e73, e76]
              exact (either_any _ _ _ _ c _ ((hl.cell (p := ⟨c, 0, none⟩) HCB.out).trans HC.out)).mono fun e w' ⟨he, hE⟩ => ⟨_, he, hE, by rw [HC5.out]; rfl⟩
            · intro ev wy hp hl hk hd
              have e69 : ev (.tmp 69) = .bool p4 := hk 69 (by decide)
              have e77 : ev (.tmp 77) = gate p4 (.bool c5) := hk 77 (by decide)
              clear hk hd
              obtain hgc | hgc : p4 = false ∨ p4 = true := by cases p4 <;> simp
              · subst hgc; exact Yield.pick (t := false) rfl e69 ⟨Ext.refl _, by rw [HP5.out]; exact hp.const _⟩
              · subst hgc; exact Yield.pick (t := true) rfl e69 ⟨Ext.refl _, by rw [HP5.out]; exact e77⟩
            · intro ev wy hp hl hk hd
              have e78 : ev (.tmp 78) = .bool p5 := hk 78 (by decide)
              clear hk hd
              exact Yield.mv rfl ⟨Ext.refl _, e78⟩
            · intro ev wy hp hl hk hd
              obtain hgc | hgc := p5.eq_false_or_eq_true.symm
              · subst hgc; exact ⟨fun x hx he => (by rw [show x = .bool false from hx] at he; cases he), fun _ _ _ => rfl⟩
              subst hgc
              have e4 : ev (.tmp 4) = .func (.func 69) #[] #[.pointer (some ⟨c, 0, none⟩)] := hk 4 (by decide)
              clear hk
              refine ⟨fun _ _ _ => ?_, fun _ hx hne => absurd hx hne⟩
              clear hd
              exact Yield.mv rfl ⟨Ext.refl _, e4⟩
            · intro ev wy hp hl hk hd
              obtain hgc | hgc := p5.eq_false_or_eq_true.symm
              · subst hgc; exact ⟨fun x hx he => (by rw [show x = .bool false from hx] at he; cases he), fun _ _ _ => rfl⟩
              subst hgc
              have e1 : ev (.tmp 1) = .pointer (some ⟨q, 0, none⟩) := hk 1 (by decide)
              clear hk
              refine ⟨fun _ _ _ => ?_, fun _ hx hne => absurd hx hne⟩
              clear hd
              exact Yield.op (v := .pointer (some ⟨q, 6, none⟩)) (w' := wy) (by simp [execOp, go_sem, e1]) ⟨Ext.refl _, rfl⟩
            · intro ev wy hp hl hk hd
              obtain hgc | hgc := p5.eq_false_or_eq_true.symm
              · subst hgc; exact ⟨fun x hx he => (by rw [show x = .bool false from hx] at he; cases he), fun _ _ _ => rfl⟩
              subst hgc
              have e81 : ev (.tmp 81) = .pointer (some ⟨q, 6, none⟩) := hk 81 (by decide)
              clear hk
              refine ⟨fun _ _ _ => ?_, fun _ hx hne => absurd hx hne⟩
              clear hd
              exact Yield.load rfl e81 (ldBool (HM.out.ext hl).at_.head.2.2.2.2.2.2) ⟨Ext.refl _, rfl⟩
            · intro ev wy hp hl hk hd
              obtain hgc | hgc := p5.eq_false_or_eq_true.symm
              · subst hgc; exact ⟨fun x hx he => (by rw [show x = .bool false from hx] at he; cases he), fun _ _ _ => rfl⟩
              subst hgc
              have e82 : ev (.tmp 82) = .bool m.is := hk 82 (by decide)
              clear hk
              refine ⟨fun _ _ _ => ?_, fun _ hx hne => absurd hx hne⟩
              clear hd
              exact Yield.op (v := .bool (!m.is)) (w' := wy) (by simp [execOp, go_sem, e82]) ⟨Ext.refl _, rfl⟩
            · intro ev wy hp hl hk hd
              obtain hgc | hgc := p5.eq_false_or_eq_true.symm
              · subst hgc; exact ⟨fun x hx he => (by rw [show x = .bool false from hx] at he; cases he), fun _ _ _ => rfl⟩
              subst hgc
              have e80 : ev (.tmp 80) = .func (.func 69) #[] #[.pointer (some ⟨c, 0, none⟩)] := hk 80 (by decide)
              have e83 : ev (.tmp 83) = .bool (!m.is) := hk 83 (by decide)
              clear hk
              refine ⟨fun _ _ _ => ?_, fun _ hx hne => absurd hx hne⟩
              clear hd
              refine Yield.callf rfl e80 Try.func69 rfl (by kernel_rfl) ?_
              simp only [List.map_toArray, List.map_cons, List.map_nil, List.append_toArray, List.cons_append, List.nil_append, hp.const, e83]
              exact (either_any _ _ _ _ c _ ((hl.cell (p := ⟨c, 0, none⟩) HCB.out).trans HC.out)).mono fun e w' ⟨he, hE⟩ => ⟨_, he, hE, by rw [HC6.out]; rfl⟩
            · intro ev wy hp hl hk hd
              have e79 : ev (.tmp 79) = .bool p5 := hk 79 (by decide)
              have e84 : ev (.tmp 84) = gate p5 (.bool c6) := hk 84 (by decide)
              clear hk hd
              obtain hgc | hgc : p5 = false ∨ p5 = true := by cases p5 <;> simp
              · subst hgc; exact Yield.pick (t := false) rfl e79 ⟨Ext.refl _, by rw [HP6.out]; exact hp.const _⟩
              · subst hgc; exact Yield.pick (t := true) rfl e79 ⟨Ext.refl _, by rw [HP6.out]; exact e84⟩
            · intro ev wy hp hl hk hd
              have e85 : ev (.tmp 85) = .bool p6 := hk 85 (by decide)
              clear hk hd
              exact Yield.mv rfl ⟨Ext.refl _, e85⟩
            · intro ev wy hp hl hk hd
              obtain hgc | hgc := p6.eq_false_or_eq_true.symm
              · subst hgc; exact ⟨fun x hx he => (by rw [show x = .bool false from hx] at he; cases he), fun _ _ _ => rfl⟩
              subst hgc
              have e4 : ev (.tmp 4) = .func (.func 69) #[] #[.pointer (some ⟨c, 0, none⟩)] := hk 4 (by decide)
              clear hk
              refine ⟨fun _ _ _ => ?_, fun _ hx hne => absurd hx hne⟩
              clear hd
              exact Yield.mv rfl ⟨Ext.refl _, e4⟩
            · intro ev wy hp hl hk hd
              obtain hgc | hgc := p6.eq_false_or_eq_true.symm
              · subst hgc; exact ⟨fun x hx he => (by rw [show x = .bool false from hx] at he; cases he), fun _ _ _ => rfl⟩
              subst hgc
              have e1 : ev (.tmp 1) = .pointer (some ⟨q, 0, none⟩) := hk 1 (by decide)
              clear hk
              refine ⟨fun _ _ _ => ?_, fun _ hx hne => absurd hx hne⟩
              clear hd
              exact Yield.op (v := .pointer (some ⟨q, 7, none⟩)) (w' := wy) (by simp [execOp, go_sem, e1]) ⟨Ext.refl _, rfl⟩
            · intro ev wy hp hl hk hd
              obtain hgc | hgc := p6.eq_false_or_eq_true.symm
              · subst hgc; exact ⟨fun x hx he => (by rw [show x = .bool false from hx] at he; cases he), fun _ _ _ => rfl⟩
              subst hgc
              have e88 : ev (.tmp 88) = .pointer (some ⟨q, 7, none⟩) := hk 88 (by decide)
              clear hk
              refine ⟨fun _ _ _ => ?_, fun _ hx hne => absurd hx hne⟩
              clear hd
              exact Yield.load rfl e88 (HM.out.ext hl).ldRec ⟨Ext.refl _, rfl⟩
            · intro ev wy hp hl hk hd
              obtain hgc | hgc := p6.eq_false_or_eq_true.symm
              · subst hgc; exact ⟨fun x hx he => (by rw [show x = .bool false from hx] at he; cases he), fun _ _ _ => rfl⟩
              subst hgc
              have e89 : ev (.tmp 89) = .agg #[.int .i64 m.reco.client, .int .i64 m.reco.number, rt, .string ⟨m.reco.data.toArray⟩] := hk 89 (by decide)
              clear hk
              refine ⟨fun _ _ _ => ?_, fun _ hx hne => absurd hx hne⟩
              clear hd
              refine Yield.call rfl hp Try.func71 rfl (by kernel_rfl) ?_
              simp only [List.map_toArray, List.map_cons, List.map_nil, e89]
              exact ((right4_any _ m.reco _ (HM.out.ext hl).isRec)).mono fun _ _ ⟨he, hb⟩ => ⟨_, he, hb, by first | rfl | simp⟩
            · intro ev wy hp hl hk hd
              obtain hgc | hgc := p6.eq_false_or_eq_true.symm
              · subst hgc; exact ⟨fun x hx he => (by rw [show x = .bool false from hx] at he; cases he), fun _ _ _ => rfl⟩
              subst hgc
              have e1 : ev (.tmp 1) = .pointer (some ⟨q, 0, none⟩) := hk 1 (by decide)
              clear hk
              refine ⟨fun _ _ _ => ?_, fun _ hx hne => absurd hx hne⟩
              clear hd
              exact Yield.op (v := .pointer (some ⟨q, 7, none⟩)) (w' := wy) (by simp [execOp, go_sem, e1]) ⟨Ext.refl _, rfl⟩
            · intro ev wy hp hl hk hd
              obtain hgc | hgc := p6.eq_false_or_eq_true.symm
              · subst hgc; exact ⟨fun x hx he => (by rw [show x = .bool false from hx] at he; cases he), fun _ _ _ => rfl⟩
              subst hgc
              have e91 : ev (.tmp 91) = .pointer (some ⟨q, 7, none⟩) := hk 91 (by decide)
              clear hk
              refine ⟨fun _ _ _ => ?_, fun _ hx hne => absurd hx hne⟩
              clear hd
              exact Yield.load rfl e91 (HM.out.ext hl).ldRec ⟨Ext.refl _, rfl⟩
            · intro ev wy hp hl hk hd
              obtain hgc | hgc := p6.eq_false_or_eq_true.symm
              · subst hgc; exact ⟨fun x hx he => (by rw [show x = .bool false from hx] at he; cases he), fun _ _ _ => rfl⟩
              subst hgc
              clear hk
              refine ⟨fun _ _ _ => ?_, fun _ hx hne => absurd hx hne⟩
              clear hd
              exact Yield.op (v := .agg #[.int .i64 0, .int .i64 0, .slice none 0 0, .string ⟨#[]⟩]) (w' := wy) (by simp [execOp, go_sem, build_rec0]) ⟨Ext.refl _, rfl⟩
            · intro ev wy hp hl hk hd
              obtain hgc | hgc := p6.eq_false_or_eq_true.symm
              · subst hgc; exact ⟨fun x hx he => (by rw [show x = .bool false from hx] at he; cases he), fun _ _ _ => rfl⟩
              subst hgc
              have e92 : ev (.tmp 92) = .agg #[.int .i64 m.reco.client, .int .i64 m.reco.number, rt, .string ⟨m.reco.data.toArray⟩] := hk 92 (by decide)
              have e93 : ev (.tmp 93) = .agg #[.int .i64 0, .int .i64 0, .slice none 0 0, .string ⟨#[]⟩] := hk 93 (by decide)
              clear hk
              refine ⟨fun _ _ _ => ?_, fun _ hx hne => absurd hx hne⟩
              clear hd
              refine Yield.call rfl hp Try.func72 rfl (by kernel_rfl) ?_
              simp only [List.map_toArray, List.map_cons, List.map_nil, e92, e93]
              exact ((same4_any _ _ m.reco Msg.rec0 _ (HM.out.ext hl).isRec (isRec0 _))).mono fun _ _ ⟨he, hb⟩ => ⟨_, he, hb, by first | rfl | simp⟩
            · intro ev wy hp hl hk hd
              obtain hgc | hgc := p6.eq_false_or_eq_true.symm
              · subst hgc; exact ⟨fun x hx he => (by rw [show x = .bool false from hx] at he; cases he), fun _ _ _ => rfl⟩
              subst hgc
              have e87 : ev (.tmp 87) = .func (.func 69) #[] #[.pointer (some ⟨c, 0, none⟩)] := hk 87 (by decide)
              have e90 : ev (.tmp 90) = .bool (Rec.right m.reco) := hk 90 (by decide)
              have e94 : ev (.tmp 94) = .bool (Rec.same m.reco Msg.rec0) := hk 94 (by decide)
              clear hk
              refine ⟨fun _ _ _ => ?_, fun _ hx hne => absurd hx hne⟩
              clear hd
              refine Yield.callf rfl e87 Try.func69 rfl (by kernel_rfl) ?_
              simp only [List.map_toArray, List.map_cons, List.map_nil, List.append_toArray, List.cons_append, List.nil_append, hp.const, e90, e94]
              exact (either_any _ _ _ _ c _ ((hl.cell (p := ⟨c, 0, none⟩) HCB.out).trans HC.out)).mono fun e w' ⟨he, hE⟩ => ⟨_, he, hE, by rw [HC7.out]; rfl⟩
            · intro ev wy hp hl hk hd
              have e86 : ev (.tmp 86) = .bool p6 := hk 86 (by decide)
              have e95 : ev (.tmp 95) = gate p6 (.bool c7) := hk 95 (by decide)
              clear hk hd
              obtain hgc | hgc : p6 = false ∨ p6 = true := by cases p6 <;> simp
              · subst hgc; exact Yield.pick (t := false) rfl e86 ⟨Ext.refl _, by rw [HP7.out]; exact hp.const _⟩
              · subst hgc; exact Yield.pick (t := true) rfl e86 ⟨Ext.refl _, by rw [HP7.out]; exact e95⟩
            · intro ev wy hp hl hk hd
              have e96 : ev (.tmp 96) = .bool p7 := hk 96 (by decide)
              clear hk hd
              exact Yield.mv rfl ⟨Ext.refl _, e96⟩
            · intro ev wy hp hl hk hd
              obtain hgc | hgc := p7.eq_false_or_eq_true.symm
              · subst hgc; exact ⟨fun x hx he => (by rw [show x = .bool false from hx] at he; cases he), fun _ _ _ => rfl⟩
              subst hgc
              have e4 : ev (.tmp 4) = .func (.func 69) #[] #[.pointer (some ⟨c, 0, none⟩)] := hk 4 (by decide)
              clear hk
              refine ⟨fun _ _ _ => ?_, fun _ hx hne => absurd hx hne⟩
              clear hd
              exact Yield.mv rfl ⟨Ext.refl _, e4⟩
            · intro ev wy hp hl hk hd
              obtain hgc | hgc := p7.eq_false_or_eq_true.symm
              · subst hgc; exact ⟨fun x hx he => (by rw [show x = .bool false from hx] at he; cases he), fun _ _ _ => rfl⟩
              subst hgc
              have e1 : ev (.tmp 1) = .pointer (some ⟨q, 0, none⟩) := hk 1 (by decide)
              clear hk
              refine ⟨fun _ _ _ => ?_, fun _ hx hne => absurd hx hne⟩
              clear hd
              exact Yield.op (v := .pointer (some ⟨q, 19, none⟩)) (w' := wy) (by simp [execOp, go_sem, e1]) ⟨Ext.refl _, rfl⟩
            · intro ev wy hp hl hk hd
              obtain hgc | hgc := p7.eq_false_or_eq_true.symm
              · subst hgc; exact ⟨fun x hx he => (by rw [show x = .bool false from hx] at he; cases he), fun _ _ _ => rfl⟩
              subst hgc
              have e99 : ev (.tmp 99) = .pointer (some ⟨q, 19, none⟩) := hk 99 (by decide)
              clear hk
              refine ⟨fun _ _ _ => ?_, fun _ hx hne => absurd hx hne⟩
              clear hd
              exact Yield.load rfl e99 ((HM.out.ext hl).ldConf _ (.inl rfl)) ⟨Ext.refl _, rfl⟩
            · intro ev wy hp hl hk hd
              obtain hgc | hgc := p7.eq_false_or_eq_true.symm
              · subst hgc; exact ⟨fun x hx he => (by rw [show x = .bool false from hx] at he; cases he), fun _ _ _ => rfl⟩
              subst hgc
              have e100 : ev (.tmp 100) = .agg #[.int .i64 m.conf.term, sv, dv] := hk 100 (by decide)
              clear hk
              refine ⟨fun _ _ _ => ?_, fun _ hx hne => absurd hx hne⟩
              clear hd
              refine Yield.call rfl hp Try.func30 rfl (by kernel_rfl) ?_
              simp only [List.map_toArray, List.map_cons, List.map_nil, e100]
              exact ((HCR.out _ (HM.out.ext hl).isConf)).mono fun _ _ ⟨he, hb⟩ => ⟨_, he, hb, by first | rfl | simp⟩
            · intro ev wy hp hl hk hd
              obtain hgc | hgc := p7.eq_false_or_eq_true.symm
              · subst hgc; exact ⟨fun x hx he => (by rw [show x = .bool false from hx] at he; cases he), fun _ _ _ => rfl⟩
              subst hgc
              have e101 : ev (.tmp 101) = .bool cr := hk 101 (by decide)
              clear hk
              refine ⟨fun _ _ _ => ?_, fun _ hx hne => absurd hx hne⟩
              clear hd
              exact Yield.mv rfl ⟨Ext.refl _, e101⟩
            · intro ev wy hp hl hk hd
              obtain hgc | hgc := p7.eq_false_or_eq_true.symm
              · subst hgc; exact ⟨fun x hx he => (by rw [show x = undef from hx] at he; cases he), fun _ _ _ => rfl⟩
              subst hgc
              obtain hgc | hgc := cr.eq_false_or_eq_true.symm
              · subst hgc; exact ⟨fun x hx he => (by rw [show x = .bool false from hx] at he; cases he), fun _ _ _ => rfl⟩
              subst hgc
              have e1 : ev (.tmp 1) = .pointer (some ⟨q, 0, none⟩) := hk 1 (by decide)
              clear hk
              refine ⟨fun _ _ _ => ?_, fun _ hx hne => absurd hx hne⟩
              clear hd
              exact Yield.op (v := .pointer (some ⟨q, 19, none⟩)) (w' := wy) (by simp [execOp, go_sem, e1]) ⟨Ext.refl _, rfl⟩
            · intro ev wy hp hl hk hd
              obtain hgc | hgc := p7.eq_false_or_eq_true.symm
              · subst hgc; exact ⟨fun x hx he => (by rw [show x = undef from hx] at he; cases he), fun _ _ _ => rfl⟩
              subst hgc
              obtain hgc | hgc := cr.eq_false_or_eq_true.symm
              · subst hgc; exact ⟨fun x hx he => (by rw [show x = .bool false from hx] at he; cases he), fun _ _ _ => rfl⟩
              subst hgc
              have e103 : ev (.tmp 103) = .pointer (some ⟨q, 19, none⟩) := hk 103 (by decide)
              clear hk
              refine ⟨fun _ _ _ => ?_, fun _ hx hne => absurd hx hne⟩
              clear hd
              exact Yield.op (v := .pointer (some ⟨q, 19, none⟩)) (w' := wy) (by simp [execOp, go_sem, e103]) ⟨Ext.refl _, rfl⟩
            · intro ev wy hp hl hk hd
              obtain hgc | hgc := p7.eq_false_or_eq_true.symm
              · subst hgc; exact ⟨fun x hx he => (by rw [show x = undef from hx] at he; cases he), fun _ _ _ => rfl⟩
              subst hgc
              obtain hgc | hgc := cr.eq_false_or_eq_true.symm
              · subst hgc; exact ⟨fun x hx he => (by rw [show x = .bool false from hx] at he; cases he), fun _ _ _ => rfl⟩
              subst hgc
              have e104 : ev (.tmp 104) = .pointer (some ⟨q, 19, none⟩) := hk 104 (by decide)
              clear hk
              refine ⟨fun _ _ _ => ?_, fun _ hx hne => absurd hx hne⟩
              clear hd
              exact Yield.load rfl e104 (ldInt (HM.out.ext hl).at_.conf.1) ⟨Ext.refl _, rfl⟩
            · intro ev wy hp hl hk hd
              obtain hgc | hgc := p7.eq_false_or_eq_true.symm
              · subst hgc; exact ⟨fun x hx he => (by rw [show x = undef from hx] at he; cases he), fun _ _ _ => rfl⟩
              subst hgc
              obtain hgc | hgc := cr.eq_false_or_eq_true.symm
              · subst hgc; exact ⟨fun x hx he => (by rw [show x = .bool false from hx] at he; cases he), fun _ _ _ => rfl⟩
              subst hgc
              have e1 : ev (.tmp 1) = .pointer (some ⟨q, 0, none⟩) := hk 1 (by decide)
              clear hk
              refine ⟨fun _ _ _ => ?_, fun _ hx hne => absurd hx hne⟩
              clear hd
              exact Yield.op (v := .pointer (some ⟨q, 3, none⟩)) (w' := wy) (by simp [execOp, go_sem, e1]) ⟨Ext.refl _, rfl⟩
            · intro ev wy hp hl hk hd
              obtain hgc | hgc := p7.eq_false_or_eq_true.symm
              · subst hgc; exact ⟨fun x hx he => (by rw [show x = undef from hx] at he; cases he), fun _ _ _ => rfl⟩
              subst hgc
              obtain hgc | hgc := cr.eq_false_or_eq_true.symm
              · subst hgc; exact ⟨fun x hx he => (by rw [show x = .bool false from hx] at he; cases he), fun _ _ _ => rfl⟩
              subst hgc
              have e106 : ev (.tmp 106) = .pointer (some ⟨q, 3, none⟩) := hk 106 (by decide)
              clear hk
              refine ⟨fun _ _ _ => ?_, fun _ hx hne => absurd hx hne⟩
              clear hd
              exact Yield.load rfl e106 (ldInt (HM.out.ext hl).at_.head.2.2.2.1) ⟨Ext.refl _, rfl⟩
            · intro ev wy hp hl hk hd
              obtain hgc | hgc := p7.eq_false_or_eq_true.symm
              · subst hgc; exact ⟨fun x hx he => (by rw [show x = undef from hx] at he; cases he), fun _ _ _ => rfl⟩
              subst hgc
              obtain hgc | hgc := cr.eq_false_or_eq_true.symm
              · subst hgc; exact ⟨fun x hx he => (by rw [show x = .bool false from hx] at he; cases he), fun _ _ _ => rfl⟩
              subst hgc
              have e105 : ev (.tmp 105) = .int .i64 m.conf.term := hk 105 (by decide)
              have e107 : ev (.tmp 107) = .int .i64 m.term := hk 107 (by decide)
              clear hk
              refine ⟨fun _ _ _ => ?_, fun _ hx hne => absurd hx hne⟩
              clear hd
              exact Yield.op (v := .bool (m.conf.term == m.term)) (w' := wy) (by simp [execOp, go_sem, e105, e107]) ⟨Ext.refl _, rfl⟩
            · intro ev wy hp hl hk hd
              obtain hgc | hgc := p7.eq_false_or_eq_true.symm
              · subst hgc; exact ⟨fun x hx he => (by rw [show x = .bool false from hx] at he; cases he), fun _ _ _ => rfl⟩
              subst hgc
              have e102 : ev (.tmp 102) = .bool cr := hk 102 (by decide)
              have e108 : ev (.tmp 108) = gate cr (.bool (m.conf.term == m.term)) := hk 108 (by decide)
              clear hk
              refine ⟨fun _ _ _ => ?_, fun _ hx hne => absurd hx hne⟩
              clear hd
              obtain hgd | hgd : cr = false ∨ cr = true := by cases cr <;> simp
              · subst hgd; exact Yield.pick (t := false) rfl e102 ⟨Ext.refl _, by rw [HCW.out]; exact hp.const _⟩
              · subst hgd; exact Yield.pick (t := true) rfl e102 ⟨Ext.refl _, by rw [HCW.out]; exact e108⟩
            · intro ev wy hp hl hk hd
              obtain hgc | hgc := p7.eq_false_or_eq_true.symm
              · subst hgc; exact ⟨fun x hx he => (by rw [show x = .bool false from hx] at he; cases he), fun _ _ _ => rfl⟩
              subst hgc
              have e1 : ev (.tmp 1) = .pointer (some ⟨q, 0, none⟩) := hk 1 (by decide)
              clear hk
              refine ⟨fun _ _ _ => ?_, fun _ hx hne => absurd hx hne⟩
              clear hd
              exact Yield.op (v := .pointer (some ⟨q, 19, none⟩)) (w' := wy) (by simp [execOp, go_sem, e1]) ⟨Ext.refl _, rfl⟩
            · intro ev wy hp hl hk hd
              obtain hgc | hgc := p7.eq_false_or_eq_true.symm
              · subst hgc; exact ⟨fun x hx he => (by rw [show x = .bool false from hx] at he; cases he), fun _ _ _ => rfl⟩
              subst hgc
              have e110 : ev (.tmp 110) = .pointer (some ⟨q, 19, none⟩) := hk 110 (by decide)
              clear hk
              refine ⟨fun _ _ _ => ?_, fun _ hx hne => absurd hx hne⟩
              clear hd
              exact Yield.load rfl e110 ((HM.out.ext hl).ldConf _ (.inl rfl)) ⟨Ext.refl _, rfl⟩
            · intro ev wy hp hl hk hd
              obtain hgc | hgc := p7.eq_false_or_eq_true.symm
              · subst hgc; exact ⟨fun x hx he => (by rw [show x = .bool false from hx] at he; cases he), fun _ _ _ => rfl⟩
              subst hgc
              clear hk
              refine ⟨fun _ _ _ => ?_, fun _ hx hne => absurd hx hne⟩
              clear hd
              exact Yield.op (v := .agg #[.int .i64 0, .slice none 0 0, .slice none 0 0]) (w' := wy) (by simp [execOp, go_sem, build_conf0]) ⟨Ext.refl _, rfl⟩
            · intro ev wy hp hl hk hd
              obtain hgc | hgc := p7.eq_false_or_eq_true.symm
              · subst hgc; exact ⟨fun x hx he => (by rw [show x = .bool false from hx] at he; cases he), fun _ _ _ => rfl⟩
              subst hgc
              have e111 : ev (.tmp 111) = .agg #[.int .i64 m.conf.term, sv, dv] := hk 111 (by decide)
              have e112 : ev (.tmp 112) = .agg #[.int .i64 0, .slice none 0 0, .slice none 0 0] := hk 112 (by decide)
              clear hk
              refine ⟨fun _ _ _ => ?_, fun _ hx hne => absurd hx hne⟩
              clear hd
              refine Yield.call rfl hp Try.func73 rfl (by kernel_rfl) ?_
              simp only [List.map_toArray, List.map_cons, List.map_nil, e111, e112]
              exact ((same6_any _ _ m.conf Msg.conf0 _ (HM.out.ext hl).isConf (isConf0 _))).mono fun _ _ ⟨he, hb⟩ => ⟨_, he, hb, by first | rfl | simp⟩
            · intro ev wy hp hl hk hd
              obtain hgc | hgc := p7.eq_false_or_eq_true.symm
              · subst hgc; exact ⟨fun x hx he => (by rw [show x = .bool false from hx] at he; cases he), fun _ _ _ => rfl⟩
              subst hgc
              have e98 : ev (.tmp 98) = .func (.func 69) #[] #[.pointer (some ⟨c, 0, none⟩)] := hk 98 (by decide)
              have e109 : ev (.tmp 109) = .bool cw := hk 109 (by decide)
              have e113 : ev (.tmp 113) = .bool (Term.alike m.conf Msg.conf0) := hk 113 (by decide)
              clear hk
              refine ⟨fun _ _ _ => ?_, fun _ hx hne => absurd hx hne⟩
              clear hd
              refine Yield.callf rfl e98 Try.func69 rfl (by kernel_rfl) ?_
              simp only [List.map_toArray, List.map_cons, List.map_nil, List.append_toArray, List.cons_append, List.nil_append, hp.const, e109, e113]
              exact (either_any _ _ _ _ c _ ((hl.cell (p := ⟨c, 0, none⟩) HCB.out).trans HC.out)).mono fun e w' ⟨he, hE⟩ => ⟨_, he, hE, by rw [HC8.out]; rfl⟩
            · intro ev wy hp hl hk hd
              have e97 : ev (.tmp 97) = .bool p7 := hk 97 (by decide)
              have e114 : ev (.tmp 114) = gate p7 (.bool c8) := hk 114 (by decide)
              clear hk hd
              obtain hgc | hgc : p7 = false ∨ p7 = true := by cases p7 <;> simp
              · subst hgc; exact Yield.pick (t := false) rfl e97 ⟨Ext.refl _, by rw [HP8.out]; exact hp.const _⟩
              · subst hgc; exact Yield.pick (t := true) rfl e97 ⟨Ext.refl _, by rw [HP8.out]; exact e114⟩
            · intro ev wy hp hl hk hd
              have e115 : ev (.tmp 115) = .bool p8 := hk 115 (by decide)
              clear hk hd
              exact Yield.as rfl ⟨Ext.refl _, e115⟩
          · intro vals wz hz hv
            have g30 : vals 0 = .func (.func 69) #[] #[.pointer (some ⟨c, 0, none⟩)] := hv 0 (by decide)
            have g31 : vals 1 = .pointer (some ⟨q, 4, none⟩) := hv 1 (by decide)
            have g32 : vals 2 = .int .i64 m.shard := hv 2 (by decide)
            have g33 : vals 3 = .bool (decide (0 ≤ m.shard ∧ m.shard ≤ 7)) := hv 3 (by decide)
            have g34 : vals 4 = .pointer (some ⟨q, 4, none⟩) := hv 4 (by decide)
            have g35 : vals 5 = .int .i64 m.shard := hv 5 (by decide)
            have g36 : vals 6 = .bool (m.shard == 0) := hv 6 (by decide)
            have g37 : vals 7 = .bool p1 := hv 7 (by decide)
            have g38 : vals 8 = .bool p1 := hv 8 (by decide)
            have g39 : vals 9 = gate p1 (.func (.func 69) #[] #[.pointer (some ⟨c, 0, none⟩)]) := hv 9 (by decide)
            have g40 : vals 10 = gate p1 (.pointer (some ⟨q, 5, none⟩)) := hv 10 (by decide)
            have g41 : vals 11 = gate p1 (.int .i64 m.number) := hv 11 (by decide)
            have g42 : vals 12 = gate p1 (.bool (decide (0 ≤ m.number ∧ m.number ≤ 1099511627776))) := hv 12 (by decide)
            have g43 : vals 13 = gate p1 (.pointer (some ⟨q, 5, none⟩)) := hv 13 (by decide)
            have g44 : vals 14 = gate p1 (.int .i64 m.number) := hv 14 (by decide)
            have g45 : vals 15 = gate p1 (.bool (m.number == 0)) := hv 15 (by decide)
            have g46 : vals 16 = gate p1 (.bool c2) := hv 16 (by decide)
            have g47 : vals 17 = .bool p2 := hv 17 (by decide)
            have g48 : vals 18 = .bool p2 := hv 18 (by decide)
            have g49 : vals 19 = gate p2 (.func (.func 69) #[] #[.pointer (some ⟨c, 0, none⟩)]) := hv 19 (by decide)
            have g50 : vals 20 = gate p2 (.pointer (some ⟨q, 11, none⟩)) := hv 20 (by decide)
            have g51 : vals 21 = gate p2 (.agg #[.int .i64 m.ent.number, .int .i64 m.ent.kind, et, .int .i64 m.ent.tag, .int .i64 m.ent.term, .int .i64 m.ent.pos]) := hv 21 (by decide)
            have g52 : vals 22 = gate p2 (.bool (Ent.right m.ent)) := hv 22 (by decide)
            have g53 : vals 23 = gate p2 (.pointer (some ⟨q, 11, none⟩)) := hv 23 (by decide)
            have g54 : vals 24 = gate p2 (.agg #[.int .i64 m.ent.number, .int .i64 m.ent.kind, et, .int .i64 m.ent.tag, .int .i64 m.ent.term, .int .i64 m.ent.pos]) := hv 24 (by decide)
            have g55 : vals 25 = gate p2 (.agg #[.int .i64 0, .int .i64 0, .slice none 0 0, .int .i64 0, .int .i64 0, .int .i64 0]) := hv 25 (by decide)
            have g56 : vals 26 = gate p2 (.bool (Ent.alike m.ent Msg.ent0)) := hv 26 (by decide)
            have g57 : vals 27 = gate p2 (.bool c3) := hv 27 (by decide)
            have g58 : vals 28 = .bool p3 := hv 28 (by decide)
            have g59 : vals 29 = .bool p3 := hv 29 (by decide)
            have g60 : vals 30 = gate p3 (.func (.func 69) #[] #[.pointer (some ⟨c, 0, none⟩)]) := hv 30 (by decide)
            have g61 : vals 31 = gate p3 (.pointer (some ⟨q, 17, none⟩)) := hv 31 (by decide)
            have g62 : vals 32 = gate p3 (.int .i64 m.ballot) := hv 32 (by decide)
            have g63 : vals 33 = gate p3 (.bool (decide (1 ≤ m.ballot ∧ m.ballot ≤ 1099511627776))) := hv 33 (by decide)
            have g64 : vals 34 = gate p3 (.pointer (some ⟨q, 17, none⟩)) := hv 34 (by decide)
            have g65 : vals 35 = gate p3 (.int .i64 m.ballot) := hv 35 (by decide)
            have g66 : vals 36 = gate p3 (.bool (m.ballot == 0)) := hv 36 (by decide)
            have g67 : vals 37 = gate p3 (.bool c4) := hv 37 (by decide)
            have g68 : vals 38 = .bool p4 := hv 38 (by decide)
            have g69 : vals 39 = .bool p4 := hv 39 (by decide)
            have g70 : vals 40 = gate p4 (.func (.func 69) #[] #[.pointer (some ⟨c, 0, none⟩)]) := hv 40 (by decide)
            have g71 : vals 41 = gate p4 (.pointer (some ⟨q, 18, none⟩)) := hv 41 (by decide)
            have g72 : vals 42 = gate p4 (.int .i64 m.old) := hv 42 (by decide)
            have g73 : vals 43 = gate p4 (.bool (decide (0 ≤ m.old ∧ m.old ≤ 1099511627776))) := hv 43 (by decide)
            have g74 : vals 44 = gate p4 (.pointer (some ⟨q, 18, none⟩)) := hv 44 (by decide)
            have g75 : vals 45 = gate p4 (.int .i64 m.old) := hv 45 (by decide)
            have g76 : vals 46 = gate p4 (.bool (m.old == 0)) := hv 46 (by decide)
            have g77 : vals 47 = gate p4 (.bool c5) := hv 47 (by decide)
            have g78 : vals 48 = .bool p5 := hv 48 (by decide)
            have g79 : vals 49 = .bool p5 := hv 49 (by decide)
            have g80 : vals 50 = gate p5 (.func (.func 69) #[] #[.pointer (some ⟨c, 0, none⟩)]) := hv 50 (by decide)
            have g81 : vals 51 = gate p5 (.pointer (some ⟨q, 6, none⟩)) := hv 51 (by decide)
            have g82 : vals 52 = gate p5 (.bool m.is) := hv 52 (by decide)
            have g83 : vals 53 = gate p5 (.bool (!m.is)) := hv 53 (by decide)
            have g84 : vals 54 = gate p5 (.bool c6) := hv 54 (by decide)
            have g85 : vals 55 = .bool p6 := hv 55 (by decide)
            have g86 : vals 56 = .bool p6 := hv 56 (by decide)
            have g87 : vals 57 = gate p6 (.func (.func 69) #[] #[.pointer (some ⟨c, 0, none⟩)]) := hv 57 (by decide)
            have g88 : vals 58 = gate p6 (.pointer (some ⟨q, 7, none⟩)) := hv 58 (by decide)
            have g89 : vals 59 = gate p6 (.agg #[.int .i64 m.reco.client, .int .i64 m.reco.number, rt, .string ⟨m.reco.data.toArray⟩]) := hv 59 (by decide)
            have g90 : vals 60 = gate p6 (.bool (Rec.right m.reco)) := hv 60 (by decide)
            have g91 : vals 61 = gate p6 (.pointer (some ⟨q, 7, none⟩)) := hv 61 (by decide)
            have g92 : vals 62 = gate p6 (.agg #[.int .i64 m.reco.client, .int .i64 m.reco.number, rt, .string ⟨m.reco.data.toArray⟩]) := hv 62 (by decide)
            have g93 : vals 63 = gate p6 (.agg #[.int .i64 0, .int .i64 0, .slice none 0 0, .string ⟨#[]⟩]) := hv 63 (by decide)
            have g94 : vals 64 = gate p6 (.bool (Rec.same m.reco Msg.rec0)) := hv 64 (by decide)
            have g95 : vals 65 = gate p6 (.bool c7) := hv 65 (by decide)
            have g96 : vals 66 = .bool p7 := hv 66 (by decide)
            have g97 : vals 67 = .bool p7 := hv 67 (by decide)
            have g98 : vals 68 = gate p7 (.func (.func 69) #[] #[.pointer (some ⟨c, 0, none⟩)]) := hv 68 (by decide)
            have g99 : vals 69 = gate p7 (.pointer (some ⟨q, 19, none⟩)) := hv 69 (by decide)
            have g100 : vals 70 = gate p7 (.agg #[.int .i64 m.conf.term, sv, dv]) := hv 70 (by decide)
            have g101 : vals 71 = gate p7 (.bool cr) := hv 71 (by decide)
            have g102 : vals 72 = gate p7 (.bool cr) := hv 72 (by decide)
            have g103 : vals 73 = gate p7 (gate cr (.pointer (some ⟨q, 19, none⟩))) := hv 73 (by decide)
            have g104 : vals 74 = gate p7 (gate cr (.pointer (some ⟨q, 19, none⟩))) := hv 74 (by decide)
            have g105 : vals 75 = gate p7 (gate cr (.int .i64 m.conf.term)) := hv 75 (by decide)
            have g106 : vals 76 = gate p7 (gate cr (.pointer (some ⟨q, 3, none⟩))) := hv 76 (by decide)
            have g107 : vals 77 = gate p7 (gate cr (.int .i64 m.term)) := hv 77 (by decide)
            have g108 : vals 78 = gate p7 (gate cr (.bool (m.conf.term == m.term))) := hv 78 (by decide)
            have g109 : vals 79 = gate p7 (.bool cw) := hv 79 (by decide)
            have g110 : vals 80 = gate p7 (.pointer (some ⟨q, 19, none⟩)) := hv 80 (by decide)
            have g111 : vals 81 = gate p7 (.agg #[.int .i64 m.conf.term, sv, dv]) := hv 81 (by decide)
            have g112 : vals 82 = gate p7 (.agg #[.int .i64 0, .slice none 0 0, .slice none 0 0]) := hv 82 (by decide)
            have g113 : vals 83 = gate p7 (.bool (Term.alike m.conf Msg.conf0)) := hv 83 (by decide)
            have g114 : vals 84 = gate p7 (.bool c8) := hv 84 (by decide)
            have g115 : vals 85 = .bool p8 := hv 85 (by decide)
            have g2 : vals 86 = .bool p8 := hv 86 (by decide)
            clear hv
            simp only [List.append_eq, List.cons_append, List.nil_append]
            simp only [putAll, Act.put, List.setIfInBounds_toArray, List.set_cons_zero, List.set_cons_succ, g30, g31, g32, g33, g34, g35, g36, g37, g38, g39, g40, g41, g42, g43, g44, g45, g46, g47, g48, g49, g50, g51, g52, g53, g54, g55, g56, g57, g58, g59, g60, g61, g62, g63, g64, g65, g66, g67, g68, g69, g70, g71, g72, g73, g74, g75, g76, g77, g78, g79, g80, g81, g82, g83, g84, g85, g86, g87, g88, g89, g90, g91, g92, g93, g94, g95, g96, g97, g98, g99, g100, g101, g102, g103, g104, g105, g106, g107, g108, g109, g110, g111, g112, g113, g114, g115, g2]
            clear g30
            clear g31
            clear g32
            clear g33
            clear g34
            clear g35
            clear g36
            clear g37
            clear g38
            clear g39
            clear g40
            clear g41
            clear g42
            clear g43
            clear g44
            clear g45
            clear g46
            clear g47
            clear g48
            clear g49
            clear g50
            clear g51
            clear g52
            clear g53
            clear g54
            clear g55
            clear g56
            clear g57
            clear g58
            clear g59
            clear g60
            clear g61
            clear g62
            clear g63
            clear g64
            clear g65
            clear g66
            clear g67
            clear g68
            clear g69
            clear g70
            clear g71
            clear g72
            clear g73
            clear g74
            clear g75
            clear g76
            clear g77
            clear g78
            clear g79
            clear g80
            clear g81
            clear g82
            clear g83
            clear g84
            clear g85
            clear g86
            clear g87
            clear g88
            clear g89
            clear g90
            clear g91
            clear g92
            clear g93
            clear g94
            clear g95
            clear g96
            clear g97
            clear g98
            clear g99
            clear g100
            clear g101
            clear g102
            clear g103
            clear g104
            clear g105
            clear g106
            clear g107
            clear g108
            clear g109
            clear g110
            clear g111
            clear g112
            clear g113
            clear g114
            clear g115
            clear g2
            clear HP1 HP2 HP3 HP4 HP5 HP6 HP7 HP8 HC2 HC3 HC4 HC5 HC6 HC7 HC8 HCW HCR HC HCB HM
            go_wp2_with fail
            go_ret
            exact ⟨by rw [← HZ.out]; rfl, hE3.trans hz⟩
/- Layer 7: a message of the document's type, allocated and stored whole. -/
section
variable {ops : Array Oper} {rest : List Oper} {op : Oper} {a : Act} {w : World} {Q : Exit → Act → World → Prop}
end
end Go.Proofs.Ytnoeconcpgdjlaa

namespace Go.Proofs.Ytnoeconcpgdjlaa
set_option linter.unusedSimpArgs false
set_option linter.unusedVariables false
set_option maxRecDepth 100000
open Go.ChangeShapes Go.WideShapes Go.ChangeAt Go.RowKit
/- Layer 7: a message out of what comes in. -/
section
variable {H : Type} {enc : TypeId × Value → H} {w : World} {base : Nat} {spare : Nat → Bool} {held : Bool}

theorem of22 {α : Type} {l : List α} (h : l.length = 22) : ∃ c0 c1 c2 c3 c4 c5 c6 c7 c8 c9 c10 c11 c12 c13 c14 c15 c16 c17 c18 c19 c20 c21, l = [c0, c1, c2, c3, c4, c5, c6, c7, c8, c9, c10, c11, c12, c13, c14, c15, c16, c17, c18, c19, c20, c21] := by
  match l, h with
  | [c0, c1, c2, c3, c4, c5, c6, c7, c8, c9, c10, c11, c12, c13, c14, c15, c16, c17, c18, c19, c20, c21], _ => exact ⟨c0, c1, c2, c3, c4, c5, c6, c7, c8, c9, c10, c11, c12, c13, c14, c15, c16, c17, c18, c19, c20, c21, rfl⟩
theorem of12 {α : Type} {l : List α} (h : l.length = 12) : ∃ y0 y1 y2 y3 y4 y5 y6 y7 y8 y9 y10 y11, l = [y0, y1, y2, y3, y4, y5, y6, y7, y8, y9, y10, y11] := by
  match l, h with
  | [y0, y1, y2, y3, y4, y5, y6, y7, y8, y9, y10, y11], _ => exact ⟨y0, y1, y2, y3, y4, y5, y6, y7, y8, y9, y10, y11, rfl⟩
theorem msgFull {fuel : Nat} {cs : List Value} {x : DataW H × List MemPlace} (h : DataW.trod enc Try.prog w base spare held fuel 66 cs = some x) :
    ∃ (rt et sv dv : Value) (m : Msg.M), cs = (msgCells m rt et sv dv).toList ∧ Ints w rt m.reco.tags ∧ Ints w et m.ent.cut ∧ Ints w sv m.conf.seqs ∧ IRows w dv m.conf.shards := by
  obtain ⟨xs, n, _, rfl, hl, hlen, hf⟩ := DataW.trod_struct Try.underlying66 h
  have hc : Try.prog.cellsOf 66 = 22 := by kernel_rfl
  have hi : Try.prog.cellsOf 3 = 1 := by kernel_rfl
  have hb : Try.prog.cellsOf 4 = 1 := by kernel_rfl
  have hr : Try.prog.cellsOf 62 = 4 := by kernel_rfl
  have he : Try.prog.cellsOf 64 = 6 := by kernel_rfl
  have hg : Try.prog.cellsOf 25 = 3 := by kernel_rfl
  rw [hc] at hl
  obtain ⟨c0, c1, c2, c3, c4, c5, c6, c7, c8, c9, c10, c11, c12, c13, c14, c15, c16, c17, c18, c19, c20, c21, rfl⟩ := of22 hl
  obtain ⟨y0, y1, y2, y3, y4, y5, y6, y7, y8, y9, y10, y11, rfl⟩ := of12 hlen
  have f0 := hf 0 _ rfl
  have f1 := hf 1 _ rfl
  have f2 := hf 2 _ rfl
  have f3 := hf 3 _ rfl
  have f4 := hf 4 _ rfl
  have f5 := hf 5 _ rfl
  have f6 := hf 6 _ rfl
  have f7 := hf 7 _ rfl
  have f8 := hf 8 _ rfl
  have f9 := hf 9 _ rfl
  have f10 := hf 10 _ rfl
  have f11 := hf 11 _ rfl
  simp only [hi, hb, hr, he, hg, List.drop_zero, List.drop_succ_cons, List.take_succ_cons, List.take_zero, List.getElem?_cons_zero, List.getElem?_cons_succ] at f0 f1 f2 f3 f4 f5 f6 f7 f8 f9 f10 f11
  obtain ⟨n0, e0, _, _⟩ := DataW.trod_int Try.underlying3 f0
  obtain ⟨n1, e1, _, _⟩ := DataW.trod_int Try.underlying3 f1
  obtain ⟨n2, e2, _, _⟩ := DataW.trod_int Try.underlying3 f2
  obtain ⟨n3, e3, _, _⟩ := DataW.trod_int Try.underlying3 f3
  obtain ⟨n4, e4, _, _⟩ := DataW.trod_int Try.underlying3 f4
  obtain ⟨n5, e5, _, _⟩ := DataW.trod_int Try.underlying3 f5
  obtain ⟨n9, e9, _, _⟩ := DataW.trod_int Try.underlying3 f9
  obtain ⟨n10, e10, _, _⟩ := DataW.trod_int Try.underlying3 f10
  obtain ⟨n6, e6, _⟩ := DataW.trod_bool Try.underlying4 f6
  obtain ⟨rt, r, e7, ht⟩ := rec_of_raw f7
  obtain ⟨et, e, e8, hE⟩ := ent_of_raw f8
  obtain ⟨sv, dv, c, e11, h1, h2, _⟩ := confFull f11
  injection e0 with e0 _
  injection e1 with e1 _
  injection e2 with e2 _
  injection e3 with e3 _
  injection e4 with e4 _
  injection e5 with e5 _
  injection e6 with e6 _
  injection e9 with e9 _
  injection e10 with e10 _
  injection e7 with r0 e7
  injection e7 with r1 e7
  injection e7 with r2 e7
  injection e7 with r3 _
  injection e8 with t0 e8
  injection e8 with t1 e8
  injection e8 with t2 e8
  injection e8 with t3 e8
  injection e8 with t4 e8
  injection e8 with t5 _
  injection e11 with g0 e11
  injection e11 with g1 e11
  injection e11 with g2 _
  subst e0 e1 e2 e3 e4 e5 e6 e9 e10 r0 r1 r2 r3 t0 t1 t2 t3 t4 t5 g0 g1 g2
  exact ⟨_, _, _, _, ⟨n0, n1, n2, n3, n4, n5, n6, r, e, n9, n10, c⟩, rfl, ht, hE, h1, h2⟩
end
end Go.Proofs.Ytnoeconcpgdjlaa
