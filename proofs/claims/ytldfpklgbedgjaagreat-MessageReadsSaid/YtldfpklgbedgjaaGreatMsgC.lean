/-
 Merged: Layer 7, the program: may a message be.
-/
import Derived.Deep.MidRow
import Derived.Test.YtldfpklgbedgjaaGreatBrEnt
import Derived.Test.YtldfpklgbedgjaaGreatBrRec
import Derived.Test.YtldfpklgbedgjaaGreatBrTerm
import Derived.Test.YtldfpklgbedgjaaGreatBrVec
import Derived.Test.YtldfpklgbedgjaaGreatMsgB
namespace Go.Proofs.YtldfpklgbedgjaaGreat
set_option linter.unusedSimpArgs false
set_option linter.unusedVariables false
set_option maxRecDepth 100000
open Go.RowKit
theorem either_any (h f : Int) (r n : Bool) (b : Nat) (w : World) (hc : w.cell? ⟨b, 0, none⟩ = some (.int .i64 h)) :
 Calls Tryz.prog 31 #[.int .i64 f, .bool r, .bool n, .pointer (some ⟨b, 0, none⟩)] w fun e w' => e = .returned (.bool (eith h f r n)) ∧ Ext w w' := by
 unfold eith hasBit
 cases hb : (bits .and .i64 h f != 0) with
 | true =>
  go_enter Tryz.func31, Tryz.ntmps31
  go_wp2_with fail
  go_ret
  exact ⟨rfl, Ext.refl _⟩
 | false =>
  go_enter Tryz.func31, Tryz.ntmps31
  go_wp2_with fail
  go_ret
  exact ⟨rfl, Ext.refl _⟩
theorem isBetween7_ext (n a b : Int) (w : World) : Calls Tryz.prog 28 #[.int .i64 n, .int .i64 a, .int .i64 b] w fun e w' => e = .returned (.bool (decide (a ≤ n ∧ n ≤ b))) ∧ Ext w w' :=
 (isBetween7_any n a b w).mono fun _ _ h => ⟨h.1, h.2 ▸ Ext.refl _⟩
theorem isRec0 (w : World) : IsRec w (.agg #[.int .i64 0, .int .i64 0, .slice none 0 0, .string ⟨#[]⟩]) Msg.rec0 := ⟨_, rfl, ints0 w⟩
theorem isEnt0 (w : World) : IsEnt w (.agg #[.int .i64 0, .int .i64 0, .slice none 0 0, .int .i64 0, .int .i64 0, .int .i64 0]) Msg.ent0 := ⟨_, rfl, ints0 w⟩
theorem isConf0 (w : World) : IsConf w (.agg #[.int .i64 0, .slice none 0 0, .slice none 0 0]) Msg.conf0 := ⟨_, _, rfl, ints0 w, irows0 w⟩
theorem ldBool {w : World} {q i : Nat} {b : Bool} (h : w.cell? ⟨q, i, none⟩ = some (.bool b)) : (Instr.loadAt 4 (.pointer (some ⟨q, i, none⟩))).run Tryz.prog w = .ok (.bool b) w := by simp [go_sem, h]
theorem ldRec7 {w : World} {b o : Nat} {c n : Int} {u : Value} {s : ByteArray} (h : ∃ a n c, u = .slice a n c) (p0 : w.cell? ⟨b, o, none⟩ = some (.int .i64 c)) (p1 : w.cell? ⟨b, o + 1, none⟩ = some (.int .i64 n)) (p2 : w.cell? ⟨b, o + 2, none⟩ = some u) (p3 : w.cell? ⟨b, o + 3, none⟩ = some (.string s)) :
 (Instr.loadAt 26 (.pointer (some ⟨b, o, none⟩))).run Tryz.prog w = .ok (.agg #[.int .i64 c, .int .i64 n, u, .string s]) w := by
 obtain ⟨a, x, c, rfl⟩ := h
 simp [go_sem, p0, p1, p2, p3]
theorem ldEnt7 (T : TypeId) (hT : T = 42 ∨ T = 30) {w : World} {b o : Nat} {n k t m p : Int} {u : Value} (h : ∃ a n c, u = .slice a n c) (p0 : w.cell? ⟨b, o, none⟩ = some (.int .i64 n)) (p1 : w.cell? ⟨b, o + 1, none⟩ = some (.int .i64 k)) (p2 : w.cell? ⟨b, o + 2, none⟩ = some u) (p3 : w.cell? ⟨b, o + 3, none⟩ = some (.int .i64 t)) (p4 : w.cell? ⟨b, o + 4, none⟩ = some (.int .i64 m)) (p5 : w.cell? ⟨b, o + 5, none⟩ = some (.int .i64 p)) :
 (Instr.loadAt T (.pointer (some ⟨b, o, none⟩))).run Tryz.prog w = .ok (.agg #[.int .i64 n, .int .i64 k, u, .int .i64 t, .int .i64 m, .int .i64 p]) w := by
 obtain ⟨a, x, c, rfl⟩ := h
 rcases hT with rfl | rfl
 · simp [go_sem, p0, p1, p2, p3, p4, p5]
 · simp [go_sem, p0, p1, p2, p3, p4, p5]
theorem ldConf7 (T : TypeId) (hT : T = 43 ∨ T = 33) {w : World} {b o : Nat} {n : Int} {u d : Value} (h : ∃ a n c, u = .slice a n c) (h2 : ∃ a n c, d = .slice a n c) (p0 : w.cell? ⟨b, o, none⟩ = some (.int .i64 n)) (p1 : w.cell? ⟨b, o + 1, none⟩ = some u) (p2 : w.cell? ⟨b, o + 2, none⟩ = some d) :
 (Instr.loadAt T (.pointer (some ⟨b, o, none⟩))).run Tryz.prog w = .ok (.agg #[.int .i64 n, u, d]) w := by
 obtain ⟨a, x, c, rfl⟩ := h
 obtain ⟨a2, x2, c2, rfl⟩ := h2
 rcases hT with rfl | rfl
 · simp [go_sem, p0, p1, p2]
 · simp [go_sem, p0, p1, p2]
structure Msg7 (T : TypeId) (w : World) (p : Nat) (m : Msg.M) (rt et sv dv : Value) : Prop where
 at_ : MsgAt T w p m rt et sv dv
 hr : Ints w rt m.reco.tags
 he : Ints w et m.ent.cut
 hs : Ints w sv m.conf.seqs
 hd : IRows w dv m.conf.shards
theorem Msg7.ext {T : TypeId} {w w' : World} {p : Nat} {m : Msg.M} {rt et sv dv : Value} (h : Msg7 T w p m rt et sv dv) (hE : Ext w w') : Msg7 T w' p m rt et sv dv :=
 ⟨h.at_.ext hE, h.hr.below hE, h.he.below hE, h.hs.below hE, h.hd.below hE⟩
def IsSl (v : Value) : Prop := ∃ a n c, v = .slice a n c
theorem intsSlice {w : World} {v : Value} {l : List Int} (h : Ints w v l) : ∃ a n c, v = .slice a n c := by
 obtain ⟨a, c, rfl, _⟩ := h.open
 exact ⟨_, _, _, rfl⟩
theorem irowsSlice {w : World} {v : Value} {l : List (List Int)} (h : IRows w v l) : ∃ a n c, v = .slice a n c := by
 obtain ⟨a, c, rfl, _⟩ := h.open
 exact ⟨_, _, _, rfl⟩
theorem Msg7.ldRec {T : TypeId} {w : World} {p : Nat} {m : Msg.M} {rt et sv dv : Value} (h : Msg7 T w p m rt et sv dv) : (Instr.loadAt 26 (.pointer (some ⟨p, 7, none⟩))).run Tryz.prog w = .ok (.agg #[.int .i64 m.reco.client, .int .i64 m.reco.number, rt, .string ⟨m.reco.data.toArray⟩]) w :=
 ldRec7 (intsSlice h.hr) h.at_.reco.1 h.at_.reco.2.1 h.at_.reco.2.2.1 h.at_.reco.2.2.2
theorem Msg7.ldEnt {T : TypeId} {w : World} {p : Nat} {m : Msg.M} {rt et sv dv : Value} (h : Msg7 T w p m rt et sv dv) (t : TypeId) (ht : t = 42 ∨ t = 30) : (Instr.loadAt t (.pointer (some ⟨p, 11, none⟩))).run Tryz.prog w = .ok (.agg #[.int .i64 m.ent.number, .int .i64 m.ent.kind, et, .int .i64 m.ent.tag, .int .i64 m.ent.term, .int .i64 m.ent.pos]) w :=
 ldEnt7 t ht (intsSlice h.he) h.at_.ent.1 h.at_.ent.2.1 h.at_.ent.2.2.1 h.at_.ent.2.2.2.1 h.at_.ent.2.2.2.2.1 h.at_.ent.2.2.2.2.2
theorem Msg7.ldConf {T : TypeId} {w : World} {p : Nat} {m : Msg.M} {rt et sv dv : Value} (h : Msg7 T w p m rt et sv dv) (t : TypeId) (ht : t = 43 ∨ t = 33) : (Instr.loadAt t (.pointer (some ⟨p, 19, none⟩))).run Tryz.prog w = .ok (.agg #[.int .i64 m.conf.term, sv, dv]) w :=
 ldConf7 t ht (intsSlice h.hs) (irowsSlice h.hd) h.at_.conf.1 h.at_.conf.2.1 h.at_.conf.2.2
theorem Msg7.isRec {T : TypeId} {w : World} {p : Nat} {m : Msg.M} {rt et sv dv : Value} (h : Msg7 T w p m rt et sv dv) : IsRec w (.agg #[.int .i64 m.reco.client, .int .i64 m.reco.number, rt, .string ⟨m.reco.data.toArray⟩]) m.reco := (IsMsg.parts (m := m) h.hr h.he h.hs h.hd).1
theorem Msg7.isEnt {T : TypeId} {w : World} {p : Nat} {m : Msg.M} {rt et sv dv : Value} (h : Msg7 T w p m rt et sv dv) : IsEnt w (.agg #[.int .i64 m.ent.number, .int .i64 m.ent.kind, et, .int .i64 m.ent.tag, .int .i64 m.ent.term, .int .i64 m.ent.pos]) m.ent := (IsMsg.parts (m := m) h.hr h.he h.hs h.hd).2.1
theorem Msg7.isConf {T : TypeId} {w : World} {p : Nat} {m : Msg.M} {rt et sv dv : Value} (h : Msg7 T w p m rt et sv dv) : IsConf w (.agg #[.int .i64 m.conf.term, sv, dv]) m.conf := (IsMsg.parts (m := m) h.hr h.he h.hs h.hd).2.2
theorem Msg7.isMsg {T : TypeId} {w : World} {p : Nat} {m : Msg.M} {rt et sv dv : Value} (h : Msg7 T w p m rt et sv dv) : IsMsg w (.agg (msgCells m rt et sv dv)) m := ⟨rt, et, sv, dv, rfl, h.hr, h.he, h.hs, h.hd⟩
theorem Msg7.range {T : TypeId} {w : World} {p : Nat} {m : Msg.M} {rt et sv dv : Value} (h : Msg7 T w p m rt et sv dv) : w.rangeAt p 0 (msgCells m rt et sv dv).toList := by
 have := World.rangeAt_of_block h.at_ 0 (msgCells m rt et sv dv).size
 rwa [Nat.zero_add, Array.extract_size] at this
theorem Msg7.ld {T : TypeId} {w : World} {p : Nat} {m : Msg.M} {rt et sv dv : Value} (h : Msg7 T w p m rt et sv dv) : (Instr.loadAt 45 (.pointer (some ⟨p, 0, none⟩))).run Tryz.prog w = .ok (.agg (msgCells m rt et sv dv)) w :=
 run_loadAt_mid w p 0 45 (msgCells m rt et sv dv).toList _ h.range Tryz.underlying45 rfl (by kernel_rfl)
theorem Msg7.ldR {T : TypeId} {w : World} {p : Nat} {m : Msg.M} {rt et sv dv : Value} (h : Msg7 T w p m rt et sv dv) : (Instr.loadAt 35 (.pointer (some ⟨p, 0, none⟩))).run Tryz.prog w = .ok (.agg (msgCells m rt et sv dv)) w :=
 run_loadAt_mid w p 0 35 (msgCells m rt et sv dv).toList _ h.range Tryz.underlying35 rfl (by kernel_rfl)
theorem box_msgR (w : World) (m : Msg.M) (rt et sv dv : Value) : (Instr.box 35 (.agg (msgCells m rt et sv dv))).run Tryz.prog w = .ok (.pointer (some ⟨w.heap.size, 0, none⟩)) (w.alloc (.cells (msgCells m rt et sv dv) 35)) := by kernel_rfl
theorem Msg7.new {w : World} {m : Msg.M} {rt et sv dv : Value} (T : TypeId) (h1 : Ints w rt m.reco.tags) (h2 : Ints w et m.ent.cut) (h3 : Ints w sv m.conf.seqs) (h4 : IRows w dv m.conf.shards) : Msg7 T (w.alloc (.cells (msgCells m rt et sv dv) T)) w.heap.size m rt et sv dv :=
 have hE := Ext.alloc w (.cells (msgCells m rt et sv dv) T)
 ⟨MsgAt.new _ w m rt et sv dv, h1.below hE, h2.below hE, h3.below hE, h4.below hE⟩
theorem IsMsg.opened {w : World} {v : Value} {m : Msg.M} (h : IsMsg w v m) : ∃ a0 n0 c0 a1 n1 c1 a2 n2 c2 a3 n3 c3, v = .agg (msgCells m (.slice a0 n0 c0) (.slice a1 n1 c1) (.slice a2 n2 c2) (.slice a3 n3 c3)) ∧ Ints w (.slice a0 n0 c0) m.reco.tags ∧ Ints w (.slice a1 n1 c1) m.ent.cut ∧ Ints w (.slice a2 n2 c2) m.conf.seqs ∧ IRows w (.slice a3 n3 c3) m.conf.shards := by
 obtain ⟨rt, et, sv, dv, rfl, h1, h2, h3, h4⟩ := h
 obtain ⟨a0, n0, c0, rfl⟩ := intsSlice h1
 obtain ⟨a1, n1, c1, rfl⟩ := intsSlice h2
 obtain ⟨a2, n2, c2, rfl⟩ := intsSlice h3
 obtain ⟨a3, n3, c3, rfl⟩ := irowsSlice h4
 exact ⟨_, _, _, _, _, _, _, _, _, _, _, _, rfl, h1, h2, h3, h4⟩
theorem Yield.callf {P : Program} {o : Oper} {ev : Operand → Value} {w : World} {R : Value → World → Prop} {F : FuncId} {x : Operand} {caps : Array Value} {xs : Array Operand} {ats : Array TypeId} {fn : Func} {c : Code} (ho : o.op = .call { callee := .value x, args := xs, argTypes := ats }) (hx : ev x = .func (.func F) #[] caps) (hf : P.funcs[F]? = some fn) (hb : fn.body = some c)
 (hn : (fn.name == "runtime.NumGoroutine") = false) (h : Calls P F (xs.map ev ++ caps) w (fun e w' => ∃ v, e = .returned v ∧ R v w')) : Yield P o ev w R := by
 unfold Yield execOp
 have hr : (do let d ← resolve ev { callee := .value x, args := xs, argTypes := ats } o.type; invoke d.target d.args).run P w = .ok (.enter F (xs.map ev ++ caps)) w := by
  have hn' : ¬ fn.name = "runtime.NumGoroutine" := by simpa using hn
  simp [resolve, hx, Deferred.ofValue, invoke, callFunc, hf, hn', hb]
 simp only [ho]
 rw [hr]
 exact h.mono fun e w' he => by obtain ⟨v, rfl, hv⟩ := he; exact hv
theorem MsgAt.range {T : TypeId} {w : World} {p : Nat} {m : Msg.M} {rt et sv dv : Value} (h : MsgAt T w p m rt et sv dv) : w.rangeAt p 0 (msgCells m rt et sv dv).toList := by
 have := World.rangeAt_of_block h 0 (msgCells m rt et sv dv).size
 rwa [Nat.zero_add, Array.extract_size] at this
theorem ldA {ops : Array Oper} {rest : List Oper} {op : Oper} {a : Act} {w : World} {Q : Exit → Act → World → Prop} {T : TypeId} {p : Nat} {m : Msg.M} {rt et sv dv : Value} (hw : Region.wanted op (yielded ops a.tmps) = true) (x : Operand) (ho : op.op = .load 45 x)
 (hx : a.eval x = .pointer (some ⟨p, 0, none⟩)) (h : MsgAt T w p m rt et sv dv) (hk : wpList Tryz.prog ops Q rest (a.put op.dst (.agg (msgCells m rt et sv dv))) w) : wpList Tryz.prog ops Q (op :: rest) a w :=
 BigFrame.wpList_want hw fun K hK => wp_load_mid 45 x ho p 0 hx (msgCells m rt et sv dv).toList _ h.range Tryz.underlying45 rfl (by kernel_rfl) (hK _ _ hk)
theorem ldM {ops : Array Oper} {rest : List Oper} {op : Oper} {a : Act} {w : World} {Q : Exit → Act → World → Prop} {T : TypeId} {p : Nat} {m : Msg.M} {rt et sv dv : Value} (hw : Region.wanted op (yielded ops a.tmps) = true) (x : Operand) (ho : op.op = .load 45 x)
 (hx : a.eval x = .pointer (some ⟨p, 0, none⟩)) (h : Msg7 T w p m rt et sv dv) (hk : wpList Tryz.prog ops Q rest (a.put op.dst (.agg (msgCells m rt et sv dv))) w) : wpList Tryz.prog ops Q (op :: rest) a w :=
 BigFrame.wpList_want hw fun K hK => wp_load_mid 45 x ho p 0 hx (msgCells m rt et sv dv).toList _ h.range Tryz.underlying45 rfl (by kernel_rfl) (hK _ _ hk)
theorem ldMR {ops : Array Oper} {rest : List Oper} {op : Oper} {a : Act} {w : World} {Q : Exit → Act → World → Prop} {T : TypeId} {p : Nat} {m : Msg.M} {rt et sv dv : Value} (hw : Region.wanted op (yielded ops a.tmps) = true) (x : Operand) (ho : op.op = .load 35 x)
 (hx : a.eval x = .pointer (some ⟨p, 0, none⟩)) (h : Msg7 T w p m rt et sv dv) (hk : wpList Tryz.prog ops Q rest (a.put op.dst (.agg (msgCells m rt et sv dv))) w) : wpList Tryz.prog ops Q (op :: rest) a w :=
 BigFrame.wpList_want hw fun K hK => wp_load_mid 35 x ho p 0 hx (msgCells m rt et sv dv).toList _ h.range Tryz.underlying35 rfl (by kernel_rfl) (hK _ _ hk)
end Go.Proofs.YtldfpklgbedgjaaGreat
