/-
 Merged: Layer 7, the program: the fields behind the head, read one behind the other.
-/
import Derived.Lib.ConvBytes
import Derived.Test.YtldfpklgbedgjaaGreatBrLib
import Derived.Test.YtldfpklgbedgjaaGreatBrPack
import Derived.Test.YtldfpklgbedgjaaGreatBrRest
import Derived.Test.YtldfpklgbedgjaaGreatMsgC
namespace Go.Proofs.YtldfpklgbedgjaaGreat
set_option linter.unusedSimpArgs false
set_option linter.unusedVariables false
set_option maxRecDepth 100000
open Go.RowKit
def BO (w : World) (v : Value) (l : List UInt8) : Prop := Bytes w v l ∧ ∃ k n c cs fr, v = .slice (some ⟨k, 0, none⟩) n c ∧ w.heap[k]? = some (.cells cs 5 fr)
theorem BO.same {w w' : World} {v : Value} {l : List UInt8} (h : BO w v l) (hs : ∀ (k : Nat) (cs : Array Value) (fr : Nat × Nat), w.heap[k]? = some (Obj.cells cs 5 fr) → w'.heap[k]? = w.heap[k]?) : BO w' v l := by
 obtain ⟨h1, k, n, c, cs, fr, rfl, h2⟩ := h
 have e := hs k cs fr h2
 refine ⟨?_, k, n, c, cs, fr, rfl, e.trans h2⟩
 obtain ⟨a, cap, hv, q1, q2, q3, q4⟩ := h1
 refine ⟨a, cap, hv, q1, q2, q3, fun i hi => ?_⟩
 obtain ⟨b, off, ha, hc⟩ := q4 i hi
 refine ⟨b, off, ha, ?_⟩
 injection hv with hv1 _ _
 rw [ha] at hv1
 injection hv1 with hv1
 injection hv1 with hb ho
 subst hb
 rw [← hc]
 simp only [World.cell?, e]
theorem BO.conv (w : World) (l : List UInt8) (hl : l.length ≤ maxLen) : BO (Lib.bytesWorld w 5 ⟨l.toArray⟩) (.slice (some ⟨w.heap.size, 0, none⟩) l.length (grownCap w l.length 0 5)) l :=
 ⟨bytesOfConv w l _ hl, _, _, _, _, _, rfl, Lib.bytesWorld_at_new _ _ _⟩
structure Keeps (w w' : World) : Prop where
 i : ∀ v l, RowI w v l → RowI w' v l
 r : ∀ v l, RowRR w v l → RowRR w' v l
 b : ∀ v l, BO w v l → BO w' v l
theorem Keeps.trans {a b c : World} (h : Keeps a b) (k : Keeps b c) : Keeps a c := ⟨fun v l x => k.i v l (h.i v l x), fun v l x => k.r v l (h.r v l x), fun v l x => k.b v l (h.b v l x)⟩
theorem Keeps.ofExt {a b : World} (h : Ext a b) : Keeps a b := ⟨fun _ _ x => x.ext h, fun _ _ x => x.ext h, fun _ _ x => x.same fun k _ _ hk => h.block k (Array.getElem?_eq_some_iff.1 hk).1⟩
theorem Keeps.ofBut {w w' : World} {p : Nat} {cs : Array Value} {t : TypeId} {fr : Nat × Nat} (hp : w.heap[p]? = some (.cells cs t fr)) (ht : t ≠ 3) (ht2 : t ≠ 24) (ht3 : t ≠ 5) (hB : But p w w') : Keeps w w' :=
 ⟨fun _ _ x => x.but hp ht hB, fun _ _ x => x.but hp ht ht2 hB, fun _ _ x => x.same fun k _ _ hk => hB.block k (Array.getElem?_eq_some_iff.1 hk).1 (fun e => by subst e; rw [hp] at hk; simp at hk; exact ht3 hk.2.1)⟩
structure St7 where
 m : Msg.M
 err : Int
 s : Pack.St
structure DFr (w0 : World) (p M R MB E TX : Nat) (x : St7) (rt et sv dv : Value) (w : World) : Prop where
 rd : RD w p x.s
 at_ : MsgAt 45 w M x.m rt et sv dv
 hr : RowI w rt x.m.reco.tags
 he : RowI w et x.m.ent.cut
 hs : RowI w sv x.m.conf.seqs
 hd : RowRR w dv x.m.conf.shards
 cR : w.heap[R]? = some (.cells #[.pointer (some ⟨p, 0, none⟩)] 81 (0, 0))
 cM : w.heap[MB]? = some (.cells #[.pointer (some ⟨M, 0, none⟩)] 85 (0, 0))
 cE : w.heap[E]? = some (.cells #[.int .i64 x.err] 39 (0, 0))
 cT : w.heap[TX]? = some (.cells #[.func (.func 93) #[] #[.pointer (some ⟨R, 0, none⟩)]] 144 (0, 0))
 low : Below w0.heap.size w0 w
 hp : w0.heap.size ≤ p
 o1 : p < M
 o2 : M < R
 o3 : R < MB
 o4 : MB < E
 o5 : E < TX
def DF (w0 : World) (p M R MB E TX : Nat) (x : St7) (w : World) : Prop := ∃ rt et sv dv, DFr w0 p M R MB E TX x rt et sv dv w
section
variable {w0 w w' : World} {p M R MB E TX : Nat} {x : St7} {rt et sv dv : Value}
theorem DFr.lt (h : DFr w0 p M R MB E TX x rt et sv dv w) : TX < w.heap.size := (Array.getElem?_eq_some_iff.1 h.cT).1
theorem DFr.ext (h : DFr w0 p M R MB E TX x rt et sv dv w) (hE : Ext w w') : DFr w0 p M R MB E TX x rt et sv dv w' := by
 have hl := h.lt
 obtain ⟨h1, h2, h3, h4, h5, h6, h7, h8, h9, h10, h11, h12, o1, o2, o3, o4, o5⟩ := h
 exact ⟨h1.ext hE, h2.ext hE, h3.ext hE, h4.ext hE, h5.ext hE, h6.ext hE, (hE.block R (by omega)).trans h7, (hE.block MB (by omega)).trans h8, (hE.block E (by omega)).trans h9, (hE.block TX (by omega)).trans h10, h11.trans (Below.mono hE (by omega)), h12, o1, o2, o3, o4, o5⟩
theorem DFr.turn (h : DFr w0 p M R MB E TX x rt et sv dv w) {s : Pack.St} (hB : But p w w') (hr : RD w' p s) : DFr w0 p M R MB E TX ⟨x.m, x.err, s⟩ rt et sv dv w' := by
 have hl := h.lt
 obtain ⟨h1, h2, h3, h4, h5, h6, h7, h8, h9, h10, h11, h12, o1, o2, o3, o4, o5⟩ := h
 obtain ⟨a, n, c, hh⟩ := h1.heapOf
 have K := Keeps.ofBut hh (by decide) (by decide) (by decide) hB
 exact ⟨hr, h2.but hB (by omega), K.i _ _ h3, K.i _ _ h4, K.i _ _ h5, K.r _ _ h6, (hB.block R (by omega) (by omega)).trans h7, (hB.block MB (by omega) (by omega)).trans h8, (hB.block E (by omega) (by omega)).trans h9, (hB.block TX (by omega) (by omega)).trans h10, h11.trans (hB.below h12 (by omega)), h12, o1, o2, o3, o4, o5⟩
theorem DFr.keepsTurn (h : DFr w0 p M R MB E TX x rt et sv dv w) (hB : But p w w') : Keeps w w' := by
 obtain ⟨a, n, c, hh⟩ := h.rd.heapOf
 exact Keeps.ofBut hh (by decide) (by decide) (by decide) hB
theorem DFr.keepsM (h : DFr w0 p M R MB E TX x rt et sv dv w) (hB : But M w w') : Keeps w w' := Keeps.ofBut h.at_ (by decide) (by decide) (by decide) hB
theorem DFr.keepsE (h : DFr w0 p M R MB E TX x rt et sv dv w) (hB : But E w w') : Keeps w w' := Keeps.ofBut h.cE (by decide) (by decide) (by decide) hB
theorem DFr.put (h : DFr w0 p M R MB E TX x rt et sv dv w) {m : Msg.M} {rt2 et2 sv2 dv2 : Value} (hB : But M w w') (ha : MsgAt 45 w' M m rt2 et2 sv2 dv2) (k3 : RowI w rt2 m.reco.tags) (k4 : RowI w et2 m.ent.cut) (k5 : RowI w sv2 m.conf.seqs) (k6 : RowRR w dv2 m.conf.shards) : DFr w0 p M R MB E TX ⟨m, x.err, x.s⟩ rt2 et2 sv2 dv2 w' := by
 have hl := h.lt
 have K := h.keepsM hB
 obtain ⟨h1, h2, h3, h4, h5, h6, h7, h8, h9, h10, h11, h12, o1, o2, o3, o4, o5⟩ := h
 exact ⟨h1.keep (fun k hk => hB.block k (by omega) (by omega)), ha, K.i _ _ k3, K.i _ _ k4, K.i _ _ k5, K.r _ _ k6, (hB.block R (by omega) (by omega)).trans h7, (hB.block MB (by omega) (by omega)).trans h8, (hB.block E (by omega) (by omega)).trans h9, (hB.block TX (by omega) (by omega)).trans h10, h11.trans (hB.below (by omega) (by omega)), h12, o1, o2, o3, o4, o5⟩
theorem DFr.errs (h : DFr w0 p M R MB E TX x rt et sv dv w) (e : Int) : DFr w0 p M R MB E TX ⟨x.m, e, x.s⟩ rt et sv dv (w.setCell ⟨E, 0, none⟩ (.int .i64 e)) := by
 have hl := h.lt
 have hB := butSet w E 0 (.int .i64 e)
 have K := h.keepsE hB
 obtain ⟨h1, h2, h3, h4, h5, h6, h7, h8, h9, h10, h11, h12, o1, o2, o3, o4, o5⟩ := h
 exact ⟨h1.keep (fun k hk => hB.block k (by omega) (by omega)), h2.but hB (by omega), K.i _ _ h3, K.i _ _ h4, K.i _ _ h5, K.r _ _ h6, (hB.block R (by omega) (by omega)).trans h7, (hB.block MB (by omega) (by omega)).trans h8, heap_setCell h9 0 _, (hB.block TX (by omega) (by omega)).trans h10, h11.trans (hB.below (by omega) (by omega)), h12, o1, o2, o3, o4, o5⟩
theorem DF.ext (h : DF w0 p M R MB E TX x w) (hE : Ext w w') : DF w0 p M R MB E TX x w' := by
 obtain ⟨rt, et, sv, dv, h⟩ := h
 exact ⟨rt, et, sv, dv, h.ext hE⟩
theorem DF.ldR (h : DF w0 p M R MB E TX x w) : (Instr.loadAt 81 (.pointer (some ⟨R, 0, none⟩))).run Tryz.prog w = .ok (.pointer (some ⟨p, 0, none⟩)) w := by
 obtain ⟨rt, et, sv, dv, h⟩ := h
 have := cell_of_heap h.cR 0
 simp at this
 simp [go_sem, this]
theorem DF.ldM (h : DF w0 p M R MB E TX x w) : (Instr.loadAt 85 (.pointer (some ⟨MB, 0, none⟩))).run Tryz.prog w = .ok (.pointer (some ⟨M, 0, none⟩)) w := by
 obtain ⟨rt, et, sv, dv, h⟩ := h
 have := cell_of_heap h.cM 0
 simp at this
 simp [go_sem, this]
theorem DF.ldT (h : DF w0 p M R MB E TX x w) : (Instr.loadAt 144 (.pointer (some ⟨TX, 0, none⟩))).run Tryz.prog w = .ok (.func (.func 93) #[] #[.pointer (some ⟨R, 0, none⟩)]) w := by
 obtain ⟨rt, et, sv, dv, h⟩ := h
 have := cell_of_heap h.cT 0
 simp at this
 simp [go_sem, this]
theorem DF.rd (h : DF w0 p M R MB E TX x w) : RD w p x.s := by
 obtain ⟨rt, et, sv, dv, h⟩ := h
 exact h.rd
theorem DF.turn (h : DF w0 p M R MB E TX x w) {s : Pack.St} (hB : But p w w') (hr : RD w' p s) : DF w0 p M R MB E TX ⟨x.m, x.err, s⟩ w' ∧ Keeps w w' := by
 obtain ⟨rt, et, sv, dv, h⟩ := h
 exact ⟨⟨rt, et, sv, dv, h.turn hB hr⟩, h.keepsTurn hB⟩
theorem DF.mbP (h : DF w0 p M R MB E TX x w) (hB : But p w w') : w'.heap[MB]? = w.heap[MB]? := by
 obtain ⟨rt, et, sv, dv, h⟩ := h
 have := h.lt
 obtain ⟨h1, h2, h3, h4, h5, h6, h7, h8, h9, h10, h11, h12, o1, o2, o3, o4, o5⟩ := h
 exact hB.block MB (by omega) (by omega)
theorem DF.mbE (h : DF w0 p M R MB E TX x w) (hB : Ext w w') : w'.heap[MB]? = w.heap[MB]? := by
 obtain ⟨rt, et, sv, dv, h⟩ := h
 have := h.lt
 obtain ⟨h1, h2, h3, h4, h5, h6, h7, h8, h9, h10, h11, h12, o1, o2, o3, o4, o5⟩ := h
 exact hB.block MB (by omega)
theorem DF.mbM (h : DF w0 p M R MB E TX x w) (hB : But M w w') : w'.heap[MB]? = w.heap[MB]? := by
 obtain ⟨rt, et, sv, dv, h⟩ := h
 have := h.lt
 obtain ⟨h1, h2, h3, h4, h5, h6, h7, h8, h9, h10, h11, h12, o1, o2, o3, o4, o5⟩ := h
 exact hB.block MB (by omega) (by omega)
theorem DF.mbS (h : DF w0 p M R MB E TX x w) (hB : But E w w') : w'.heap[MB]? = w.heap[MB]? := by
 obtain ⟨rt, et, sv, dv, h⟩ := h
 have := h.lt
 obtain ⟨h1, h2, h3, h4, h5, h6, h7, h8, h9, h10, h11, h12, o1, o2, o3, o4, o5⟩ := h
 exact hB.block MB (by omega) (by omega)
theorem DF.ldM' (h : DF w0 p M R MB E TX x w) (he : w'.heap[MB]? = w.heap[MB]?) : (Instr.loadAt 85 (.pointer (some ⟨MB, 0, none⟩))).run Tryz.prog w' = .ok (.pointer (some ⟨M, 0, none⟩)) w' := by
 obtain ⟨rt, et, sv, dv, h⟩ := h
 have := cell_of_heap (he.trans h.cM) 0
 simp at this
 simp [go_sem, this]
theorem DF.errs (h : DF w0 p M R MB E TX x w) (e : Int) : DF w0 p M R MB E TX ⟨x.m, e, x.s⟩ (w.setCell ⟨E, 0, none⟩ (.int .i64 e)) ∧ Keeps w (w.setCell ⟨E, 0, none⟩ (.int .i64 e)) := by
 obtain ⟨rt, et, sv, dv, h⟩ := h
 exact ⟨⟨rt, et, sv, dv, h.errs e⟩, h.keepsE (butSet w E 0 _)⟩
theorem DF.stE (h : DF w0 p M R MB E TX x w) (e : Int) : (Instr.storeAt 39 (.pointer (some ⟨E, 0, none⟩)) (.int .i64 e)).run Tryz.prog w = .ok () (w.setCell ⟨E, 0, none⟩ (.int .i64 e)) := by
 obtain ⟨rt, et, sv, dv, h⟩ := h
 have c := cell_of_heap h.cE 0
 have f := frozen_of_heap h.cE 0
 simp at c
 simp [go_sem, c, f]
theorem DF.st_shard (h : DF w0 p M R MB E TX x w) (n : Int) : (Instr.storeAt 3 (.pointer (some ⟨M, 4, none⟩)) (.int .i64 n)).run Tryz.prog w = .ok () (w.setCell ⟨M, 4, none⟩ (.int .i64 n)) ∧ DF w0 p M R MB E TX ⟨{ x.m with shard := n }, x.err, x.s⟩ (w.setCell ⟨M, 4, none⟩ (.int .i64 n)) ∧ Keeps w (w.setCell ⟨M, 4, none⟩ (.int .i64 n)) ∧ But M w (w.setCell ⟨M, 4, none⟩ (.int .i64 n)) := by
 obtain ⟨rt, et, sv, dv, h⟩ := h
 have c := cell_of_heap h.at_ 4
 have f := frozen_of_heap h.at_ 4
 have hB := butSet w M 4 (.int .i64 n)
 refine ⟨by simp [msgCells] at c; simp [go_sem, c, f], ⟨rt, et, sv, dv, h.put hB ?_ h.hr h.he h.hs h.hd⟩, h.keepsM hB, hB⟩
 have := heap_setCell h.at_ 4 (.int .i64 n)
 exact this
theorem DF.st_number (h : DF w0 p M R MB E TX x w) (n : Int) : (Instr.storeAt 3 (.pointer (some ⟨M, 5, none⟩)) (.int .i64 n)).run Tryz.prog w = .ok () (w.setCell ⟨M, 5, none⟩ (.int .i64 n)) ∧ DF w0 p M R MB E TX ⟨{ x.m with number := n }, x.err, x.s⟩ (w.setCell ⟨M, 5, none⟩ (.int .i64 n)) ∧ Keeps w (w.setCell ⟨M, 5, none⟩ (.int .i64 n)) ∧ But M w (w.setCell ⟨M, 5, none⟩ (.int .i64 n)) := by
 obtain ⟨rt, et, sv, dv, h⟩ := h
 have c := cell_of_heap h.at_ 5
 have f := frozen_of_heap h.at_ 5
 have hB := butSet w M 5 (.int .i64 n)
 refine ⟨by simp [msgCells] at c; simp [go_sem, c, f], ⟨rt, et, sv, dv, h.put hB ?_ h.hr h.he h.hs h.hd⟩, h.keepsM hB, hB⟩
 have := heap_setCell h.at_ 5 (.int .i64 n)
 exact this
theorem DF.st_ballot (h : DF w0 p M R MB E TX x w) (n : Int) : (Instr.storeAt 3 (.pointer (some ⟨M, 17, none⟩)) (.int .i64 n)).run Tryz.prog w = .ok () (w.setCell ⟨M, 17, none⟩ (.int .i64 n)) ∧ DF w0 p M R MB E TX ⟨{ x.m with ballot := n }, x.err, x.s⟩ (w.setCell ⟨M, 17, none⟩ (.int .i64 n)) ∧ Keeps w (w.setCell ⟨M, 17, none⟩ (.int .i64 n)) ∧ But M w (w.setCell ⟨M, 17, none⟩ (.int .i64 n)) := by
 obtain ⟨rt, et, sv, dv, h⟩ := h
 have c := cell_of_heap h.at_ 17
 have f := frozen_of_heap h.at_ 17
 have hB := butSet w M 17 (.int .i64 n)
 refine ⟨by simp [msgCells] at c; simp [go_sem, c, f], ⟨rt, et, sv, dv, h.put hB ?_ h.hr h.he h.hs h.hd⟩, h.keepsM hB, hB⟩
 have := heap_setCell h.at_ 17 (.int .i64 n)
 exact this
theorem DF.st_old (h : DF w0 p M R MB E TX x w) (n : Int) : (Instr.storeAt 3 (.pointer (some ⟨M, 18, none⟩)) (.int .i64 n)).run Tryz.prog w = .ok () (w.setCell ⟨M, 18, none⟩ (.int .i64 n)) ∧ DF w0 p M R MB E TX ⟨{ x.m with old := n }, x.err, x.s⟩ (w.setCell ⟨M, 18, none⟩ (.int .i64 n)) ∧ Keeps w (w.setCell ⟨M, 18, none⟩ (.int .i64 n)) ∧ But M w (w.setCell ⟨M, 18, none⟩ (.int .i64 n)) := by
 obtain ⟨rt, et, sv, dv, h⟩ := h
 have c := cell_of_heap h.at_ 18
 have f := frozen_of_heap h.at_ 18
 have hB := butSet w M 18 (.int .i64 n)
 refine ⟨by simp [msgCells] at c; simp [go_sem, c, f], ⟨rt, et, sv, dv, h.put hB ?_ h.hr h.he h.hs h.hd⟩, h.keepsM hB, hB⟩
 have := heap_setCell h.at_ 18 (.int .i64 n)
 exact this
theorem DF.st_is (h : DF w0 p M R MB E TX x w) (n : Bool) : (Instr.storeAt 4 (.pointer (some ⟨M, 6, none⟩)) (.bool n)).run Tryz.prog w = .ok () (w.setCell ⟨M, 6, none⟩ (.bool n)) ∧ DF w0 p M R MB E TX ⟨{ x.m with is := n }, x.err, x.s⟩ (w.setCell ⟨M, 6, none⟩ (.bool n)) ∧ Keeps w (w.setCell ⟨M, 6, none⟩ (.bool n)) ∧ But M w (w.setCell ⟨M, 6, none⟩ (.bool n)) := by
 obtain ⟨rt, et, sv, dv, h⟩ := h
 have c := cell_of_heap h.at_ 6
 have f := frozen_of_heap h.at_ 6
 have hB := butSet w M 6 (.bool n)
 refine ⟨by simp [msgCells] at c; simp [go_sem, c, f], ⟨rt, et, sv, dv, h.put hB ?_ h.hr h.he h.hs h.hd⟩, h.keepsM hB, hB⟩
 have := heap_setCell h.at_ 6 (.bool n)
 exact this
theorem there7 {T : TypeId} {m : Msg.M} (h : MsgAt T w M m rt et sv dv) (o n : Nat) (hn : o + n ≤ 22) : w.there M o n := fun j hj => by
 refine ⟨?_, frozen_of_heap h _⟩
 rw [cell_of_heap h]
 have : o + j < (msgCells m rt et sv dv).size := by show _ < 22; omega
 rw [Array.getElem?_eq_getElem this]
 rfl
theorem DF.st_ent (h : DF w0 p M R MB E TX x w) (e : Ent.E) (t : Value) (hk : RowI w t e.cut) : (Instr.storeAt 42 (.pointer (some ⟨M, 11, none⟩)) (.agg ([.int .i64 e.number, .int .i64 e.kind, t, .int .i64 e.tag, .int .i64 e.term, .int .i64 e.pos] : List Value).toArray)).run Tryz.prog w = .ok () (w.setCells M 11 [.int .i64 e.number, .int .i64 e.kind, t, .int .i64 e.tag, .int .i64 e.term, .int .i64 e.pos]) ∧ DF w0 p M R MB E TX ⟨{ x.m with ent := e }, x.err, x.s⟩ (w.setCells M 11 [.int .i64 e.number, .int .i64 e.kind, t, .int .i64 e.tag, .int .i64 e.term, .int .i64 e.pos]) ∧ Keeps w (w.setCells M 11 [.int .i64 e.number, .int .i64 e.kind, t, .int .i64 e.tag, .int .i64 e.term, .int .i64 e.pos]) ∧ But M w (w.setCells M 11 [.int .i64 e.number, .int .i64 e.kind, t, .int .i64 e.tag, .int .i64 e.term, .int .i64 e.pos]) := by
 obtain ⟨rt, et, sv, dv, h⟩ := h
 have hB : But M w (w.setCells M 11 [.int .i64 e.number, .int .i64 e.kind, t, .int .i64 e.tag, .int .i64 e.term, .int .i64 e.pos]) := ((((((But.refl _ _).setCell 11 none _).setCell 12 none _).setCell 13 none _).setCell 14 none _).setCell 15 none _).setCell 16 none _
 refine ⟨?_, ⟨rt, t, sv, dv, h.put hB ?_ h.hr hk h.hs h.hd⟩, h.keepsM hB, hB⟩
 · obtain ⟨ta, tn, tc, rfl⟩ := intsSlice hk.ints
   exact run_storeAt_mid w M 11 42 _ (there7 h.at_ 11 6 (by omega)) (by kernel_rfl) (by simp [Value.oneCell'])
 · have := heap_setCell (heap_setCell (heap_setCell (heap_setCell (heap_setCell (heap_setCell (h.at_) 11 (.int .i64 e.number)) 12 (.int .i64 e.kind)) 13 (t)) 14 (.int .i64 e.tag)) 15 (.int .i64 e.term)) 16 (.int .i64 e.pos)
   exact this
theorem DF.st_reco (h : DF w0 p M R MB E TX x w) (e : Rec.R) (t : Value) (hk : RowI w t e.tags) : (Instr.storeAt 26 (.pointer (some ⟨M, 7, none⟩)) (.agg ([.int .i64 e.client, .int .i64 e.number, t, .string ⟨e.data.toArray⟩] : List Value).toArray)).run Tryz.prog w = .ok () (w.setCells M 7 [.int .i64 e.client, .int .i64 e.number, t, .string ⟨e.data.toArray⟩]) ∧ DF w0 p M R MB E TX ⟨{ x.m with reco := e }, x.err, x.s⟩ (w.setCells M 7 [.int .i64 e.client, .int .i64 e.number, t, .string ⟨e.data.toArray⟩]) ∧ Keeps w (w.setCells M 7 [.int .i64 e.client, .int .i64 e.number, t, .string ⟨e.data.toArray⟩]) ∧ But M w (w.setCells M 7 [.int .i64 e.client, .int .i64 e.number, t, .string ⟨e.data.toArray⟩]) := by
 obtain ⟨rt, et, sv, dv, h⟩ := h
 have hB : But M w (w.setCells M 7 [.int .i64 e.client, .int .i64 e.number, t, .string ⟨e.data.toArray⟩]) := ((((But.refl _ _).setCell 7 none _).setCell 8 none _).setCell 9 none _).setCell 10 none _
 refine ⟨?_, ⟨t, et, sv, dv, h.put hB ?_ hk h.he h.hs h.hd⟩, h.keepsM hB, hB⟩
 · obtain ⟨ta, tn, tc, rfl⟩ := intsSlice hk.ints
   exact run_storeAt_mid w M 7 26 _ (there7 h.at_ 7 4 (by omega)) (by kernel_rfl) (by simp [Value.oneCell'])
 · have := heap_setCell (heap_setCell (heap_setCell (heap_setCell (h.at_) 7 (.int .i64 e.client)) 8 (.int .i64 e.number)) 9 (t)) 10 (.string ⟨e.data.toArray⟩)
   exact this
theorem DF.st_conf (h : DF w0 p M R MB E TX x w) (e : Term.C) (t d : Value) (hk : RowI w t e.seqs) (hk2 : RowRR w d e.shards) : (Instr.storeAt 43 (.pointer (some ⟨M, 19, none⟩)) (.agg ([.int .i64 e.term, t, d] : List Value).toArray)).run Tryz.prog w = .ok () (w.setCells M 19 [.int .i64 e.term, t, d]) ∧ DF w0 p M R MB E TX ⟨{ x.m with conf := e }, x.err, x.s⟩ (w.setCells M 19 [.int .i64 e.term, t, d]) ∧ Keeps w (w.setCells M 19 [.int .i64 e.term, t, d]) ∧ But M w (w.setCells M 19 [.int .i64 e.term, t, d]) := by
 obtain ⟨rt, et, sv, dv, h⟩ := h
 have hB : But M w (w.setCells M 19 [.int .i64 e.term, t, d]) := (((But.refl _ _).setCell 19 none _).setCell 20 none _).setCell 21 none _
 refine ⟨?_, ⟨rt, et, t, d, h.put hB ?_ h.hr h.he hk hk2⟩, h.keepsM hB, hB⟩
 · obtain ⟨ta, tn, tc, rfl⟩ := intsSlice hk.ints
   obtain ⟨da, dn, dc, rfl⟩ := irowsSlice hk2.rows
   exact run_storeAt_mid w M 19 43 _ (there7 h.at_ 19 3 (by omega)) (by kernel_rfl) (by simp [Value.oneCell'])
 · have := heap_setCell (heap_setCell (heap_setCell (h.at_) 19 (.int .i64 e.term)) 20 (t)) 21 (d)
   exact this
end
end Go.Proofs.YtldfpklgbedgjaaGreat
