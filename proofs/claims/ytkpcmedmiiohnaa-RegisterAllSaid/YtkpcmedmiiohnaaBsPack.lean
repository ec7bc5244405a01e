/-
  Merged: Layer 2, the program: what writes; Layer 2, the program: the reader, and what reads; Layer 2, the program: a number is read; Layer 2: the statements' own small call; Layer 2: parts, as they come in; Layer 2: a part is read by the program; Layer 2, the document's own answers: each call's contract; Layer 2, the document's own answers: what reads; What layers above the vectors share: loads in a drawn region, rows of the call's own beside blocks, strings as bytes; Rows of rows of numbers, read; Layer 2, the document's own answers: a part is read; Layer 2: parts, out of what comes in.
-/
import Derived.Test.YtkpcmedmiiohnaaProg
import Derived.Laws.BitsAllLaws
import Derived.LoopTactic
import Derived.Lib.AppendStr
import Derived.Laws.OwnMore
import Derived.Laws.CopyOwn
import Derived.RegionTactic
import Derived.BigQuiet
import Derived.Deep.QuietTactic
import Derived.Deep.DeepCutAuto
import Derived.Lib.SlBytesConst
import Derived.Laws.DeepStrings4
import Derived.Lib.Strings
import Derived.Lib.ConvBytes
import Derived.Test.YtkpcmedmiiohnaaRows
import Derived.Test.YtkpcmedmiiohnaaChecked
import Derived.SizedLaws
import Derived.JoinedCond
import Derived.Test.YtkpcmedmiiohnaaBsLib
import Derived.Test.YtkpcmedmiiohnaaBsMath

set_option linter.unusedSimpArgs false
set_option linter.unusedVariables false

namespace Go.Proofs.Ytkpcmedmiiohnaa
open Go.RowKit
/- Layer 2, the program: what writes. -/
/-- A slice of bytes of the call's own, or none. -/
def Own (w : World) (base : Nat) (v : Value) (l : List UInt8) : Prop := w.ownsRow base 5 1 v l.length (u8s l)
theorem Own.bytes {w : World} {base : Nat} {v : Value} {l : List UInt8} (h : Own w base v l) : Bytes w v l := Sl.ofOwn h
theorem Own.isSlice {w : World} {base : Nat} {v : Value} {l : List UInt8} (h : Own w base v l) : ∃ a n c, v = .slice a n c := h.bytes.isSlice
theorem Own.nil (w : World) (base : Nat) : Own w base (.slice none 0 0) [] := World.ownsRow_nil _ _ _ _

theorem Own.one {w : World} {n : Nat} : Sl (w.alloc (.cells #[.int .u8 ((n : Int) % 256)] 5)) (.slice (some ⟨w.heap.size, 0, none⟩) 1 1) (u8s [UInt8.ofNat n]) := by
  have := Sl.made w (u8s [UInt8.ofNat n]) 5 1 (by simp) (by simp [maxLen]) (fr := (0, 0))
  simp only [u8s, List.map_cons, List.map_nil, u8_ofNat] at this ⊢
  exact this
/-- Is a number one that can be written? -/
def okNum (n : Int) : Bool := decide (0 ≤ n ∧ n ≤ 4611686018427387904)
def i64s (l : List Int) : List Value := l.map fun n => .int .i64 n
@[simp] theorem i64s_length (l : List Int) : (i64s l).length = l.length := by simp [i64s]
/-- A []int that reads as these. -/
def Ints (w : World) (v : Value) (ns : List Int) : Prop := Sl w v (i64s ns)
theorem Ints.below {w w' : World} {v : Value} {ns : List Int} (h : Ints w v ns) (hb : Below w.heap.size w w') : Ints w' v ns := Sl.below h hb
theorem Ints.open {w : World} {v : Value} {ns : List Int} (h : Ints w v ns) : ∃ (a : Option Addr) (cap : Nat), v = .slice a ns.length cap ∧ ns.length ≤ cap ∧ cap ≤ maxLen ∧ (a = none → cap = 0) ∧
    ∀ i (hi : i < ns.length), ∃ b off, a = some ⟨b, off, none⟩ ∧ w.cell? ⟨b, off + i, none⟩ = some (.int .i64 ns[i]) := by
  obtain ⟨a, cap, rfl, h1, h2, h4, h3⟩ := h
  refine ⟨a, cap, by simp, by simpa using h1, h2, h4, fun i hi => ?_⟩
  obtain ⟨b, off, e, hc⟩ := h3 i (by simpa using hi)
  exact ⟨b, off, e, by simpa [i64s] using hc⟩
theorem Ints.one (w : World) (n : Int) : Ints (w.alloc (.cells #[.int .i64 n] 3)) (.slice (some ⟨w.heap.size, 0, none⟩) 1 1) [n] :=
  Sl.made w (i64s [n]) 3 1 (by simp) (by simp [maxLen]) (fr := (0, 0))

/-- Numbers, one behind the other. -/
def nums (ns : List Int) : List UInt8 := (ns.map fun n => Pack.num n.toNat).flatten
/- Layer 2, the program: the reader, and what reads. -/
/-- A reading stays where a block of other things is written. -/
theorem Sl.off {w w' : World} {p : Nat} {cs : Array Value} {T : TypeId} {fr : Nat × Nat} {v : Value} {xs : List Value} (h : Sl w v xs) (hp : w.heap[p]? = some (.cells cs T fr)) (hx : ∀ x ∈ xs, x ∉ cs.toList) (hb : But p w w') : Sl w' v xs := by
  obtain ⟨a, cap, rfl, h1, h2, h4, h3⟩ := h
  refine ⟨a, cap, rfl, h1, h2, h4, fun i hi => ?_⟩
  obtain ⟨b, off, e, hc⟩ := h3 i hi
  refine ⟨b, off, e, ?_⟩
  have hne : b ≠ p := by
    rintro rfl
    rw [cell_of_heap hp] at hc
    have := Array.mem_of_getElem? hc
    exact hx _ (List.getElem_mem hi) (by simpa using this)
  rw [World.cell?_of_block (w := w) (hb.block b (World.block_lt_of_cell? w _ hc) hne)]
  exact hc
theorem Bytes.off {w w' : World} {p : Nat} {cs : Array Value} {T : TypeId} {fr : Nat × Nat} {v : Value} {l : List UInt8} (h : Bytes w v l) (hp : w.heap[p]? = some (.cells cs T fr)) (hx : ∀ n, Value.int .u8 n ∉ cs.toList) (hb : But p w w') : Bytes w' v l :=
  Sl.off h hp (fun x hxx => by
    obtain ⟨y, _, rfl⟩ := List.mem_map.1 hxx
    exact hx _) hb

/-- What this names lies ahead of block p. -/
def Low (a : Option Addr) (p : Nat) : Prop := ∀ d, a = some d → d.block < p
theorem Low.none (p : Nat) : Low none p := fun _ e => by cases e
/-- make([]T, n), copied into whole. -/
theorem wpList_mkfull {P : Program} {w : World} {ops : Array Oper} {rest : List Oper} {o : Oper} {a : Act} {Q : Exit → Act → World → Prop} (hgd : o.guard = none) (l c : Operand) {t e : TypeId} {z : Value} {bytes : Nat} (E : ElemOf P t e z bytes)
    (ho : o.op = Op.makeSlice t l c) (base : Nat) {kl kc : IntKind} (n : Nat) (hl : a.eval l = .int kl n) (hc : a.eval c = .int kc n) (hby : bytes * n ≤ 281474976710656) (hn : n ≤ maxLen) (hb : base ≤ w.heap.size)
    (h : ∀ w', w'.ownsRow base e 1 (.slice (some ⟨w.heap.size, 0, none⟩) n n) n (madeCells z.cells (n * 1)).toList → w.grownBy w' none → wpList P ops Q rest (a.put o.dst (.slice (some ⟨w.heap.size, 0, none⟩) n n)) w') : wpList P ops Q (o :: rest) a w := by
  obtain ⟨i, hi, hz, h2, h3⟩ := info_parts E.info
  refine wpList_plain hgd fun K hK => ?_
  obtain ⟨w', hr, h4, h5⟩ := run_make_full (P := P) w base t e i z 1 E.slice hi hz h2 kl kc n (by rw [h3]; exact hby) hn hb
  unfold Oper.wp execOp
  simp only [ho, hl, hc, Sem.run_bind, hr, Result.andThen_ok, Sem.run_pure]
  exact hK _ _ (h w' h4 h5)
set_option linter.unusedSimpArgs false
set_option linter.unusedVariables false
/- Layer 2, the program: a number is read. -/
/-- All but two blocks is as it was. -/
structure But2 (p q : Nat) (w w' : World) : Prop where
  os : w'.os = w.os
  tape : w'.tape = w.tape
  output : w'.output = w.output
  size : w.heap.size ≤ w'.heap.size
  block : ∀ k, k < w.heap.size → k ≠ p → k ≠ q → w'.heap[k]? = w.heap[k]?
theorem But2.refl (p q : Nat) (w : World) : But2 p q w w := ⟨rfl, rfl, rfl, Nat.le_refl _, fun _ _ _ _ => rfl⟩
theorem But2.trans {p q : Nat} {a b c : World} (h : But2 p q a b) (k : But2 p q b c) : But2 p q a c :=
  ⟨k.os.trans h.os, k.tape.trans h.tape, k.output.trans h.output, Nat.le_trans h.size k.size, fun i hi hp hq => (k.block i (Nat.lt_of_lt_of_le hi h.size) hp hq).trans (h.block i hi hp hq)⟩
theorem But2.drew {p q : Nat} {a w : World} (h : But2 p q a w) : But2 p q a w.drew := h.trans ⟨rfl, rfl, rfl, Nat.le_refl _, fun _ _ _ _ => rfl⟩
theorem But2.below {p q B : Nat} {w w' : World} (h : But2 p q w w') (hp : B ≤ p) (hq : B ≤ q) (hB : B ≤ w.heap.size) : Below B w w' :=
  ⟨h.os, h.tape, h.output, h.size, fun k hk => h.block k (by omega) (by omega) (by omega)⟩

theorem Ext.drewN (w : World) (n : Nat) : Ext w (w.drewN n) := ⟨rfl, rfl, rfl, Nat.le_refl _, fun _ _ => rfl⟩
/- Layer 2: the statements' own small call. -/
/- Layer 2: parts, as they come in; the statements' own small functions. -/
/-- A part stands here. -/
def PartAt (w : World) (b o : Nat) (p : Pack.Part) : Prop :=
  w.cell? ⟨b, o, none⟩ = some (.int .i64 p.kind) ∧ w.cell? ⟨b, o + 1, none⟩ = some (.int .i64 p.n) ∧ w.cell? ⟨b, o + 2, none⟩ = some (.int .i64 p.most) ∧ w.cell? ⟨b, o + 3, none⟩ = some (.string ⟨p.s.toArray⟩) ∧ w.cell? ⟨b, o + 4, none⟩ = some (.bool p.is)
theorem PartAt.of {w w' : World} {b o : Nat} {p : Pack.Part} (h : PartAt w b o p) (hb : w'.heap[b]? = w.heap[b]?) : PartAt w' b o p := by
  obtain ⟨h1, h2, h3, h4, h5⟩ := h
  have key : ∀ i, w'.cell? ⟨b, i, none⟩ = w.cell? ⟨b, i, none⟩ := fun i => World.cell?_of_block (w := w) hb
  exact ⟨(key _).trans h1, (key _).trans h2, (key _).trans h3, (key _).trans h4, (key _).trans h5⟩
/-- A slice of parts reads as these. -/
def Parts (w : World) (v : Value) (ps : List Pack.Part) : Prop :=
  ∃ (a : Option Addr) (cap : Nat), v = .slice a ps.length cap ∧ ps.length ≤ cap ∧ cap ≤ maxLen ∧ (∀ i (h : i < ps.length), ps[i].s.length ≤ maxLen) ∧
    ∀ i (h : i < ps.length), ∃ b off, a = some ⟨b, off, none⟩ ∧ PartAt w b (off + i * 5) ps[i]
theorem Parts.below {w w' : World} {v : Value} {ps : List Pack.Part} (h : Parts w v ps) (hb : Below w.heap.size w w') : Parts w' v ps := by
  obtain ⟨a, cap, rfl, h1, h2, h4, h3⟩ := h
  refine ⟨a, cap, rfl, h1, h2, h4, fun i hi => ?_⟩
  obtain ⟨b, off, e, hc⟩ := h3 i hi
  exact ⟨b, off, e, hc.of (hb.block b (World.block_lt_of_cell? w _ hc.1))⟩

theorem Own.mono {w : World} {b b' : Nat} {v : Value} {l : List UInt8} (h : Own w b v l) (hb : b' ≤ b) : Own w b' v l := by
  obtain ⟨h1, h | ⟨g, cap, cur, e, hg, r⟩⟩ := h
  · exact ⟨h1, .inl h⟩
  · exact ⟨h1, .inr ⟨g, cap, cur, e, Nat.le_trans hb hg, r⟩⟩
theorem Own.ext {w w' : World} {b : Nat} {v : Value} {l : List UInt8} (h : Own w b v l) (hb : Ext w w') : Own w' b v l := by
  obtain ⟨h1, h | ⟨g, cap, cur, e, hg, hh, r⟩⟩ := h
  · exact ⟨h1, .inl h⟩
  · exact ⟨h1, .inr ⟨g, cap, cur, e, hg, by rw [hb.block g (Array.getElem?_eq_some_iff.1 hh).1]; exact hh, r⟩⟩
/- Layer 2: a part is read by the program. -/
theorem But.low {p : Nat} {a b c : World} (h : But p a b) (k : Below a.heap.size b c) : But p a c :=
  ⟨k.os.trans h.os, k.tape.trans h.tape, k.output.trans h.output, Nat.le_trans h.size k.size, fun i hi hp => (k.block i hi).trans (h.block i hi hp)⟩
/- Layer 2, the document's own answers: each call's contract. -/
/-- The place of the last byte of a number. -/
def lastOf (l : List UInt8) : Int := if Pack.lead l < l.length ∧ Pack.lead l < 9 then (Pack.lead l : Nat) else -1

/- Layer 2, the document's own answers: what reads. -/
theorem heap_ext {w w' : World} {q : Nat} {o : Obj} (h : w.heap[q]? = some o) (hb : Ext w w') : w'.heap[q]? = some o := by
  rw [hb.block q (Array.getElem?_eq_some_iff.1 h).1]; exact h
theorem heap_two (w : World) (x y : Obj) : ((w.alloc x).alloc y).heap[w.heap.size]? = some x ∧ ((w.alloc x).alloc y).heap[w.heap.size + 1]? = some y := by
  have s1 : (w.alloc x).heap.size = w.heap.size + 1 := World.size_alloc _ _
  refine ⟨?_, ?_⟩
  · rw [Below.heap_alloc _ _ _ (by rw [s1]; omega)]; exact heap_alloc_new _ _
  · rw [← s1]; exact heap_alloc_new _ _
theorem ext_two (w : World) (x y : Obj) : Ext w ((w.alloc x).alloc y) := (Ext.alloc _ _).trans (Ext.alloc _ _)
def prevI (j : Nat) : Int := (j : Int) - 1
set_option maxRecDepth 100000
/- What layers above the vectors share: loads in a drawn region, rows of the call's own beside blocks, strings as bytes. No function of the program. -/
theorem Yield.load {P : Program} {o : Oper} {ev : Operand → Value} {w : World} {R : Value → World → Prop} {t : TypeId} {x : Operand} {u v : Value} {w' : World} (ho : o.op = .load t x) (hx : ev x = u) (hr : (Instr.loadAt t u).run P w = .ok v w') (h : R v w') : Yield P o ev w R := by
  unfold Yield execOp
  simp only [ho, hx, Sem.run_bind, hr, Result.andThen_ok, Sem.run_pure]
  exact h
theorem ldInts {w : World} {q i : Nat} {a : Option Addr} {n c : Nat} (h : w.cell? ⟨q, i, none⟩ = some (.slice a n c)) : (Instr.loadAt 22 (.pointer (some ⟨q, i, none⟩))).run Try.prog w = .ok (.slice a n c) w := by simp [go_sem, h]
/-- A row of the call's own lies beside a block of another type. -/
theorem rowBeside {w : World} {base q n size : Nat} {e t : TypeId} {v : Value} {xs : List Value} {cs : Array Value} {fr : Nat × Nat} (ho : w.ownsRow base e size v n xs) (hq : w.heap[q]? = some (.cells cs t fr)) (hte : t ≠ e) : some q ≠ v.ownBlock := by
  rcases ho.2 with ⟨rfl, _⟩ | ⟨g, cap, cur, rfl, _, hgb, _⟩
  · simp [Value.ownBlock]
  · intro e'
    obtain rfl : q = g := by simpa [Value.ownBlock] using e'
    rw [hq] at hgb
    simp at hgb
    exact hte hgb.2.1
theorem butSet (W : World) (b o : Nat) (v : Value) : But b W (W.setCell ⟨b, o, none⟩ v) := (But.refl _ _).setCell o none v
theorem rowBut {w w' : World} {p base n size : Nat} {e : TypeId} {v : Value} {xs : List Value} (ho : w.ownsRow base e size v n xs) (hne : some p ≠ v.ownBlock) (hb : But p w w') : w'.ownsRow base e size v n xs :=
  ho.kept (row := some p) ⟨hb.os, hb.tape, hb.output, hb.size, fun k hk hkp => hb.block k hk (fun e => hkp (by rw [e]))⟩ (.inr (Ne.symm hne))
theorem rowExt {w w' : World} {base n size : Nat} {e : TypeId} {v : Value} {xs : List Value} (ho : w.ownsRow base e size v n xs) (hE : Ext w w') : w'.ownsRow base e size v n xs :=
  ho.kept (row := none) ⟨hE.os, hE.tape, hE.output, hE.size, fun k hk _ => hE.block k hk⟩ (by
    rcases ho.2 with ⟨rfl, _⟩ | ⟨g, cap, cur, rfl, _⟩
    · exact .inl rfl
    · exact .inr (by simp [Value.ownBlock]))
theorem rowLower {w : World} {b b' n size : Nat} {e : TypeId} {xs : List Value} {v : Value} (h : w.ownsRow b e size v n xs) (hb : b' ≤ b) : w.ownsRow b' e size v n xs := by
  refine ⟨h.1, ?_⟩
  rcases h.2 with h | ⟨g, c, cur, h1, h2, h3⟩
  · exact .inl h
  · exact .inr ⟨g, c, cur, h1, Nat.le_trans hb h2, h3⟩
theorem ownSlice {w : World} {base n size : Nat} {e : TypeId} {v : Value} {xs : List Value} (h : w.ownsRow base e size v n xs) : ∃ a n c, v = .slice a n c := by
  rcases h.2 with ⟨rfl, _⟩ | ⟨g, c, cur, rfl, _⟩
  · exact ⟨_, _, _, rfl⟩
  · exact ⟨_, _, _, rfl⟩
theorem okNumOf {n : Int} (h : 0 ≤ n ∧ n ≤ 4611686018427387904) : okNum n = true := by
  unfold okNum
  rw [decide_eq_true_eq]
  omega
/-- What an operation yields, not yet made: an error's number, or none. -/
def orErr (e : Int) : Bool → Int
  | true => 0
  | false => e
@[simp] theorem orErr_true (e : Int) : orErr e true = 0 := rfl
@[simp] theorem orErr_false (e : Int) : orErr e false = e := rfl
theorem runTo {P : Program} {w : World} {t e : TypeId} {size : Nat} (ht : P.underlying t = some (.slice e)) (hs : (P.info? e).map (·.size) = some size) {a : Option Addr} {n cap : Nat} (h : Nat) (hh : h ≤ cap) (k : IntKind) :
    (Instr.sliceAt t (.slice a n cap) none (some (.int k (h : Int))) none).run P w = .ok (.slice a h cap) w := by
  have he : P.elem t = e := by simp [Program.elem, ht]
  have ht' : P.underlying t = some (.slice (P.elem t)) := by rw [he]; exact ht
  obtain ⟨i, hi, h1⟩ := Option.map_eq_some_iff.1 hs
  rw [run_sliceAt_slice w t _ _ _ _ ht', run_slice_h w t a n cap ht' k h (by omega) (by omega)]
  simp [sizeOf, typeInfo, he, hi, Result.andThen, sliced, Addr.add]
/- Rows of rows of numbers, read. No function of the program. -/
/-- A [][]int that reads as these. -/
def IRows (w : World) (v : Value) (ls : List (List Int)) : Prop :=
  ∃ xs : List Value, Sl w v xs ∧ xs.length = ls.length ∧ ∀ i (h : i < xs.length) (h' : i < ls.length), Ints w xs[i] ls[i]
theorem IRows.below {w w' : World} {v : Value} {ls : List (List Int)} (h : IRows w v ls) (hb : Below w.heap.size w w') : IRows w' v ls := by
  obtain ⟨xs, h1, h2, h3⟩ := h
  exact ⟨xs, h1.below hb, h2, fun i h h' => (h3 i h h').below hb⟩
theorem IRows.open {w : World} {v : Value} {ls : List (List Int)} (h : IRows w v ls) : ∃ (a : Option Addr) (cap : Nat), v = .slice a ls.length cap ∧ ls.length ≤ cap ∧ cap ≤ maxLen ∧
    ∀ i (hi : i < ls.length), ∃ b off x, a = some ⟨b, off, none⟩ ∧ w.cell? ⟨b, off + i, none⟩ = some x ∧ Ints w x ls[i] := by
  obtain ⟨xs, ⟨a, cap, rfl, h1, h2, _, h3⟩, h4, h5⟩ := h
  refine ⟨a, cap, by rw [h4], by omega, h2, fun i hi => ?_⟩
  obtain ⟨b, off, e, hc⟩ := h3 i (by omega)
  exact ⟨b, off, xs[i]'(by omega), e, hc, h5 i (by omega) hi⟩
theorem IRows.mk {w : World} (vs : List Value) (ls : List (List Int)) (e : TypeId) (n : Nat) (h1 : vs.length = n) (h2 : ls.length = n) (hn : n ≤ maxLen) (h : ∀ i (h : i < vs.length) (h' : i < ls.length), Ints w vs[i] ls[i]) :
    IRows (w.alloc (.cells vs.toArray e)) (.slice (some ⟨w.heap.size, 0, none⟩) n n) ls :=
  ⟨vs, Sl.made w vs e n h1 hn (fr := (0, 0)), by omega, fun i h3 h4 => (h i h3 h4).below (Ext.alloc w _)⟩
/- Layer 2, the document's own answers: a part is read. -/
end Go.Proofs.Ytkpcmedmiiohnaa

namespace Go.Proofs.Ytkpcmedmiiohnaa
open Go.ChangeShapes Go.WideShapes Go.ChangeAt Go.RowKit
/- Layer 2: parts, out of what comes in; and what the bound gives. -/
section
variable {H : Type} {enc : TypeId × Value → H} {w : World} {base : Nat} {spare : Nat → Bool} {held : Bool}

/-- How long a slice is, and its datum. -/
theorem len_of_raw {P : Program} {t e : TypeId} {fuel : Nat} {a : Option Addr} {n c : Nat} {x : DataW H × List MemPlace} (ht : P.underlying t = some (.slice e)) (h : DataW.trod enc P w base spare held fuel t [.slice a n c] = some x) :
    n = 0 ∨ ∃ elems spare, x.1 = .slice elems spare ∧ elems.length = n := by
  rcases DataW.trod_slice ht h with ⟨e, _⟩ | ⟨a, len, cap, elems, rest, n', _, e, rfl, _, _, _, hlen, _, _, _⟩
  · injection e with e _
    injection e with _ e _
    exact .inl e
  · injection e with e _
    injection e with _ e _
    exact .inr ⟨_, _, rfl, by simp; omega⟩
theorem bulk_of_raw {P : Program} {t e : TypeId} {fuel : Nat} {a : Option Addr} {n c : Nat} {x : DataW H × List MemPlace} (ht : P.underlying t = some (.slice e)) (h : DataW.trod enc P w base spare held fuel t [.slice a n c] = some x) : n ≤ Rows.uptoBulk x.1 := by
  rcases len_of_raw ht h with rfl | ⟨elems, spare, e1, e2⟩
  · omega
  · rw [e1]
    have key : ∀ es : List (DataW H), es.length ≤ Rows.uptoBulkAll es := by
      intro es
      induction es with
      | nil => simp
      | cons d es ih =>
        have : 1 ≤ Rows.uptoBulk d := by
          cases d with
          | lit l => cases l <;> simp [Rows.uptoBulk]
          | _ => simp [Rows.uptoBulk]
        simp only [List.length_cons, Rows.uptoBulkAll]
        omega
    have := key elems
    simp only [Rows.uptoBulk]
    omega
end
end Go.Proofs.Ytkpcmedmiiohnaa
