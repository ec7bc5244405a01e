/-
  Merged: What values hold in memory, as lists; What comes in, as lists: slices of bytes, of slices of bytes; A region that draws its order, by facts: what each operation leaves is said of its value and of each world behind it; Arrays of four numbers, held against one another; Slices whose elements take several cells: what they hold, as a list of cells; Worlds that keep all blocks but those of a set; A region that draws its order, of which the last operations wait for all ahead of them: the first ones by facts, the last ones one behind the other; A region that draws its order, by facts, with operations among it that turn what others read: the turning ones are marked, and wait for one another; A region that draws its order, with turning operations among its first ones, and last ones that wait for all; A region that draws its order, by facts in two halves: one operation turns them, and quiet ones may run on either side of it; append of elements of several cells, in a drawn region.
-/
import Derived.WalkKit
import Derived.WalkSpells
import Derived.WalkLawsBesides
import Derived.Lib.Hide
import Derived.Laws.AppendOwnNone
import Derived.ProofKit
import Derived.OpenShut
import Derived.ShutString
import Derived.ChangeOld
import Derived.Lib.SmallJoins
import Derived.Orders
import Derived.Maps.AppendAt

set_option linter.unusedSimpArgs false
set_option linter.unusedVariables false

namespace Go.Proofs.Ytkpcmedmiiohnaa
open Go.RowKit
/- What values hold in memory, as lists; laws on append over them; no program. -/
/-- All that was there is as it was; there may be more. -/
def Ext (w w' : World) : Prop := Below w.heap.size w w'
theorem Ext.refl (w : World) : Ext w w := Below.refl _ _
theorem Ext.trans {a b c : World} (h : Ext a b) (k : Ext b c) : Ext a c := Below.trans h (Below.mono k h.size)
theorem Ext.drew (w : World) : Ext w w.drew := (Below.refl _ _).drew
theorem Ext.alloc (w : World) (o : Obj) : Ext w (w.alloc o) := (Below.refl _ _).alloc (Nat.le_refl _) _
theorem Ext.below {w w' : World} (h : Ext w w') : Below w.heap.size w w' := h

/-- All that was there, but one block, is as it was; there may be more. -/
structure But (p : Nat) (w w' : World) : Prop where
  os : w'.os = w.os
  tape : w'.tape = w.tape
  output : w'.output = w.output
  size : w.heap.size ≤ w'.heap.size
  block : ∀ k, k < w.heap.size → k ≠ p → w'.heap[k]? = w.heap[k]?
theorem But.refl (p : Nat) (w : World) : But p w w := ⟨rfl, rfl, rfl, Nat.le_refl _, fun _ _ _ => rfl⟩
theorem But.trans {p : Nat} {a b c : World} (h : But p a b) (k : But p b c) : But p a c :=
  ⟨k.os.trans h.os, k.tape.trans h.tape, k.output.trans h.output, Nat.le_trans h.size k.size, fun i hi hp => (k.block i (Nat.lt_of_lt_of_le hi h.size) hp).trans (h.block i hi hp)⟩
theorem Ext.but {w w' : World} (h : Ext w w') (p : Nat) : But p w w' := ⟨h.os, h.tape, h.output, h.size, fun k hk _ => h.block k hk⟩
theorem But.drew (p : Nat) {a w : World} (h : But p a w) : But p a w.drew := h.trans ⟨rfl, rfl, rfl, Nat.le_refl _, fun _ _ _ => rfl⟩
theorem But.setCell {p : Nat} {a w : World} (h : But p a w) (o : Nat) (s : Option Nat) (v : Value) : But p a (w.setCell ⟨p, o, s⟩ v) :=
  h.trans ⟨rfl, rfl, rfl, by simp [World.setCell], fun k _ hk => Below.heap_setCell _ _ _ _ (by simpa using hk)⟩
theorem But.alloc {p : Nat} {a w : World} (h : But p a w) (o : Obj) : But p a (w.alloc o) := h.trans (Ext.but (Ext.alloc w o) p)
theorem But.grown {p : Nat} {w a b : World} (h : But p w a) {row : Option Nat} (hg : a.grownBy b row) (hr : ∀ k, row = some k → w.heap.size ≤ k) : But p w b :=
  ⟨hg.os.trans h.os, hg.tape.trans h.tape, hg.output.trans h.output, Nat.le_trans h.size hg.size, fun k hk hp => by
    rw [hg.block k (Nat.lt_of_lt_of_le hk h.size) (fun e => by have := hr k e.symm; omega)]; exact h.block k hk hp⟩
/-- What is written is behind B: below B all is as it was. -/
theorem But.below {p B : Nat} {w w' : World} (h : But p w w') (hp : B ≤ p) (hB : B ≤ w.heap.size) : Below B w w' :=
  ⟨h.os, h.tape, h.output, h.size, fun k hk => h.block k (by omega) (by omega)⟩

/-- A block whole. -/
theorem cell_of_heap {w : World} {p : Nat} {cs : Array Value} {T : TypeId} {fr : Nat × Nat} (h : w.heap[p]? = some (.cells cs T fr)) (i : Nat) : w.cell? ⟨p, i, none⟩ = cs[i]? := by
  simp [World.cell?, h]
theorem frozen_of_heap {w : World} {p : Nat} {cs : Array Value} {T : TypeId} (h : w.heap[p]? = some (.cells cs T (0, 0))) (i : Nat) : w.frozen? ⟨p, i, none⟩ = false := by
  simp [World.frozen?, h]
theorem heap_setCell {w : World} {p : Nat} {cs : Array Value} {T : TypeId} {fr : Nat × Nat} (h : w.heap[p]? = some (.cells cs T fr)) (i : Nat) (v : Value) :
    (w.setCell ⟨p, i, none⟩ v).heap[p]? = some (.cells (cs.setIfInBounds i v) T fr) := by
  simp [World.setCell, Array.getElem?_modify, h]

/-- A slice whose elements take one cell each reads as these. -/
def Sl (w : World) (v : Value) (xs : List Value) : Prop :=
  ∃ (a : Option Addr) (cap : Nat), v = .slice a xs.length cap ∧ xs.length ≤ cap ∧ cap ≤ maxLen ∧ (a = none → cap = 0) ∧
    ∀ i (h : i < xs.length), ∃ b off, a = some ⟨b, off, none⟩ ∧ w.cell? ⟨b, off + i, none⟩ = some xs[i]

def u8s (l : List UInt8) : List Value := l.map fun x => .int .u8 (x.toNat : Int)
@[simp] theorem u8s_length (l : List UInt8) : (u8s l).length = l.length := by simp [u8s]
@[simp] theorem u8s_append (l m : List UInt8) : u8s (l ++ m) = u8s l ++ u8s m := by simp [u8s]

/-- A []byte that reads as l. -/
def Bytes (w : World) (v : Value) (l : List UInt8) : Prop := Sl w v (u8s l)

theorem Bytes.open {w : World} {v : Value} {l : List UInt8} (h : Bytes w v l) : ∃ (a : Option Addr) (cap : Nat), v = .slice a l.length cap ∧ l.length ≤ cap ∧ cap ≤ maxLen ∧ (a = none → cap = 0) ∧
    ∀ i (hi : i < l.length), ∃ b off, a = some ⟨b, off, none⟩ ∧ w.cell? ⟨b, off + i, none⟩ = some (.int .u8 (l[i].toNat : Int)) := by
  obtain ⟨a, cap, rfl, h1, h2, h4, h3⟩ := h
  refine ⟨a, cap, by simp, by simpa using h1, h2, h4, fun i hi => ?_⟩
  obtain ⟨b, off, e, hc⟩ := h3 i (by simpa using hi)
  exact ⟨b, off, e, by simpa [u8s] using hc⟩

theorem Bytes.isSlice {w : World} {v : Value} {l : List UInt8} (h : Bytes w v l) : ∃ a n c, v = .slice a n c := by
  obtain ⟨a, cap, rfl, _⟩ := h.open
  exact ⟨_, _, _, rfl⟩

theorem Bytes.len {w : World} {a : Option Addr} {n c : Nat} {l : List UInt8} (h : Bytes w (.slice a n c) l) : n = l.length ∧ n ≤ c ∧ c ≤ 9223372036854775807 := by
  obtain ⟨_, _, e, h1, h2, _⟩ := h.open
  injection e with e1 e2 e3
  subst e3
  unfold maxLen at h2
  omega
theorem take_succ_getD {α : Type} (l : List α) (k : Nat) (h : k < l.length) : l.take (k + 1) = l.take k ++ [l[k]] := by
  rw [List.take_succ_eq_append_getElem h]

/-- What is not written stays: a reading holds in each world that keeps the blocks that were there. -/
theorem Sl.below {w w' : World} {v : Value} {xs : List Value} (h : Sl w v xs) (hb : Below w.heap.size w w') : Sl w' v xs := by
  obtain ⟨a, cap, rfl, h1, h2, h4, h3⟩ := h
  refine ⟨a, cap, rfl, h1, h2, h4, fun i hi => ?_⟩
  obtain ⟨b, off, e, hc⟩ := h3 i hi
  exact ⟨b, off, e, (hb.cell (p := ⟨b, off + i, none⟩) (World.block_lt_of_cell? w _ hc)).trans hc⟩
theorem Bytes.below {w w' : World} {v : Value} {l : List UInt8} (h : Bytes w v l) (hb : Below w.heap.size w w') : Bytes w' v l := Sl.below h hb

/-- An owned row, as a reading. -/
theorem Sl.ofOwn {w : World} {base : Nat} {e : TypeId} {v : Value} {n : Nat} {xs : List Value} (h : w.ownsRow base e 1 v n xs) : Sl w v xs := by
  obtain ⟨hl, h | ⟨g, cap, cur, rfl, hg, hh, hn, hm, hs, ht⟩⟩ := h
  · obtain ⟨rfl, rfl⟩ := h
    have : xs = [] := List.eq_nil_of_length_eq_zero (by simpa using hl)
    subst this
    exact ⟨none, 0, rfl, Nat.le_refl _, by simp [maxLen], fun _ => rfl, fun i hi => absurd hi (by simp)⟩
  · have hl' : n = xs.length := by simpa using hl.symm
    have ht' : cur.toList.take n = xs := by simpa using ht
    refine ⟨some ⟨g, 0, none⟩, cap, by rw [hl'], by omega, hm, fun e => by simp at e, fun i hi => ⟨g, 0, rfl, ?_⟩⟩
    simp only [World.cell?, hh, Nat.zero_add]
    have hx : cur.toList[i]? = xs[i]? := by
      rw [← ht', List.getElem?_take, if_pos (by omega)]
    rw [List.getElem?_eq_getElem hi] at hx
    simpa using hx

/-- A new block, read whole. -/
theorem Sl.made (w : World) (c : List Value) (e : TypeId) (n : Nat) (hn : c.length = n) (hm : n ≤ maxLen) {fr : Nat × Nat} : Sl (w.alloc (.cells c.toArray e fr)) (.slice (some ⟨w.heap.size, 0, none⟩) n n) c := by
  subst hn
  refine ⟨_, _, rfl, Nat.le_refl _, hm, fun e => by simp at e, fun i hi => ⟨_, _, rfl, ?_⟩⟩
  rw [Nat.zero_add, World.cell?_alloc_mark]
  simp [hi]

/-- The facts on an element type that take one cell, as append wants them. -/
structure ElemOf (P : Program) (t e : TypeId) (z : Value) (bytes : Nat) : Prop where
  slice : P.underlying t = some (.slice e)
  info : (P.info? e).map (fun i => (i.zero, i.size, i.bytes)) = some (some z, 1, bytes)
  one : z.cells.size = 1

/-- append(s, x...): s the call's own (or nil), x whatever reads as ys. -/
theorem run_app {P : Program} {w : World} {t e ty : TypeId} {z : Value} {bytes : Nat} (E : ElemOf P t e z bytes) {base : Nat} {v u : Value} {n : Nat} {xs ys : List Value}
    (hown : w.ownsRow base e 1 v n xs) (hu : Sl w u ys) (h1 : ∀ y ∈ ys, y.oneCell' = true) (hsz : n + ys.length ≤ maxLen) (hby : (n + ys.length) * bytes ≤ 140737488355328) (hb : base ≤ w.heap.size) :
    ∃ v' w', (Builtin.append_ #[t, t] ty #[v, u]).run P w = .ok v' w' ∧ w'.ownsRow base e 1 v' (n + ys.length) (xs ++ ys) ∧ w.grownBy w' v.ownBlock := by
  obtain ⟨i, hi, hz, h2, h3⟩ := info_parts E.info
  obtain ⟨a, cap, rfl, hc, hm, hn, hcell⟩ := hu
  by_cases hy : ys.length = 0
  · have : ys = [] := List.eq_nil_of_length_eq_zero hy
    subst this
    cases a with
    | none =>
      obtain rfl := hn rfl
      exact ⟨v, w, run_append_owned_none (P := P) (w := w) base t ty e i 1 E.slice hi v n xs hown, by simpa using hown, World.grownBy.refl w _⟩
    | some ad =>
      obtain ⟨v', w', hr, ho, hg, _⟩ := run_append_own (P := P) w base t ty e i z 1 bytes E.slice hi hz h2 h3 E.one (by omega) v n xs hown ad 0 cap [] (by simp) (by simp) (by simp) (by simpa using hsz) (by simpa using hby) hb
      exact ⟨v', w', by simpa using hr, by simpa using ho, hg⟩
  · obtain ⟨b, off, rfl, _⟩ := hcell 0 (by omega)
    obtain ⟨v', w', hr, ho, hg, _⟩ := run_append_own (P := P) w base t ty e i z 1 bytes E.slice hi hz h2 h3 E.one (by omega) v n xs hown ⟨b, off, none⟩ ys.length cap ys (by simp)
      (fun j y hj => by
        obtain ⟨hj1, rfl⟩ := List.getElem?_eq_some_iff.1 hj
        obtain ⟨b', off', e', hc'⟩ := hcell j hj1
        injection e' with e'; injection e' with e1 e2
        subst e1 e2
        rw [Addr.add_lit]; exact hc') h1 hsz hby hb
    exact ⟨v', w', hr, ho, hg⟩

theorem wp_app {P : Program} {w : World} {o : Oper} {a : Act} {K : Act → World → Prop} {Q : Exit → Act → World → Prop} (s x : Operand) {t e : TypeId} {z : Value} {bytes : Nat} (E : ElemOf P t e z bytes)
    (ho : o.op = .call { callee := .builtin .append, args := #[s, x], argTypes := #[t, t] }) {base : Nat} {v u : Value} {n : Nat} {xs ys : List Value} (hs : a.eval s = v) (hx : a.eval x = u)
    (hown : w.ownsRow base e 1 v n xs) (hu : Sl w u ys) (h1 : ∀ y ∈ ys, y.oneCell' = true) (hsz : n + ys.length ≤ maxLen) (hby : (n + ys.length) * bytes ≤ 140737488355328) (hb : base ≤ w.heap.size)
    (h : ∀ v' w', w'.ownsRow base e 1 v' (n + ys.length) (xs ++ ys) → w.grownBy w' v.ownBlock → K (a.put o.dst v') w') : o.wp P a w K Q := by
  obtain ⟨v', w', hr, h2, h3⟩ := run_app (P := P) (ty := o.type) E hown hu h1 hsz hby hb
  unfold Oper.wp execOp
  simp only [ho, resolve, invoke, builtin, Sem.run_bind, Sem.run_pure, Result.andThen_ok, List.map_toArray, List.map_cons, List.map_nil, hs, hx, hr]
  exact h v' w' h2 h3

theorem wpList_app {P : Program} {w : World} {ops : Array Oper} {rest : List Oper} {o : Oper} {a : Act} {Q : Exit → Act → World → Prop} (hgd : o.guard = none) (s x : Operand) {t e : TypeId} {z : Value} {bytes : Nat} (E : ElemOf P t e z bytes)
    (ho : o.op = .call { callee := .builtin .append, args := #[s, x], argTypes := #[t, t] }) {base : Nat} {v u : Value} {n : Nat} {xs ys : List Value} (hs : a.eval s = v) (hx : a.eval x = u)
    (hown : w.ownsRow base e 1 v n xs) (hu : Sl w u ys) (h1 : ∀ y ∈ ys, y.oneCell' = true) (hsz : n + ys.length ≤ maxLen) (hby : (n + ys.length) * bytes ≤ 140737488355328) (hb : base ≤ w.heap.size)
    (h : ∀ v' w', w'.ownsRow base e 1 v' (n + ys.length) (xs ++ ys) → w.grownBy w' v.ownBlock → wpList P ops Q rest (a.put o.dst v') w') : wpList P ops Q (o :: rest) a w :=
  wpList_plain hgd fun _ hK => wp_app s x E ho hs hx hown hu h1 hsz hby hb fun v' w' h2 h3 => hK _ _ (h v' w' h2 h3)

/-- A reading, cut short. -/
theorem Sl.take {w : World} {a : Option Addr} {n cap : Nat} {xs : List Value} (h : Sl w (.slice a n cap) xs) (k : Nat) (hk : k ≤ n) : Sl w (.slice a k cap) (xs.take k) := by
  obtain ⟨a', cap', e, h1, h2, h4, h3⟩ := h
  injection e with e1 e2 e3
  subst e1 e2 e3
  refine ⟨_, _, by rw [List.length_take, Nat.min_eq_left hk], by rw [List.length_take, Nat.min_eq_left hk]; omega, h2, h4, fun i hi => ?_⟩
  have hi' : i < xs.length := by simp at hi; omega
  obtain ⟨b, off, e, hc⟩ := h3 i hi'
  exact ⟨b, off, e, by simpa using hc⟩

theorem u8_ofNat (n : Nat) : ((UInt8.ofNat n).toNat : Int) = (n : Int) % 256 := by
  simp [UInt8.toNat_ofNat']

theorem Bytes.take {w : World} {a : Option Addr} {n cap : Nat} {l : List UInt8} (h : Bytes w (.slice a n cap) l) (k : Nat) (hk : k ≤ n) : Bytes w (.slice a k cap) (l.take k) := by
  obtain ⟨a', cap', e, h1, h2, h4, h3⟩ := h.open
  injection e with e1 e2 e3
  subst e1 e2 e3
  have hl : (l.take k).length = k := by simp; omega
  refine ⟨a, cap, by simp [hl], by simp; omega, h2, h4, fun i hi => ?_⟩
  have hi' : i < k := by simpa [hl] using hi
  obtain ⟨b, off, e, hc⟩ := h3 i (by omega)
  exact ⟨b, off, e, by simpa [u8s] using hc⟩

/-- s[:h], s[l:], the elements of one cell. -/
theorem run_sl_to {P : Program} {w : World} {t e : TypeId} (ht : P.underlying t = some (.slice e)) (hs : (P.info? e).map (·.size) = some 1) {a : Option Addr} {n cap : Nat} (h : Nat) (hh : h ≤ cap) (k : IntKind) :
    (Instr.sliceAt t (.slice a n cap) none (some (.int k (h : Int))) none).run P w = .ok (.slice a h cap) w := by
  have he : P.elem t = e := by simp [Program.elem, ht]
  have ht' : P.underlying t = some (.slice (P.elem t)) := by rw [he]; exact ht
  obtain ⟨i, hi, h1⟩ := Option.map_eq_some_iff.1 hs
  rw [run_sliceAt_slice w t _ _ _ _ ht', run_slice_h w t a n cap ht' k h (by omega) (by omega)]
  simp [sizeOf, typeInfo, he, hi, Result.andThen, sliced, Addr.add]
/-- A [][]byte that reads as these. -/
def Rows (w : World) (v : Value) (ls : List (List UInt8)) : Prop :=
  ∃ xs : List Value, Sl w v xs ∧ xs.length = ls.length ∧ ∀ i (h : i < xs.length) (h' : i < ls.length), Bytes w xs[i] ls[i]
theorem Rows.below {w w' : World} {v : Value} {ls : List (List UInt8)} (h : Rows w v ls) (hb : Below w.heap.size w w') : Rows w' v ls := by
  obtain ⟨xs, h1, h2, h3⟩ := h
  exact ⟨xs, h1.below hb, h2, fun i h h' => (h3 i h h').below hb⟩
theorem Rows.mk {w : World} (vs : List Value) (ls : List (List UInt8)) (e : TypeId) (n : Nat) (h1 : vs.length = n) (h2 : ls.length = n) (hn : n ≤ maxLen) (h : ∀ i (h : i < vs.length) (h' : i < ls.length), Bytes w vs[i] ls[i]) :
    Rows (w.alloc (.cells vs.toArray e)) (.slice (some ⟨w.heap.size, 0, none⟩) n n) ls :=
  ⟨vs, Sl.made w vs e n h1 hn (fr := (0, 0)), by omega, fun i h3 h4 => (h i h3 h4).below (Ext.alloc w _)⟩
theorem Rows.open {w : World} {v : Value} {ls : List (List UInt8)} (h : Rows w v ls) : ∃ (a : Option Addr) (cap : Nat), v = .slice a ls.length cap ∧ ls.length ≤ cap ∧ cap ≤ maxLen ∧
    ∀ i (hi : i < ls.length), ∃ b off x, a = some ⟨b, off, none⟩ ∧ w.cell? ⟨b, off + i, none⟩ = some x ∧ Bytes w x ls[i] := by
  obtain ⟨xs, ⟨a, cap, rfl, h1, h2, _, h3⟩, h4, h5⟩ := h
  refine ⟨a, cap, by rw [h4], by omega, h2, fun i hi => ?_⟩
  obtain ⟨b, off, e, hc⟩ := h3 i (by omega)
  exact ⟨b, off, xs[i]'(by omega), e, hc, h5 i (by omega) hi⟩

end Go.Proofs.Ytkpcmedmiiohnaa

namespace Go.Proofs.Ytkpcmedmiiohnaa
open Go.ChangeShapes Go.WideShapes Go.ChangeAt Go.RowKit
/- What comes in, as lists: slices of bytes, of slices of bytes. No program. -/
section
variable {H : Type} {enc : TypeId × Value → H} {P : Program} {w : World} {base : Nat} {spare : Nat → Bool} {held : Bool}

/-- A slice whose elements take one cell each. -/
theorem sl_of_raw {t e : TypeId} {fuel : Nat} {cs : List Value} {x : DataW H × List MemPlace} (ht : P.underlying t = some (.slice e)) (hc : P.cellsOf e = 1) (h : DataW.trod enc P w base spare held fuel t cs = some x) :
    ∃ v xs, cs = [v] ∧ Sl w v xs ∧ ∀ i (hi : i < xs.length), ∃ f y, DataW.trod enc P w base spare held f e [xs[i]] = some y := by
  rcases DataW.trod_slice ht h with ⟨rfl, _⟩ | ⟨a, len, cap, elems, rest, n, _, rfl, _, _, hl, hm, hlen, hel, _, _⟩
  · exact ⟨_, [], rfl, ⟨none, 0, rfl, Nat.le_refl _, by simp [maxLen], fun _ => rfl, fun i hi => absurd hi (by simp)⟩, fun i hi => absurd hi (by simp)⟩
  · have each : ∀ i, i < len → ∃ c y, w.cell? (a.add i) = some c ∧ DataW.trod enc P w base spare held n e [c] = some y := by
      intro i hi
      have h1 := hel i hi
      rw [hc, Nat.mul_one, List.getElem?_eq_getElem (by omega), Option.bind_eq_some_iff] at h1
      obtain ⟨ds, hds, hy⟩ := h1
      have hlen1 := (World.cells?_some hds).2.1
      match ds, hlen1 with
      | [c], _ => exact ⟨c, _, cell_of_cells?_one hds, hy⟩
    obtain ⟨f, hf⟩ : ∃ f : Nat → Value, ∀ i, i < len → w.cell? (a.add i) = some (f i) ∧ ∃ y, DataW.trod enc P w base spare held n e [f i] = some y := by
      have : ∀ i, ∃ c, i < len → w.cell? (a.add i) = some c ∧ ∃ y, DataW.trod enc P w base spare held n e [c] = some y := by
        intro i
        by_cases hi : i < len
        · obtain ⟨c, y, h1, h2⟩ := each i hi
          exact ⟨c, fun _ => ⟨h1, y, h2⟩⟩
        · exact ⟨undef, fun h => absurd h hi⟩
      exact ⟨fun i => (this i).choose, fun i => (this i).choose_spec⟩
    refine ⟨_, (List.range len).map f, rfl, ⟨some a, cap, by simp, by simpa using hl, hm, fun e => by simp at e, fun i hi => ?_⟩, fun i hi => ?_⟩
    · have hi' : i < len := by simpa using hi
      have h1 := (hf i hi').1
      have h0 := (hf 0 (by omega)).1
      have hs : a.spot = none := by
        have e0 : a.add 0 = a := by simp [Addr.add]
        rw [e0] at h0
        unfold World.cell? at h0
        cases hsp : a.spot with
        | none => rfl
        | some s =>
          exfalso
          rw [hsp] at h0
          split at h0 <;> simp at h0
      obtain ⟨b, off, spot⟩ := a
      simp only at hs
      subst hs
      rw [Addr.add_lit] at h1
      exact ⟨b, off, rfl, by simpa using h1⟩
    · have hi' : i < len := by simpa using hi
      obtain ⟨y, hy⟩ := (hf i hi').2
      exact ⟨n, y, by simpa using hy⟩

end

end Go.Proofs.Ytkpcmedmiiohnaa

namespace Go.Proofs.Ytkpcmedmiiohnaa
open Go.RowKit
/- A region that draws its order, by facts: what each operation leaves is said of its value and of each world behind it; then the order is all one. No program. -/
/-- The operation that writes a slot. -/
def writer (ops : List Oper) (t : Tmp) : Option Nat := ops.findIdx? (fun o => o.dst == some t)
/-- Does operation o wait for operation j? -/
def waitsFor (o : Oper) (j : Nat) : Bool := o.after.toList.any (fun e => Region.binds .any e && e.on == j)
def opTmps (o : Oper) : List Tmp := o.op.operands.toList.filterMap fun | .tmp t => some t | _ => none
def isSelect (o : Oper) : Bool := match o.op with | .select _ _ => true | _ => false

/-- What must be so of the text: each slot is written once; who reads a slot waits for its writer, or is waited for; nobody waits for a later one. -/
def factsOkAt (ops : List Oper) (n : Nat) (i : Nat) (o : Oper) : Bool :=
  !isSelect o &&
  (match o.dst with | none => true | some t => writer ops t == some i && decide (t < n)) &&
  (o.after.toList.all fun e => !Region.binds .any e || decide (e.on < i)) &&
  ((opTmps o).all fun t => match writer ops t with
    | none => true
    | some j => waitsFor o j || (match ops[j]? with | some oj => waitsFor oj i | none => false)) &&
  (match o.guard with | none => true | some (g, _) => waitsFor o g && (match ops[g]? with | some og => og.dst.isSome | none => false))
def factsOkFrom (ops : List Oper) (n : Nat) : Nat → List Oper → Bool
  | _, [] => true
  | i, o :: rest => factsOkAt ops n i o && factsOkFrom ops n (i + 1) rest
def factsOk (ops : List Oper) (n : Nat) : Bool := factsOkFrom ops n 0 ops

theorem factsOkFrom_at (ops : List Oper) (n : Nat) : ∀ (l : List Oper) (k : Nat), factsOkFrom ops n k l = true → ∀ i o, l[i]? = some o → factsOkAt ops n (k + i) o = true := by
  intro l
  induction l with
  | nil => intro k _ i o h; simp at h
  | cons x l ih =>
    intro k h i o hi
    simp only [factsOkFrom, Bool.and_eq_true] at h
    cases i with
    | zero => simp at hi; subst hi; exact h.1
    | succ i =>
      have := ih (k + 1) h.2 i o (by simpa using hi)
      rwa [Nat.add_assoc, Nat.add_comm 1 i] at this
theorem factsOk_at {ops : List Oper} {n : Nat} (h : factsOk ops n = true) {i : Nat} {o : Oper} (hi : ops[i]? = some o) : factsOkAt ops n i o = true := by
  have := factsOkFrom_at ops n ops 0 h i o hi
  rwa [Nat.zero_add] at this

/-- An operation's run, by what its operands are. -/
def Yield (P : Program) (o : Oper) (ev : Operand → Value) (w : World) (R : Value → World → Prop) : Prop :=
  match (execOp ev o).run P w with
  | .ok (.value v) w' => R v w'
  | .ok .skip w' => R undef w'
  | .ok (.enter f args) w' => Calls P f args w' fun
      | .returned v, w'' => R v w''
      | _, _ => False
  | _ => False

theorem Yield.wp {P : Program} {o : Oper} {a : Act} {w : World} {R : Value → World → Prop} {K : Act → World → Prop} {Q : Exit → Act → World → Prop} (h : Yield P o a.eval w R)
    (hk : ∀ v w', R v w' → K (a.put o.dst v) w') : o.wp P a w K Q := by
  unfold Oper.wp
  unfold Yield at h
  generalize (execOp a.eval o).run P w = r at *
  cases r with
  | ok x w' =>
    cases x <;> simp only [Oper.upon] at h ⊢ <;> first
      | exact hk _ _ h
      | exact h.elim
      | exact Calls.mono h (fun e w'' he => by cases e <;> first | exact hk _ _ he | exact he.elim)
  | halt x w' => exact h.elim

/-- The operand as the walk gives it. -/
structure Plain (ev : Operand → Value) : Prop where
  const : ∀ v, ev (.const v) = v
  func : ∀ f, ev (.func f) = .func (.func f) #[] #[]
  global : ∀ g, ev (.global g) = .pointer (some ⟨g, 0, none⟩)

/-! What one operation does, by its kind. -/
section
variable {P : Program} {o : Oper} {ev : Operand → Value} {w : World} {R : Value → World → Prop}
theorem Yield.mv {x : Operand} (ho : o.op = .move x) (h : R (ev x) w) : Yield P o ev w R := by
  unfold Yield execOp; simp only [ho]; exact h
theorem Yield.as {x : Operand} (ho : o.op = .assign x) (h : R (ev x) w) : Yield P o ev w R := by
  unfold Yield execOp; simp only [ho]; exact h
theorem Yield.pick {c a b : Operand} {t : Bool} (ho : o.op = .pick c a b) (hc : ev c = .bool t) (h : R (if t then ev a else ev b) w) : Yield P o ev w R := by
  unfold Yield execOp
  simp only [ho, hc]
  cases t <;> exact h
theorem Yield.op {v : Value} {w' : World} (hr : (execOp ev o).run P w = .ok (.value v) w') (h : R v w') : Yield P o ev w R := by
  unfold Yield; rw [hr]; exact h
theorem Yield.skip {w' : World} (hr : (execOp ev o).run P w = .ok .skip w') (h : R undef w') : Yield P o ev w R := by
  unfold Yield; rw [hr]; exact h
theorem Yield.slice {t : TypeId} {x : Operand} {lo hi mx : Option Operand} {u v : Value} {w' : World} (ho : o.op = .slice t x lo hi mx) (hx : ev x = u) (hr : (Instr.sliceAt t u (lo.map ev) (hi.map ev) (mx.map ev)).run P w = .ok v w') (h : R v w') : Yield P o ev w R := by
  unfold Yield execOp
  simp only [ho, hx, Sem.run_bind, hr, Result.andThen_ok, Sem.run_pure]
  exact h
theorem Yield.call {F : FuncId} {xs : Array Operand} {ats : Array TypeId} {fn : Func} {c : Code} (ho : o.op = .call { callee := .value (.func F), args := xs, argTypes := ats }) (hp : Plain ev) (hf : P.funcs[F]? = some fn) (hb : fn.body = some c)
    (hn : (fn.name == "runtime.NumGoroutine") = false) (h : Calls P F (xs.map ev) w (fun e w' => ∃ v, e = .returned v ∧ R v w')) : Yield P o ev w R := by
  unfold Yield execOp
  have hr : (do let d ← resolve ev { callee := .value (.func F), args := xs, argTypes := ats } o.type; invoke d.target d.args).run P w = .ok (.enter F (xs.map ev)) w := by
    simp only [resolve, hp.func, Deferred.ofValue, Sem.run_bind, Sem.run_pure, Result.andThen_ok, invoke]
    have hn' : ¬ fn.name = "runtime.NumGoroutine" := by simpa using hn
    simp [callFunc, hf, hn', hb]
  simp only [ho]
  rw [hr]
  exact h.mono fun e w' he => by obtain ⟨v, rfl, hv⟩ := he; exact hv
end

/-- An operation that leaves the world as it is. -/
theorem Yield.oq {P : Program} {o : Oper} {ev : Operand → Value} {w : World} {X : Value} (h : (execOp ev o).run P w = .ok (.value X) w) : Yield P o ev w (fun v w' => Ext w w' ∧ v = X) := by
  unfold Yield
  rw [h]
  exact ⟨Ext.refl _, rfl⟩
/-- What is known of an operand's slot. -/
def Known (ops : List Oper) (a0 : Act) (F : Nat → Value → World → Prop) (o : Oper) (t : Tmp) (x : Value) (w : World) : Prop :=
  match writer ops t with
  | none => x = a0.tmps.getD t undef
  | some j => if waitsFor o j = true then F j x w else x = a0.tmps.getD t undef


/-- What is to be shown of one operation. -/
def Obl (P : Program) (ops : List Oper) (a0 : Act) (w0 : World) (L : World → World → Prop) (F : Nat → Value → World → Prop) (i : Nat) (o : Oper) : Prop :=
  ∀ (ev : Operand → Value) (w : World), Plain ev → L w0 w → (∀ t, t ∈ opTmps o → Known ops a0 F o t (ev (.tmp t)) w) → (∀ j, waitsFor o j = true → ∃ v, F j v w) →
    match o.guard with
    | none => Yield P o ev w (fun v w' => L w w' ∧ F i v w')
    | some (g, want) => (∀ x, F g x w → x = .bool want → Yield P o ev w (fun v w' => L w w' ∧ F i v w')) ∧ (∀ x, F g x w → x ≠ .bool want → F i undef w)

def Obls (P : Program) (ops : List Oper) (a0 : Act) (w0 : World) (L : World → World → Prop) (F : Nat → Value → World → Prop) : Nat → List Oper → Prop
  | _, [] => True
  | k, o :: rest => Obl P ops a0 w0 L F k o ∧ Obls P ops a0 w0 L F (k + 1) rest

theorem Obls.at {P : Program} {ops : List Oper} {a0 : Act} {w0 : World} {L : World → World → Prop} {F : Nat → Value → World → Prop} : ∀ (l : List Oper) (k : Nat), Obls P ops a0 w0 L F k l → ∀ i o, l[i]? = some o → Obl P ops a0 w0 L F (k + i) o := by
  intro l
  induction l with
  | nil => intro k _ i o h; simp at h
  | cons x l ih =>
    intro k h i o hi
    cases i with
    | zero => simp at hi; subst hi; exact h.1
    | succ i =>
      have := ih (k + 1) h.2 i o (by simpa using hi)
      rwa [Nat.add_assoc, Nat.add_comm 1 i] at this

theorem Obls.cons {P : Program} {ops : List Oper} {a0 : Act} {w0 : World} {L : World → World → Prop} {F : Nat → Value → World → Prop} {k : Nat} {o : Oper} {rest : List Oper} (h : Obl P ops a0 w0 L F k o) (hr : Obls P ops a0 w0 L F (k + 1) rest) : Obls P ops a0 w0 L F k (o :: rest) := ⟨h, hr⟩
theorem Obls.nil {P : Program} {ops : List Oper} {a0 : Act} {w0 : World} {L : World → World → Prop} {F : Nat → Value → World → Prop} {k : Nat} : Obls P ops a0 w0 L F k [] := trivial

/-- All operations' values in their slots. -/
def putAll (vals : Nat → Value) : Nat → List Oper → Act → Act
  | _, [], a => a
  | k, o :: rest, a => putAll vals (k + 1) rest (a.put o.dst (vals k))

/-- What an operation has left. -/
def Left (F : Nat → Value → World → Prop) (j : Nat) (o : Oper) (a : Act) (w : World) : Prop :=
  match o.dst with
  | some t => F j (a.tmps.getD t undef) w
  | none => ∃ v, F j v w

structure Good (ops : List Oper) (a0 : Act) (w0 : World) (L : World → World → Prop) (F : Nat → Value → World → Prop) (listed : Array Bool) (a : Act) (w : World) : Prop where
  later : L w0 w
  defers : a.defers = a0.defers
  size : a.tmps.size = a0.tmps.size
  lsize : listed.size = ops.length
  closed : ∀ j o, ops[j]? = some o → listed.getD j false = true → ∀ i, waitsFor o i = true → listed.getD i false = true
  left : ∀ j o, ops[j]? = some o → listed.getD j false = true → Left F j o a w
  old : ∀ t, (∀ j o, ops[j]? = some o → listed.getD j false = true → o.dst ≠ some t) → a.tmps.getD t undef = a0.tmps.getD t undef

theorem getD_set (l : Array Bool) (i j : Nat) (hi : i < l.size) : (l.setIfInBounds i true).getD j false = (if i = j then true else l.getD j false) := by
  by_cases h : i = j
  · subst h; simp [Array.getD, hi]
  · simp only [h, if_false, Array.getD_eq_getD_getElem?]
    rw [Array.getElem?_setIfInBounds_ne h]

theorem put_getD (a : Act) (d t : Tmp) (v : Value) (hd : d < a.tmps.size) : (a.put (some d) v).tmps.getD t undef = if d = t then v else a.tmps.getD t undef := by
  simp only [Act.put]
  by_cases h : d = t
  · subst h; simp [Array.getD, hd]
  · simp only [h, if_false, Array.getD_eq_getD_getElem?]
    rw [Array.getElem?_setIfInBounds_ne h]

theorem put_size (a : Act) (d : Option Tmp) (v : Value) : (a.put d v).tmps.size = a.tmps.size := by
  cases d <;> simp [Act.put]
theorem put_defers (a : Act) (d : Option Tmp) (v : Value) : (a.put d v).defers = a.defers := by
  cases d <;> simp [Act.put]

theorem writer_spec {ops : List Oper} {t : Tmp} {i : Nat} (h : writer ops t = some i) : ∃ o, ops[i]? = some o ∧ o.dst = some t := by
  unfold writer at h
  obtain ⟨hi, hp, _⟩ := List.findIdx?_eq_some_iff_getElem.1 h
  exact ⟨ops[i], by simp [hi], by simpa using hp⟩
theorem writer_none {ops : List Oper} {t : Tmp} (h : writer ops t = none) : ∀ (i : Nat) (o : Oper), ops[i]? = some o → o.dst ≠ some t := by
  intro i o hi hd
  unfold writer at h
  rw [List.findIdx?_eq_none_iff] at h
  have := h o (List.mem_of_getElem? hi)
  simp [hd] at this

/-- Two operations never write one slot. -/
theorem dst_inj {ops : List Oper} {n : Nat} (h : factsOk ops n = true) {i j : Nat} {o p : Oper} {t : Tmp} (hi : ops[i]? = some o) (hj : ops[j]? = some p) (h1 : o.dst = some t) (h2 : p.dst = some t) : i = j := by
  have a := factsOk_at h hi
  have b := factsOk_at h hj
  simp only [factsOkAt, h1, h2, Bool.and_eq_true, beq_iff_eq] at a b
  have e1 := a.1.1.1.2.1
  have e2 := b.1.1.1.2.1
  rw [e1] at e2
  exact Option.some.inj e2

section
variable {P : Program} {ops : List Oper} {a0 : Act} {w0 : World} {L : World → World → Prop} {F : Nat → Value → World → Prop} {Q : Exit → Act → World → Prop}

theorem Good.put {listed : Array Bool} {a : Act} {w w' : World} {i : Nat} {o : Oper} {v : Value} (hg : Good ops a0 w0 L F listed a w) (hok : factsOk ops a0.tmps.size = true)
    (htr : ∀ a b c, L a b → L b c → L a c) (hst : ∀ i v w w', F i v w → L w w' → F i v w') (hi : ops[i]? = some o) (hready : ∀ j, waitsFor o j = true → listed.getD j false = true)
    (hl : L w w') (hv : F i v w') : Good ops a0 w0 L F (listed.setIfInBounds i true) (a.put o.dst v) w' := by
  have hlt : i < listed.size := by rw [hg.lsize]; exact (List.getElem?_eq_some_iff.1 hi).1
  have hf := factsOk_at hok hi
  refine ⟨htr _ _ _ hg.later hl, by rw [put_defers, hg.defers], by rw [put_size, hg.size], by simp [hg.lsize], ?_, ?_, ?_⟩
  · intro j p hj hlj k hk
    rw [getD_set _ _ _ hlt] at hlj ⊢
    split
    · rfl
    · by_cases e : i = j
      · subst e; rw [hi] at hj; cases hj; exact hready k hk
      · rw [if_neg e] at hlj; exact hg.closed j p hj hlj k hk
  · intro j p hj hlj
    rw [getD_set _ _ _ hlt] at hlj
    by_cases e : i = j
    · subst e
      rw [hi] at hj; cases hj
      unfold Left
      cases hd : o.dst with
      | none => exact ⟨v, hv⟩
      | some t =>
        simp only [factsOkAt, hd, Bool.and_eq_true, decide_eq_true_eq] at hf
        have ht : t < a.tmps.size := by rw [hg.size]; exact hf.1.1.1.2.2
        show F i ((a.put (some t) v).tmps.getD t undef) w'
        rw [put_getD a t t v ht, if_pos rfl]; exact hv
    · rw [if_neg e] at hlj
      have hp := hg.left j p hj hlj
      unfold Left at hp ⊢
      cases hd : p.dst with
      | none => rw [hd] at hp; obtain ⟨u, hu⟩ := hp; exact ⟨u, hst _ _ _ _ hu hl⟩
      | some t =>
        rw [hd] at hp
        have hne : o.dst ≠ some t := fun h => e (dst_inj hok hi hj h hd)
        have : (a.put o.dst v).tmps.getD t undef = a.tmps.getD t undef := by
          cases ho : o.dst with
          | none => rfl
          | some d =>
            simp only [factsOkAt, ho, Bool.and_eq_true, decide_eq_true_eq] at hf
            have hds : d < a.tmps.size := by rw [hg.size]; exact hf.1.1.1.2.2
            rw [put_getD a d t v hds, if_neg (fun h => hne (by rw [ho, h]))]
        show F j ((a.put o.dst v).tmps.getD t undef) w'
        rw [this]; exact hst _ _ _ _ hp hl
  · intro t ht
    have h1 : o.dst ≠ some t := ht i o hi (by rw [getD_set _ _ _ hlt, if_pos rfl])
    have h2 : (a.put o.dst v).tmps.getD t undef = a.tmps.getD t undef := by
      cases ho : o.dst with
      | none => rfl
      | some d =>
        simp only [factsOkAt, ho, Bool.and_eq_true, decide_eq_true_eq] at hf
        have hds : d < a.tmps.size := by rw [hg.size]; exact hf.1.1.1.2.2
        rw [put_getD a d t v hds, if_neg (fun h => h1 (by rw [ho, h]))]
    rw [h2]
    refine hg.old t fun j p hj hlj => ht j p hj ?_
    rw [getD_set _ _ _ hlt]; split
    · rfl
    · exact hlj

theorem Good.known {listed : Array Bool} {a : Act} {w : World} {i : Nat} {o : Oper} (hg : Good ops a0 w0 L F listed a w) (hok : factsOk ops a0.tmps.size = true) (hi : ops[i]? = some o)
    (hnot : listed.getD i false = false) (hready : ∀ j, waitsFor o j = true → listed.getD j false = true) : ∀ t, t ∈ opTmps o → Known ops a0 F o t (a.eval (.tmp t)) w := by
  intro t ht
  have hf := factsOk_at hok hi
  simp only [factsOkAt, Bool.and_eq_true, List.all_eq_true] at hf
  have hft := hf.1.2 t ht
  unfold Known
  show match writer ops t with | none => a.tmps.getD t undef = a0.tmps.getD t undef | some j => if waitsFor o j = true then F j (a.tmps.getD t undef) w else a.tmps.getD t undef = a0.tmps.getD t undef
  cases hw : writer ops t with
  | none => exact hg.old t fun j p hj _ => writer_none hw j p hj
  | some j =>
    obtain ⟨p, hj, hd⟩ := writer_spec hw
    rw [hw] at hft
    simp only []
    split
    · rename_i hwt
      have := hg.left j p hj (hready j hwt)
      unfold Left at this
      rwa [hd] at this
    · rename_i hwt
      refine hg.old t fun k q hk hlk hdk => ?_
      have e := dst_inj hok hj hk hd hdk
      subst e
      rw [hj] at hk; cases hk
      simp only [hwt, Bool.false_or, hj] at hft
      have := hg.closed j p hj hlk i hft
      rw [hnot] at this
      exact absurd this (by simp)

theorem ready_mem {listed : Array Bool} {i : Nat} (h : i ∈ Region.ready .any ops.toArray listed) (hl : listed.size = ops.length) :
    ∃ o, ops[i]? = some o ∧ listed.getD i false = false ∧ ∀ j, waitsFor o j = true → listed.getD j false = true := by
  unfold Region.ready at h
  rw [List.mem_filter] at h
  obtain ⟨hr, hc⟩ := h
  have hi : i < ops.length := by simpa using hr
  refine ⟨ops[i], by simp [hi], ?_, ?_⟩
  · simp only [Bool.and_eq_true, Bool.not_eq_true'] at hc
    have := hc.1
    simpa [Array.getD, hl, hi] using this
  · intro j hj
    simp only [Bool.and_eq_true] at hc
    have h2 := hc.2
    rw [show ops.toArray[i]? = some ops[i] from by simp [hi]] at h2
    simp only [Option.map_some, Option.getD_some, ← Array.all_toList, List.all_eq_true] at h2
    unfold waitsFor at hj
    rw [List.any_eq_true] at hj
    obtain ⟨e, he, h3⟩ := hj
    simp only [Bool.and_eq_true, beq_iff_eq] at h3
    have h4 := h2 e he
    rw [h3.1] at h4
    rw [← h3.2]
    simpa using h4

theorem ready_nil {listed : Array Bool} (hok : factsOk ops a0.tmps.size = true) (h : Region.ready .any ops.toArray listed = []) (hl : listed.size = ops.length) :
    ∀ i, i < ops.length → listed.getD i false = true := by
  intro i
  induction i using Nat.strongRecOn with
  | _ i ih =>
    intro hi
    cases hb : listed.getD i false with
    | true => rfl
    | false =>
      exfalso
      have hm : i ∈ Region.ready .any ops.toArray listed := by
        unfold Region.ready
        rw [List.mem_filter]
        refine ⟨by simpa using hi, ?_⟩
        have hf := factsOk_at hok (i := i) (o := ops[i]) (by simp [hi])
        simp only [factsOkAt, Bool.and_eq_true] at hf
        have hfa := hf.1.1.2
        rw [List.all_eq_true] at hfa
        simp only [Bool.and_eq_true, Bool.not_eq_true']
        constructor
        · simpa [Array.getD, hl, hi] using hb
        · rw [show ops.toArray[i]? = some ops[i] from by simp [hi]]
          simp only [Option.map_some, Option.getD_some, ← Array.all_toList, List.all_eq_true]
          intro e he
          have := hfa e he
          cases hbe : Region.binds .any e with
          | false => rfl
          | true =>
            rw [hbe] at this
            have h5 : e.on < i := by simpa using this
            have := ih e.on h5 (by omega)
            simpa using this
      rw [h] at hm
      cases hm

theorem facts_any (hok : factsOk ops a0.tmps.size = true) (htr : ∀ a b c, L a b → L b c → L a c) (hrf : ∀ a, L a a) (hst : ∀ i v w w', F i v w → L w w' → F i v w') (hob : Obls P ops a0 w0 L F 0 ops)
    (hend : ∀ listed a w, Good ops a0 w0 L F listed a w → (∀ i, i < ops.length → listed.getD i false = true) → Q .normal a w) :
    ∀ (fuel : Nat) (listed : Array Bool) (a : Act) (w : World), (listed.toList.filter (· == false)).length ≤ fuel → Good ops a0 w0 L F listed a w → wpAny P .any ops.toArray Q fuel listed a w := by
  intro fuel
  have step : ∀ (listed : Array Bool) (a : Act) (w : World) (i : Nat) (K : Act → World → Prop), Good ops a0 w0 L F listed a w → i ∈ Region.ready .any ops.toArray listed →
      (∀ a' w', Good ops a0 w0 L F (listed.setIfInBounds i true) a' w' → K a' w') → wpOp P ops.toArray Q i K a w := by
    intro listed a w i K hg hm hK
    obtain ⟨o, hi, hnot, hready⟩ := ready_mem hm hg.lsize
    have hob1 := Obls.at ops 0 hob i o hi
    rw [Nat.zero_add] at hob1
    have hf := factsOk_at hok hi
    have hpl : Plain a.eval := ⟨fun _ => rfl, fun _ => rfl, fun _ => rfl⟩
    have hdep : ∀ j, waitsFor o j = true → ∃ v, F j v w := by
      intro j hj
      have hlj := hready j hj
      have hjl : j < ops.length := by
        rcases Nat.lt_or_ge j ops.length with h | h
        · exact h
        · simp [Array.getD, hg.lsize, Nat.not_lt.2 h] at hlj
      have := hg.left j ops[j] (by simp [hjl]) hlj
      unfold Left at this
      cases hd : ops[j].dst with
      | none => rw [hd] at this; exact this
      | some t => rw [hd] at this; exact ⟨_, this⟩
    have hob2 := hob1 a.eval w hpl hg.later (hg.known hok hi hnot hready) hdep
    have yields : Yield P o a.eval w (fun v w' => L w w' ∧ F i v w') → o.wp P a w K Q := fun hy =>
      hy.wp fun v w' hh => hK _ _ (hg.put hok htr hst hi hready hh.1 hh.2)
    have skips : F i undef w → K (a.put o.dst undef) w := fun hu => hK _ _ (hg.put hok htr hst hi hready (hrf _) hu)
    unfold wpOp
    rw [show ops.toArray[i]? = some o from by simpa using hi]
    simp only []
    cases hgd : o.guard with
    | none =>
      rw [hgd] at hob2
      have : Region.wanted o (yielded ops.toArray a.tmps) = true := by simp [Region.wanted, hgd]
      rw [if_pos this]
      exact .inl (yields hob2)
    | some gw =>
      obtain ⟨g, want⟩ := gw
      rw [hgd] at hob2
      simp only [factsOkAt, hgd, Bool.and_eq_true] at hf
      have hwg := hf.2.1
      have hlg := hready g hwg
      have hgl : g < ops.length := by
        rcases Nat.lt_or_ge g ops.length with h | h
        · exact h
        · simp [Array.getD, hg.lsize, Nat.not_lt.2 h] at hlg
      have hog : ops[g]? = some ops[g] := by simp [hgl]
      have hds := hf.2.2
      rw [hog] at hds
      simp only [] at hds
      obtain ⟨t, ht⟩ := Option.isSome_iff_exists.1 hds
      have hleft := hg.left g ops[g] hog hlg
      unfold Left at hleft
      rw [ht] at hleft
      simp only [] at hleft
      have hy : yielded ops.toArray a.tmps g = match a.tmps.getD t undef with | .bool b => some b | _ => none := by
        unfold yielded
        have : ((ops.toArray[g]?).bind (·.dst)) = some t := by simp [hgl, ht]
        rw [this]
        simp only [Option.bind_some, Array.getD_eq_getD_getElem?]
        cases hx : a.tmps[t]? with
        | none => rfl
        | some x => cases x <;> rfl
      have hw : Region.wanted o (yielded ops.toArray a.tmps) = (yielded ops.toArray a.tmps g == some want) := by simp [Region.wanted, hgd]
      rw [hw, hy]
      by_cases hx : a.tmps.getD t undef = .bool want
      · rw [hx]
        simp only [beq_self_eq_true, if_true]
        exact .inl (yields (hob2.1 _ hleft hx))
      · have hne : ((match a.tmps.getD t undef with | .bool b => some b | _ => none) == some want) = false := by
          generalize a.tmps.getD t undef = x at hx
          cases x <;> try rfl
          rename_i b
          have hb : b ≠ want := fun e => hx (by rw [e])
          simpa using hb
        rw [hne]
        simp only [Bool.false_eq_true, if_false]
        exact skips (hob2.2 _ hleft hx)
  induction fuel with
  | zero =>
    intro listed a w hn hg
    have hall : ∀ i, i < ops.length → listed.getD i false = true := by
      intro i hi
      have h0 : listed.toList.filter (· == false) = [] := List.eq_nil_of_length_eq_zero (by omega)
      rw [List.filter_eq_nil_iff] at h0
      have hil : i < listed.size := by rw [hg.lsize]; exact hi
      have := h0 listed[i] (by simp)
      simpa [Array.getD, hil] using this
    refine ⟨?_, hend _ _ _ hg hall⟩
    rw [List.eq_nil_iff_forall_not_mem]
    intro i hm
    obtain ⟨o, hi, hnot, _⟩ := ready_mem hm hg.lsize
    rw [hall i (List.getElem?_eq_some_iff.1 hi).1] at hnot
    exact absurd hnot (by simp)
  | succ fuel ih =>
    intro listed a w hn hg
    refine ⟨fun hr => hend _ _ _ hg (ready_nil hok hr hg.lsize), fun i hm => ?_⟩
    refine step listed a w i _ hg hm fun a' w' hg' => ih _ _ _ ?_ hg'
    obtain ⟨o, hi, hnot, _⟩ := ready_mem hm hg.lsize
    have hil : i < listed.toList.length := by rw [Array.length_toList, hg.lsize]; exact (List.getElem?_eq_some_iff.1 hi).1
    have hb : listed.toList[i] = false := by
      have : i < listed.size := by simpa using hil
      simpa [Array.getD, this] using hnot
    rw [Array.toList_setIfInBounds]
    have key : ∀ (l : List Bool) (i : Nat) (h : i < l.length), l[i] = false → ((l.set i true).filter (· == false)).length + 1 = (l.filter (· == false)).length := by
      intro l
      induction l with
      | nil => intro i h; simp at h
      | cons x l ihl =>
        intro i h hx
        cases i with
        | zero => simp at hx; subst hx; simp
        | succ i =>
          have := ihl i (by simpa using h) (by simpa using hx)
          cases x <;> simp only [List.set_cons_succ, List.filter_cons, beq_self_eq_true, if_true, List.length_cons] <;> first | omega | (simp; simpa using this)
    have := key _ i hil hb
    omega

theorem putAll_size (vals : Nat → Value) : ∀ (l : List Oper) (k : Nat) (a : Act), (putAll vals k l a).tmps.size = a.tmps.size := by
  intro l
  induction l with
  | nil => intro k a; rfl
  | cons o l ih => intro k a; show (putAll vals (k + 1) l (a.put o.dst (vals k))).tmps.size = _; rw [ih, put_size]
theorem putAll_defers (vals : Nat → Value) : ∀ (l : List Oper) (k : Nat) (a : Act), (putAll vals k l a).defers = a.defers := by
  intro l
  induction l with
  | nil => intro k a; rfl
  | cons o l ih => intro k a; show (putAll vals (k + 1) l (a.put o.dst (vals k))).defers = _; rw [ih, put_defers]
theorem putAll_getD (vals : Nat → Value) (t : Tmp) : ∀ (l : List Oper) (k : Nat) (a : Act), (∀ o : Oper, o ∈ l → ∀ d, o.dst = some d → d < a.tmps.size) →
    (putAll vals k l a).tmps.getD t undef = a.tmps.getD t undef ∧ (∀ (i : Nat) (o : Oper), l[i]? = some o → o.dst ≠ some t) ∨ ∃ (i : Nat) (o : Oper), l[i]? = some o ∧ o.dst = some t ∧ (putAll vals k l a).tmps.getD t undef = vals (k + i) := by
  intro l
  induction l with
  | nil => intro k a _; exact .inl ⟨rfl, fun i o h => by simp at h⟩
  | cons o l ih =>
    intro k a hd
    show (putAll vals (k + 1) l (a.put o.dst (vals k))).tmps.getD t undef = _ ∧ _ ∨ ∃ i p, _ ∧ _ ∧ (putAll vals (k + 1) l (a.put o.dst (vals k))).tmps.getD t undef = _
    rcases ih (k + 1) (a.put o.dst (vals k)) (fun p hp d h => by rw [put_size]; exact hd p (by simp [hp]) d h) with ⟨h1, h2⟩ | ⟨i, p, h1, h2, h3⟩
    · cases ho : o.dst with
      | none =>
        refine .inl ⟨by rw [ho] at h1; exact h1, fun i p hi => ?_⟩
        cases i with
        | zero => simp at hi; subst hi; rw [ho]; simp
        | succ i => exact h2 i p (by simpa using hi)
      | some d =>
        have hds : d < a.tmps.size := hd o (by simp) d ho
        by_cases e : d = t
        · subst e
          refine .inr ⟨0, o, by simp, ho, ?_⟩
          rw [ho] at h1
          rw [h1, put_getD _ _ _ _ hds, if_pos rfl, Nat.add_zero]
        · refine .inl ⟨?_, fun i p hi => ?_⟩
          · rw [ho] at h1
            rw [h1, put_getD _ _ _ _ hds, if_neg e]
          · cases i with
            | zero => simp at hi; subst hi; rw [ho]; simpa using e
            | succ i => exact h2 i p (by simpa using hi)
    · exact .inr ⟨i + 1, p, by simpa using h1, h2, by rw [h3]; congr 1; omega⟩

/-- THE LAW. -/
theorem wp_region_facts {id : Nat} (hm : P.follows .mixedOrders = true) (L : World → World → Prop) (F : Nat → Value → World → Prop) (hok : factsOk ops a0.tmps.size = true)
    (htr : ∀ a b c, L a b → L b c → L a c) (hrf : ∀ a, L a a) (hdr : L w0 w0.drew) (hst : ∀ i v w w', F i v w → L w w' → F i v w') (hob : Obls P ops a0 w0 L F 0 ops)
    (hend : ∀ (vals : Nat → Value) w, L w0 w → (∀ i, i < ops.length → F i (vals i) w) → Q .normal (putAll vals 0 ops a0) w) : (Code.region id ops.toArray true).wp P Q a0 w0 := by
  refine wp_region_any hm ?_
  refine facts_any (a0 := a0) (w0 := w0) (L := L) (F := F) hok htr hrf hst hob ?_ _ _ _ _ ?_ ?_
  · intro listed a w hg hall
    have hval : ∃ vals : Nat → Value, ∀ i o, ops[i]? = some o → F i (vals i) w ∧ (∀ t, o.dst = some t → vals i = a.tmps.getD t undef) := by
      have : ∀ i, ∃ v, ∀ o, ops[i]? = some o → F i v w ∧ (∀ t, o.dst = some t → v = a.tmps.getD t undef) := by
        intro i
        cases hi : ops[i]? with
        | none => exact ⟨undef, fun o h => by simp at h⟩
        | some o =>
          have hl := hg.left i o hi (hall i (List.getElem?_eq_some_iff.1 hi).1)
          unfold Left at hl
          cases hd : o.dst with
          | none => rw [hd] at hl; obtain ⟨v, hv⟩ := hl; exact ⟨v, fun p hp => by cases hp; exact ⟨hv, fun t h => by rw [hd] at h; cases h⟩⟩
          | some t => rw [hd] at hl; exact ⟨_, fun p hp => by cases hp; exact ⟨hl, fun t' h => by rw [hd] at h; cases h; rfl⟩⟩
      exact ⟨fun i => (this i).choose, fun i => (this i).choose_spec⟩
    obtain ⟨vals, hv⟩ := hval
    have e : a = putAll vals 0 ops a0 := by
      have h1 : a.tmps = (putAll vals 0 ops a0).tmps := by
        apply Array.ext_getElem?
        intro t
        have hsz : a.tmps.size = (putAll vals 0 ops a0).tmps.size := by rw [putAll_size, hg.size]
        have hgd : a.tmps.getD t undef = (putAll vals 0 ops a0).tmps.getD t undef := by
          rcases putAll_getD vals t ops 0 a0 (fun o ho d hd => by
            obtain ⟨i, hi⟩ := List.getElem?_of_mem ho
            have hf := factsOk_at hok hi
            simp only [factsOkAt, hd, Bool.and_eq_true, decide_eq_true_eq] at hf
            exact hf.1.1.1.2.2) with ⟨h1, h2⟩ | ⟨i, o, h1, h2, h3⟩
          · rw [h1]; exact hg.old t fun j p hj _ => h2 j p hj
          · rw [h3, Nat.zero_add]; exact ((hv i o h1).2 t h2).symm
        by_cases ht : t < a.tmps.size
        · have ht' : t < (putAll vals 0 ops a0).tmps.size := hsz ▸ ht
          rw [Array.getElem?_eq_getElem ht, Array.getElem?_eq_getElem ht']
          simpa [Array.getD, ht, ht'] using hgd
        · rw [Array.getElem?_eq_none (by omega), Array.getElem?_eq_none (by omega)]
      have h2 : a.defers = (putAll vals 0 ops a0).defers := by rw [putAll_defers, hg.defers]
      cases a
      generalize putAll vals 0 ops a0 = b at *
      cases b
      simp only at h1 h2
      rw [h1, h2]
    rw [e]
    exact hend vals w hg.later fun i hi => (hv i ops[i] (by simp [hi])).1
  · simp only [List.size_toArray]
    simp
  · refine ⟨hdr, rfl, rfl, by simp, ?_, ?_, fun _ _ => rfl⟩
    · intro j o hj hl
      simp [Array.getD] at hl
    · intro j o hj hl
      simp [Array.getD] at hl
end
end Go.Proofs.Ytkpcmedmiiohnaa

namespace Go.Proofs.Ytkpcmedmiiohnaa

/- Arrays of four numbers, held against one another; no program. -/
end Go.Proofs.Ytkpcmedmiiohnaa

namespace Go.Proofs.Ytkpcmedmiiohnaa
open Go.RowKit
/- Slices whose elements take several cells: what they hold, as a list of cells; append. No program. -/
/-- A slice of n elements of so many cells each reads as these cells. -/
def SlN (size : Nat) (w : World) (v : Value) (n : Nat) (xs : List Value) : Prop :=
  ∃ (a : Option Addr) (cap : Nat), v = .slice a n cap ∧ n ≤ cap ∧ cap ≤ maxLen ∧ (a = none → cap = 0) ∧ xs.length = n * size ∧
    ∀ j (h : j < xs.length), ∃ b off, a = some ⟨b, off, none⟩ ∧ w.cell? ⟨b, off + j, none⟩ = some xs[j]
theorem SlN.below {size n : Nat} {w w' : World} {v : Value} {xs : List Value} (h : SlN size w v n xs) (hb : Below w.heap.size w w') : SlN size w' v n xs := by
  obtain ⟨a, cap, rfl, h1, h2, h4, h5, h3⟩ := h
  refine ⟨a, cap, rfl, h1, h2, h4, h5, fun i hi => ?_⟩
  obtain ⟨b, off, e, hc⟩ := h3 i hi
  exact ⟨b, off, e, (hb.cell (p := ⟨b, off + i, none⟩) (World.block_lt_of_cell? w _ hc)).trans hc⟩
theorem SlN.ofOwn {w : World} {base size : Nat} {e : TypeId} {v : Value} {n : Nat} {xs : List Value} (h : w.ownsRow base e size v n xs) : SlN size w v n xs := by
  obtain ⟨hl, h | ⟨g, cap, cur, rfl, hg, hh, hn, hm, hs, ht⟩⟩ := h
  · obtain ⟨rfl, rfl⟩ := h
    have : xs = [] := List.eq_nil_of_length_eq_zero (by simpa using hl)
    subst this
    exact ⟨none, 0, rfl, Nat.le_refl _, by simp [maxLen], fun _ => rfl, by simp, fun i hi => absurd hi (by simp)⟩
  · refine ⟨some ⟨g, 0, none⟩, cap, rfl, hn, hm, fun e => by simp at e, hl, fun i hi => ⟨g, 0, rfl, ?_⟩⟩
    simp only [World.cell?, hh, Nat.zero_add]
    have hx : cur.toList[i]? = xs[i]? := by
      rw [← ht, List.getElem?_take, if_pos (by omega)]
    rw [List.getElem?_eq_getElem hi] at hx
    simpa using hx
/-- The facts on an element type, as append wants them. -/
structure ElemN (P : Program) (t e : TypeId) (z : Value) (size bytes : Nat) : Prop where
  slice : P.underlying t = some (.slice e)
  info : (P.info? e).map (fun i => (i.zero, i.size, i.bytes)) = some (some z, size, bytes)
  cells : z.cells.size = size
  pos : 0 < size
theorem run_appN {P : Program} {w : World} {t e ty : TypeId} {z : Value} {size bytes : Nat} (E : ElemN P t e z size bytes) {base : Nat} {v u : Value} {n m : Nat} {xs ys : List Value}
    (hown : w.ownsRow base e size v n xs) (hu : SlN size w u m ys) (h1 : ∀ y ∈ ys, y.oneCell' = true) (hsz : n + m ≤ maxLen) (hby : (n + m) * bytes ≤ 140737488355328) (hb : base ≤ w.heap.size) :
    ∃ v' w', (Builtin.append_ #[t, t] ty #[v, u]).run P w = .ok v' w' ∧ w'.ownsRow base e size v' (n + m) (xs ++ ys) ∧ w.grownBy w' v.ownBlock := by
  obtain ⟨i, hi, hz, h2, h3⟩ := info_parts E.info
  obtain ⟨a, cap, rfl, hc, hm, hn, hlen, hcell⟩ := hu
  cases a with
  | none =>
    obtain rfl := hn rfl
    obtain rfl : m = 0 := by omega
    have : ys = [] := List.eq_nil_of_length_eq_zero (by simpa using hlen)
    subst this
    exact ⟨v, w, run_append_owned_none (P := P) (w := w) base t ty e i size E.slice hi v n xs hown, by simpa using hown, World.grownBy.refl w _⟩
  | some ad =>
    obtain ⟨v', w', hr, ho, hg, _⟩ := run_append_own (P := P) w base t ty e i z size bytes E.slice hi hz h2 h3 E.cells E.pos v n xs hown ad m cap ys hlen
      (fun j y hj => by
        obtain ⟨hj1, rfl⟩ := List.getElem?_eq_some_iff.1 hj
        obtain ⟨b', off', e', hc'⟩ := hcell j hj1
        injection e' with e'
        subst e'
        rw [Addr.add_lit]; exact hc') h1 hsz hby hb
    exact ⟨v', w', hr, ho, hg⟩
theorem wpList_appN {P : Program} {w : World} {ops : Array Oper} {rest : List Oper} {o : Oper} {a : Act} {Q : Exit → Act → World → Prop} (hgd : o.guard = none) (s x : Operand) {t e : TypeId} {z : Value} {size bytes : Nat} (E : ElemN P t e z size bytes)
    (ho : o.op = .call { callee := .builtin .append, args := #[s, x], argTypes := #[t, t] }) {base : Nat} {v u : Value} {n m : Nat} {xs ys : List Value} (hs : a.eval s = v) (hx : a.eval x = u)
    (hown : w.ownsRow base e size v n xs) (hu : SlN size w u m ys) (h1 : ∀ y ∈ ys, y.oneCell' = true) (hsz : n + m ≤ maxLen) (hby : (n + m) * bytes ≤ 140737488355328) (hb : base ≤ w.heap.size)
    (h : ∀ v' w', w'.ownsRow base e size v' (n + m) (xs ++ ys) → w.grownBy w' v.ownBlock → wpList P ops Q rest (a.put o.dst v') w') : wpList P ops Q (o :: rest) a w :=
  wpList_plain hgd fun _ hK => by
    obtain ⟨v', w', hr, h2, h3⟩ := run_appN (P := P) (ty := o.type) E hown hu h1 hsz hby hb
    unfold Oper.wp execOp
    simp only [ho, resolve, invoke, builtin, Sem.run_bind, Sem.run_pure, Result.andThen_ok, List.map_toArray, List.map_cons, List.map_nil, hs, hx, hr]
    exact hK _ _ (h v' w' h2 h3)
set_option linter.unusedSimpArgs false
set_option linter.unusedVariables false
/- Worlds that keep all blocks but those of a set; a set and what is new. No program. -/
theorem rowOwn {w w' : World} {base n size : Nat} {e : TypeId} {v : Value} {xs : List Value} (h : w.ownsRow base e size v n xs) (hs : ∀ g, v.ownBlock = some g → w'.heap[g]? = w.heap[g]?) : w'.ownsRow base e size v n xs := by
  refine ⟨h.1, ?_⟩
  rcases h.2 with h0 | ⟨g, cap, cur, rfl, hb, hg, hr⟩
  · exact .inl h0
  · exact .inr ⟨g, cap, cur, rfl, hb, (hs g rfl).trans hg, hr⟩
theorem ownAt {w : World} {b size n k : Nat} {e : TypeId} {v : Value} {xs : List Value} (h : w.ownsRow b e size v n xs) (hk : v.ownBlock = some k) : ∃ cur, w.heap[k]? = some (.cells cur e (0, 0)) := by
  rcases h.2 with ⟨rfl, _⟩ | ⟨g, cap, cur, rfl, _, hg, _⟩
  · cases hk
  · injection hk with hk
    exact ⟨cur, by rw [← hk]; exact hg⟩
theorem ownLen {w : World} {base size n m c : Nat} {a : Option Addr} {e : TypeId} {xs : List Value} (h : w.ownsRow base e size (.slice a n c) m xs) : n = m := by
  rcases h.2 with ⟨e, e2⟩ | ⟨g, cap, cur, e, _⟩
  · injection e with _ e3 _
    omega
  · injection e with _ e3 _
/-- All blocks but those of a set stay. -/
structure TwS (S : Nat → Prop) (w w' : World) : Prop where
  os : w'.os = w.os
  tape : w'.tape = w.tape
  output : w'.output = w.output
  size : w.heap.size ≤ w'.heap.size
  block : ∀ k, k < w.heap.size → ¬ S k → w'.heap[k]? = w.heap[k]?
section
variable {S : Nat → Prop} {a b c w w' : World}
theorem TwS.ext (h : Ext w w') : TwS S w w' := ⟨h.os, h.tape, h.output, h.size, fun k hk _ => h.block k hk⟩
theorem TwS.trans (h : TwS S a b) (k : TwS S b c) : TwS S a c := ⟨k.os.trans h.os, k.tape.trans h.tape, k.output.trans h.output, Nat.le_trans h.size k.size, fun i hi hu => (k.block i (Nat.lt_of_lt_of_le hi h.size) hu).trans (h.block i hi hu)⟩
theorem TwS.but {p : Nat} (h : But p w w') (h1 : S p) : TwS S w w' := ⟨h.os, h.tape, h.output, h.size, fun k hk hu => h.block k hk (fun e => hu (e ▸ h1))⟩
theorem TwS.grown {o : Option Nat} (h : w.grownBy w' o) (ho : ∀ k, o = some k → S k) : TwS S w w' := ⟨h.os, h.tape, h.output, h.size, fun k hk hu => h.block k hk (fun e => hu (ho k e.symm))⟩
end
section
variable {S : Nat → Prop} {w w1 w' : World}
theorem TwS.andThen {S T : Nat → Prop} (h : TwS S w w1) (k : TwS T w1 w') (hT : ∀ i, i < w.heap.size → T i → S i) : TwS S w w' :=
  ⟨k.os.trans h.os, k.tape.trans h.tape, k.output.trans h.output, Nat.le_trans h.size k.size, fun i hi hu => (k.block i (Nat.lt_of_lt_of_le hi h.size) (fun e => hu (hT i hi e))).trans (h.block i hi hu)⟩
end
/- A region that draws its order, of which the last operations wait for all ahead of them: the first ones by facts, the last ones one behind the other. No program. -/
/-- Does operation i wait for operation j, over others too? -/
def reach (ops : List Oper) : Nat → Nat → Nat → Bool
  | 0, _, _ => false
  | f + 1, i, j => match ops[i]? with
    | none => false
    | some o => waitsFor o j || (List.range i).any (fun k => waitsFor o k && reach ops f k j)
/-- From m on each operation waits for all ahead of it. -/
def tailOk (ops : List Oper) (m : Nat) : Bool := (List.range ops.length).all fun i => decide (i < m) || (List.range i).all fun j => reach ops ops.length i j
theorem tailOk_at {ops : List Oper} {m i j : Nat} (h : tailOk ops m = true) (hi : i < ops.length) (hm : m ≤ i) (hj : j < i) : reach ops ops.length i j = true := by
  unfold tailOk at h
  rw [List.all_eq_true] at h
  have := h i (List.mem_range.2 hi)
  rw [Bool.or_eq_true, decide_eq_true_eq, List.all_eq_true] at this
  rcases this with h | h
  · omega
  · exact h j (List.mem_range.2 hj)

section
variable {P : Program} {ops : List Oper} {a0 : Act} {w0 : World} {L : World → World → Prop} {F : Nat → Value → World → Prop} {Q : Exit → Act → World → Prop}

theorem reach_listed {listed : Array Bool} (hcl : ∀ j o, ops[j]? = some o → listed.getD j false = true → ∀ i, waitsFor o i = true → listed.getD i false = true) :
    ∀ (f i j : Nat) (o : Oper), ops[i]? = some o → (∀ k, waitsFor o k = true → listed.getD k false = true) → reach ops f i j = true → listed.getD j false = true := by
  intro f
  induction f with
  | zero => intro i j o _ _ h; simp [reach] at h
  | succ f ih =>
    intro i j o hi hr h
    unfold reach at h
    rw [hi] at h
    simp only [Bool.or_eq_true, List.any_eq_true, Bool.and_eq_true] at h
    rcases h with h | ⟨k, _, h1, h2⟩
    · exact hr j h
    · have hk := hr k h1
      cases hok : ops[k]? with
      | none =>
        cases f with
        | zero => simp [reach] at h2
        | succ f => simp [reach, hok] at h2
      | some p => exact ih k j p hok (hcl k p hok hk) h2

/-- The last ones, one behind the other. -/
theorem tail_any (m : Nat) (hok : factsOk ops a0.tmps.size = true) (ht : tailOk ops m = true) : ∀ (fuel k : Nat) (listed : Array Bool) (a : Act) (w : World), ops.length ≤ k + fuel → m ≤ k → k ≤ ops.length → listed.size = ops.length →
    (∀ i, i < ops.length → (listed.getD i false = true ↔ i < k)) → wpList P ops.toArray Q (ops.drop k) a w → wpAny P .any ops.toArray Q fuel listed a w := by
  intro fuel
  induction fuel with
  | zero =>
    intro k listed a w hf hm hk hs hl h
    obtain rfl : k = ops.length := by omega
    rw [List.drop_length] at h
    refine ⟨?_, h⟩
    rw [List.eq_nil_iff_forall_not_mem]
    intro i hmem
    obtain ⟨o, hi, hnot, _⟩ := ready_mem hmem hs
    have hlt := (List.getElem?_eq_some_iff.1 hi).1
    rw [(hl i hlt).2 hlt] at hnot
    exact absurd hnot (by simp)
  | succ fuel ih =>
    intro k listed a w hf hm hk hs hl h
    refine ⟨fun hr => ?_, fun i hmem => ?_⟩
    · have hall := ready_nil hok hr hs
      have hkl : k = ops.length := by
        rcases Nat.lt_or_ge k ops.length with hlt | hge
        · have := (hl k hlt).1 (hall k hlt); omega
        · omega
      subst hkl
      rw [List.drop_length] at h
      exact h
    · obtain ⟨o, hi, hnot, hready⟩ := ready_mem hmem hs
      have hlt := (List.getElem?_eq_some_iff.1 hi).1
      have hki : k ≤ i := by
        rcases Nat.lt_or_ge i k with h' | h'
        · rw [(hl i hlt).2 h'] at hnot; exact absurd hnot (by simp)
        · exact h'
      have hcl : ∀ j p, ops[j]? = some p → listed.getD j false = true → ∀ q, waitsFor p q = true → listed.getD q false = true := by
        intro j p hj hlj q hq
        have hjlt := (List.getElem?_eq_some_iff.1 hj).1
        have hjk := (hl j hjlt).1 hlj
        have hfa := factsOk_at hok hj
        simp only [factsOkAt, Bool.and_eq_true] at hfa
        have h2 := hfa.1.1.2
        rw [List.all_eq_true] at h2
        unfold waitsFor at hq
        rw [List.any_eq_true] at hq
        obtain ⟨e, he, h3⟩ := hq
        simp only [Bool.and_eq_true, beq_iff_eq] at h3
        have h4 := h2 e he
        rw [h3.1] at h4
        simp at h4
        rw [← h3.2]
        exact (hl e.on (by omega)).2 (by omega)
      have hik : i = k := by
        rcases Nat.lt_or_ge k i with h' | h'
        · have := reach_listed hcl _ i k o hi hready (tailOk_at ht hlt (by omega) h')
          have := (hl k (by omega)).1 this
          omega
        · omega
      subst hik
      have hd : ops.drop i = o :: ops.drop (i + 1) := by
        rw [List.drop_eq_getElem_cons hlt]
        have : ops[i] = o := (List.getElem?_eq_some_iff.1 hi).2
        rw [this]
      rw [hd] at h
      have hset : ∀ q, q < ops.length → ((listed.setIfInBounds i true).getD q false = true ↔ q < i + 1) := by
        intro q hq
        rw [getD_set _ _ _ (by rw [hs]; exact hlt)]
        by_cases e : i = q
        · subst e; simp
        · rw [if_neg e, hl q hq]; omega
      have hK : ∀ a' w', wpList P ops.toArray Q (ops.drop (i + 1)) a' w' → wpAny P .any ops.toArray Q fuel (listed.setIfInBounds i true) a' w' := fun a' w' h' =>
        ih (i + 1) _ a' w' (by omega) (by omega) (by omega) (by simp [hs]) hset h'
      unfold wpOp
      rw [show ops.toArray[i]? = some o from by simpa using hi]
      simp only [wpList] at h ⊢
      split at h
      · rename_i hw
        rw [if_pos hw]
        rcases h with h | h
        · exact .inl (Oper.wp_mono hK h)
        · exact .inr h
      · rename_i hw
        rw [if_neg hw]
        exact hK _ _ h

/-- THE LAW. -/
theorem wp_region_tail {id : Nat} (hm : P.follows .mixedOrders = true) (m : Nat) (L : World → World → Prop) (F : Nat → Value → World → Prop) (hok : factsOk ops a0.tmps.size = true) (ht : tailOk ops m = true) (hml : m < ops.length)
    (htr : ∀ a b c, L a b → L b c → L a c) (hrf : ∀ a, L a a) (hdr : L w0 w0.drew) (hst : ∀ i v w w', F i v w → L w w' → F i v w') (hob : Obls P ops a0 w0 L F 0 (ops.take m))
    (hend : ∀ (vals : Nat → Value) w, L w0 w → (∀ i, i < m → F i (vals i) w) → wpList P ops.toArray Q (ops.drop m) (putAll vals 0 (ops.take m) a0) w) : (Code.region id ops.toArray true).wp P Q a0 w0 := by
  refine wp_region_any hm ?_
  have finish : ∀ listed a w, Good ops a0 w0 L F listed a w → (∀ i, i < ops.length → (listed.getD i false = true ↔ i < m)) → wpList P ops.toArray Q (ops.drop m) a w := by
    intro listed a w hg hall
    have hval : ∃ vals : Nat → Value, ∀ i o, (ops.take m)[i]? = some o → F i (vals i) w ∧ (∀ t, o.dst = some t → vals i = a.tmps.getD t undef) := by
      have : ∀ i, ∃ v, ∀ o, (ops.take m)[i]? = some o → F i v w ∧ (∀ t, o.dst = some t → v = a.tmps.getD t undef) := by
        intro i
        cases hi : (ops.take m)[i]? with
        | none => exact ⟨undef, fun o h => by simp at h⟩
        | some o =>
          have hil := (List.getElem?_eq_some_iff.1 hi).1
          rw [List.length_take] at hil
          have hio : ops[i]? = some o := by rw [List.getElem?_take] at hi; split at hi <;> simp_all
          have hl := hg.left i o hio ((hall i (by omega)).2 (by omega))
          unfold Left at hl
          cases hd : o.dst with
          | none => rw [hd] at hl; obtain ⟨v, hv⟩ := hl; exact ⟨v, fun p hp => by cases hp; exact ⟨hv, fun t h => by rw [hd] at h; cases h⟩⟩
          | some t => rw [hd] at hl; exact ⟨_, fun p hp => by cases hp; exact ⟨hl, fun t' h => by rw [hd] at h; cases h; rfl⟩⟩
      exact ⟨fun i => (this i).choose, fun i => (this i).choose_spec⟩
    obtain ⟨vals, hv⟩ := hval
    have e : a = putAll vals 0 (ops.take m) a0 := by
      have h1 : a.tmps = (putAll vals 0 (ops.take m) a0).tmps := by
        apply Array.ext_getElem?
        intro t
        have hsz : a.tmps.size = (putAll vals 0 (ops.take m) a0).tmps.size := by rw [putAll_size, hg.size]
        have hgd : a.tmps.getD t undef = (putAll vals 0 (ops.take m) a0).tmps.getD t undef := by
          rcases putAll_getD vals t (ops.take m) 0 a0 (fun o ho d hd => by
            obtain ⟨i, hi⟩ := List.getElem?_of_mem (List.mem_of_mem_take ho)
            have hf := factsOk_at hok hi
            simp only [factsOkAt, hd, Bool.and_eq_true, decide_eq_true_eq] at hf
            exact hf.1.1.1.2.2) with ⟨h1, h2⟩ | ⟨i, o, h1, h2, h3⟩
          · rw [h1]
            refine hg.old t fun j p hj hlj => h2 j p ?_
            have hjl := (List.getElem?_eq_some_iff.1 hj).1
            have hjm := (hall j hjl).1 hlj
            rw [List.getElem?_take, if_pos hjm]; exact hj
          · rw [h3, Nat.zero_add]; exact ((hv i o h1).2 t h2).symm
        by_cases ht : t < a.tmps.size
        · have ht' : t < (putAll vals 0 (ops.take m) a0).tmps.size := hsz ▸ ht
          rw [Array.getElem?_eq_getElem ht, Array.getElem?_eq_getElem ht']
          simpa [Array.getD, ht, ht'] using hgd
        · rw [Array.getElem?_eq_none (by omega), Array.getElem?_eq_none (by omega)]
      have h2 : a.defers = (putAll vals 0 (ops.take m) a0).defers := by rw [putAll_defers, hg.defers]
      cases a
      generalize putAll vals 0 (ops.take m) a0 = b at *
      cases b
      simp only at h1 h2
      rw [h1, h2]
    rw [e]
    exact hend vals w hg.later fun i hi => (hv i ops[i] (by rw [List.getElem?_take, if_pos hi]; simp)).1
  have step : ∀ (listed : Array Bool) (a : Act) (w : World) (i : Nat) (K : Act → World → Prop), Good ops a0 w0 L F listed a w → i ∈ Region.ready .any ops.toArray listed → i < m →
      (∀ a' w', Good ops a0 w0 L F (listed.setIfInBounds i true) a' w' → K a' w') → wpOp P ops.toArray Q i K a w := by
    intro listed a w i K hg hmem him hK
    obtain ⟨o, hi, hnot, hready⟩ := ready_mem hmem hg.lsize
    have hob1 := Obls.at (ops.take m) 0 hob i o (by rw [List.getElem?_take, if_pos him]; exact hi)
    rw [Nat.zero_add] at hob1
    have hf := factsOk_at hok hi
    have hpl : Plain a.eval := ⟨fun _ => rfl, fun _ => rfl, fun _ => rfl⟩
    have hdep : ∀ j, waitsFor o j = true → ∃ v, F j v w := by
      intro j hj
      have hlj := hready j hj
      have hjl : j < ops.length := by
        rcases Nat.lt_or_ge j ops.length with h | h
        · exact h
        · simp [Array.getD, hg.lsize, Nat.not_lt.2 h] at hlj
      have := hg.left j ops[j] (by simp [hjl]) hlj
      unfold Left at this
      cases hd : ops[j].dst with
      | none => rw [hd] at this; exact this
      | some t => rw [hd] at this; exact ⟨_, this⟩
    have hob2 := hob1 a.eval w hpl hg.later (hg.known hok hi hnot hready) hdep
    have yields : Yield P o a.eval w (fun v w' => L w w' ∧ F i v w') → o.wp P a w K Q := fun hy =>
      hy.wp fun v w' hh => hK _ _ (hg.put hok htr hst hi hready hh.1 hh.2)
    have skips : F i undef w → K (a.put o.dst undef) w := fun hu => hK _ _ (hg.put hok htr hst hi hready (hrf _) hu)
    unfold wpOp
    rw [show ops.toArray[i]? = some o from by simpa using hi]
    simp only []
    cases hgd : o.guard with
    | none =>
      rw [hgd] at hob2
      have : Region.wanted o (yielded ops.toArray a.tmps) = true := by simp [Region.wanted, hgd]
      rw [if_pos this]
      exact .inl (yields hob2)
    | some gw =>
      obtain ⟨g, want⟩ := gw
      rw [hgd] at hob2
      simp only [factsOkAt, hgd, Bool.and_eq_true] at hf
      have hwg := hf.2.1
      have hlg := hready g hwg
      have hgl : g < ops.length := by
        rcases Nat.lt_or_ge g ops.length with h | h
        · exact h
        · simp [Array.getD, hg.lsize, Nat.not_lt.2 h] at hlg
      have hog : ops[g]? = some ops[g] := by simp [hgl]
      have hds := hf.2.2
      rw [hog] at hds
      simp only [] at hds
      obtain ⟨t, ht⟩ := Option.isSome_iff_exists.1 hds
      have hleft := hg.left g ops[g] hog hlg
      unfold Left at hleft
      rw [ht] at hleft
      simp only [] at hleft
      have hy : yielded ops.toArray a.tmps g = match a.tmps.getD t undef with | .bool b => some b | _ => none := by
        unfold yielded
        have : ((ops.toArray[g]?).bind (·.dst)) = some t := by simp [hgl, ht]
        rw [this]
        simp only [Option.bind_some, Array.getD_eq_getD_getElem?]
        cases hx : a.tmps[t]? with
        | none => rfl
        | some x => cases x <;> rfl
      have hw : Region.wanted o (yielded ops.toArray a.tmps) = (yielded ops.toArray a.tmps g == some want) := by simp [Region.wanted, hgd]
      rw [hw, hy]
      by_cases hx : a.tmps.getD t undef = .bool want
      · rw [hx]
        simp only [beq_self_eq_true, if_true]
        exact .inl (yields (hob2.1 _ hleft hx))
      · have hne : ((match a.tmps.getD t undef with | .bool b => some b | _ => none) == some want) = false := by
          generalize a.tmps.getD t undef = x at hx
          cases x <;> try rfl
          rename_i b
          have hb : b ≠ want := fun e => hx (by rw [e])
          simpa using hb
        rw [hne]
        simp only [Bool.false_eq_true, if_false]
        exact skips (hob2.2 _ hleft hx)
  have main : ∀ (fuel : Nat) (listed : Array Bool) (a : Act) (w : World), (listed.toList.filter (· == false)).length ≤ fuel → Good ops a0 w0 L F listed a w → (∀ i, m ≤ i → listed.getD i false = false) → wpAny P .any ops.toArray Q fuel listed a w := by
    intro fuel
    have hfull : ∀ (listed : Array Bool) (a : Act) (w : World) (i : Nat), Good ops a0 w0 L F listed a w → (∀ i, m ≤ i → listed.getD i false = false) → i ∈ Region.ready .any ops.toArray listed → m ≤ i → ∀ j, j < ops.length → (listed.getD j false = true ↔ j < m) := by
      intro listed a w i hg hno hmem him j hj
      obtain ⟨o, hi, hnot, hready⟩ := ready_mem hmem hg.lsize
      have hlt := (List.getElem?_eq_some_iff.1 hi).1
      constructor
      · intro h
        rcases Nat.lt_or_ge j m with h' | h'
        · exact h'
        · rw [hno j h'] at h; cases h
      · intro h
        exact reach_listed hg.closed _ i j o hi hready (tailOk_at ht hlt him (by omega))
    induction fuel with
    | zero =>
      intro listed a w hn hg hno
      exfalso
      have h0 : listed.toList.filter (· == false) = [] := List.eq_nil_of_length_eq_zero (by omega)
      rw [List.filter_eq_nil_iff] at h0
      have hil : m < listed.size := by rw [hg.lsize]; exact hml
      have h1 := h0 listed[m] (by simp)
      have h2 := hno m (Nat.le_refl _)
      simp [Array.getD, hil] at h2
      exact h1 (by simp [h2])
    | succ fuel ih =>
      intro listed a w hn hg hno
      by_cases hful : ∃ i, i ∈ Region.ready .any ops.toArray listed ∧ m ≤ i
      · obtain ⟨i, hmem, him⟩ := hful
        have hall := hfull listed a w i hg hno hmem him
        refine tail_any m hok ht (fuel + 1) m listed a w ?_ (Nat.le_refl _) (Nat.le_of_lt hml) hg.lsize hall (finish listed a w hg hall)
        have hcount : ops.length - m ≤ (listed.toList.filter (· == false)).length := by
          have h3 : listed.toList.drop m = List.replicate (ops.length - m) false := by
            apply List.ext_getElem
            · simp [hg.lsize]
            · intro q h1 h2
              simp only [List.getElem_drop, List.getElem_replicate]
              have hq : m + q < listed.size := by simp at h1; omega
              have := hno (m + q) (by omega)
              simpa [Array.getD, hq] using this
          have h4 : listed.toList = listed.toList.take m ++ listed.toList.drop m := (List.take_append_drop _ _).symm
          rw [h4, List.filter_append, List.length_append, h3]
          simp
        omega
      · have hlow : ∀ i, i ∈ Region.ready .any ops.toArray listed → i < m := fun i hi => by
          rcases Nat.lt_or_ge i m with h | h
          · exact h
          · exact absurd ⟨i, hi, h⟩ hful
        refine ⟨fun hr => ?_, fun i hmem => ?_⟩
        · have := ready_nil hok hr hg.lsize m hml
          rw [hno m (Nat.le_refl _)] at this
          cases this
        · refine step listed a w i _ hg hmem (hlow i hmem) fun a' w' hg' => ih _ _ _ ?_ hg' ?_
          · obtain ⟨o, hi, hnot, _⟩ := ready_mem hmem hg.lsize
            have hil : i < listed.toList.length := by rw [Array.length_toList, hg.lsize]; exact (List.getElem?_eq_some_iff.1 hi).1
            have hb : listed.toList[i] = false := by
              have : i < listed.size := by simpa using hil
              simpa [Array.getD, this] using hnot
            rw [Array.toList_setIfInBounds]
            have key : ∀ (l : List Bool) (i : Nat) (h : i < l.length), l[i] = false → ((l.set i true).filter (· == false)).length + 1 = (l.filter (· == false)).length := by
              intro l
              induction l with
              | nil => intro i h; simp at h
              | cons x l ihl =>
                intro i h hx
                cases i with
                | zero => simp at hx; subst hx; simp
                | succ i =>
                  have := ihl i (by simpa using h) (by simpa using hx)
                  cases x <;> simp only [List.set_cons_succ, List.filter_cons, beq_self_eq_true, if_true, List.length_cons] <;> first | omega | (simp; simpa using this)
            have := key _ i hil hb
            omega
          · intro q hq
            obtain ⟨o, hi, _, _⟩ := ready_mem hmem hg.lsize
            rw [getD_set _ _ _ (by rw [hg.lsize]; exact (List.getElem?_eq_some_iff.1 hi).1), if_neg (by have := hlow i hmem; omega)]
            exact hno q hq
  refine main _ _ _ _ ?_ ⟨hdr, rfl, rfl, by simp, ?_, ?_, fun _ _ => rfl⟩ ?_
  · simp only [List.size_toArray]
    simp
  · intro j o hj hl
    simp [Array.getD] at hl
  · intro j o hj hl
    simp [Array.getD] at hl
  · intro i _
    simp [Array.getD]
end
/- A region that draws its order, by facts, with operations among it that turn what others read: the turning ones are marked, and wait for one another; how many of them are behind us tells the state. No program. -/
/-- One operation more is behind us. -/
def upd (ls : Nat → Bool) (i : Nat) : Nat → Bool := fun j => if i = j then true else ls j
/-- How many of the marked ones are. -/
def stage (marks : List Nat) (ls : Nat → Bool) : Nat := (marks.filter ls).length
theorem stage_other {marks : List Nat} {ls : Nat → Bool} {i : Nat} (h : i ∉ marks) : stage marks (upd ls i) = stage marks ls := by
  unfold stage
  congr 1
  refine List.filter_congr fun x hx => ?_
  unfold upd
  have hne : i ≠ x := by rintro rfl; exact h hx
  rw [if_neg hne]

/-- What is known of what is behind us. -/
structure Behind (ops : List Oper) (o : Oper) (i : Nat) (ls : Nat → Bool) : Prop where
  notyet : ls i = false
  ready : ∀ j, waitsFor o j = true → ls j = true
  closed : ∀ j p, ops[j]? = some p → ls j = true → ∀ k, waitsFor p k = true → ls k = true

def Obl2 (P : Program) (ops : List Oper) (a0 : Act) (w0 : World) (L M : World → World → Prop) (F : Nat → Value → World → Prop) (marks : List Nat) (S : Nat → World → Prop) (i : Nat) (o : Oper) : Prop :=
  ∀ (ev : Operand → Value) (w : World) (ls : Nat → Bool), Plain ev → M w0 w → S (stage marks ls) w → Behind ops o i ls → (∀ t, t ∈ opTmps o → Known ops a0 F o t (ev (.tmp t)) w) → (∀ j, waitsFor o j = true → ∃ v, F j v w) →
    if i ∈ marks then
      match o.guard with
      | none => Yield P o ev w (fun v w' => M w w' ∧ F i v w' ∧ S (stage marks (upd ls i)) w')
      | some (g, want) => (∀ x, F g x w → x = .bool want → Yield P o ev w (fun v w' => M w w' ∧ F i v w' ∧ S (stage marks (upd ls i)) w')) ∧ (∀ x, F g x w → x ≠ .bool want → F i undef w ∧ S (stage marks (upd ls i)) w)
    else
      match o.guard with
      | none => Yield P o ev w (fun v w' => L w w' ∧ F i v w')
      | some (g, want) => (∀ x, F g x w → x = .bool want → Yield P o ev w (fun v w' => L w w' ∧ F i v w')) ∧ (∀ x, F g x w → x ≠ .bool want → F i undef w)

def Obls2 (P : Program) (ops : List Oper) (a0 : Act) (w0 : World) (L M : World → World → Prop) (F : Nat → Value → World → Prop) (marks : List Nat) (S : Nat → World → Prop) : Nat → List Oper → Prop
  | _, [] => True
  | k, o :: rest => Obl2 P ops a0 w0 L M F marks S k o ∧ Obls2 P ops a0 w0 L M F marks S (k + 1) rest
section
variable {P : Program} {ops : List Oper} {a0 : Act} {w0 : World} {L M : World → World → Prop} {F : Nat → Value → World → Prop} {marks : List Nat} {S : Nat → World → Prop} {Q : Exit → Act → World → Prop}
theorem Obls2.at : ∀ (l : List Oper) (k : Nat), Obls2 P ops a0 w0 L M F marks S k l → ∀ i o, l[i]? = some o → Obl2 P ops a0 w0 L M F marks S (k + i) o := by
  intro l
  induction l with
  | nil => intro k _ i o h; simp at h
  | cons x l ih =>
    intro k h i o hi
    cases i with
    | zero => simp at hi; subst hi; exact h.1
    | succ i =>
      have := ih (k + 1) h.2 i o (by simpa using hi)
      rwa [Nat.add_assoc, Nat.add_comm 1 i] at this
theorem Obls2.cons {k : Nat} {o : Oper} {rest : List Oper} (h : Obl2 P ops a0 w0 L M F marks S k o) (hr : Obls2 P ops a0 w0 L M F marks S (k + 1) rest) : Obls2 P ops a0 w0 L M F marks S k (o :: rest) := ⟨h, hr⟩
theorem Obls2.nil {k : Nat} : Obls2 P ops a0 w0 L M F marks S k [] := trivial

theorem facts_any2 (hok : factsOk ops a0.tmps.size = true) (htr : ∀ a b c, M a b → M b c → M a c) (hrf : ∀ a, L a a) (hLM : ∀ a b, L a b → M a b) (hSL : ∀ k a b, L a b → S k a → S k b) (hst : ∀ i v w w', F i v w → M w w' → F i v w') (hob : Obls2 P ops a0 w0 L M F marks S 0 ops)
    (hend : ∀ listed a w, Good ops a0 w0 M F listed a w → S (stage marks (fun j => listed.getD j false)) w → (∀ i, i < ops.length → listed.getD i false = true) → Q .normal a w) :
    ∀ (fuel : Nat) (listed : Array Bool) (a : Act) (w : World), (listed.toList.filter (· == false)).length ≤ fuel → Good ops a0 w0 M F listed a w → S (stage marks (fun j => listed.getD j false)) w → wpAny P .any ops.toArray Q fuel listed a w := by
  intro fuel
  have step : ∀ (listed : Array Bool) (a : Act) (w : World) (i : Nat) (K : Act → World → Prop), Good ops a0 w0 M F listed a w → S (stage marks (fun j => listed.getD j false)) w → i ∈ Region.ready .any ops.toArray listed →
      (∀ a' w', Good ops a0 w0 M F (listed.setIfInBounds i true) a' w' → S (stage marks (fun j => (listed.setIfInBounds i true).getD j false)) w' → K a' w') → wpOp P ops.toArray Q i K a w := by
    intro listed a w i K hg hS hm hK
    obtain ⟨o, hi, hnot, hready⟩ := ready_mem hm hg.lsize
    have hob1 := Obls2.at ops 0 hob i o hi
    rw [Nat.zero_add] at hob1
    have hf := factsOk_at hok hi
    have hpl : Plain a.eval := ⟨fun _ => rfl, fun _ => rfl, fun _ => rfl⟩
    have hdep : ∀ j, waitsFor o j = true → ∃ v, F j v w := by
      intro j hj
      have hlj := hready j hj
      have hjl : j < ops.length := by
        rcases Nat.lt_or_ge j ops.length with h | h
        · exact h
        · simp [Array.getD, hg.lsize, Nat.not_lt.2 h] at hlj
      have := hg.left j ops[j] (by simp [hjl]) hlj
      unfold Left at this
      cases hd : ops[j].dst with
      | none => rw [hd] at this; exact this
      | some t => rw [hd] at this; exact ⟨_, this⟩
    have hlt : i < listed.size := by rw [hg.lsize]; exact (List.getElem?_eq_some_iff.1 hi).1
    have hupd : (fun j => (listed.setIfInBounds i true).getD j false) = upd (fun j => listed.getD j false) i := by
      funext j
      unfold upd
      exact getD_set _ _ _ hlt
    have hob2 := hob1 a.eval w (fun j => listed.getD j false) hpl hg.later hS ⟨hnot, hready, fun j p hj hl k hk => hg.closed j p hj hl k hk⟩ (hg.known hok hi hnot hready) hdep
    have yields2 : Yield P o a.eval w (fun v w' => M w w' ∧ F i v w' ∧ S (stage marks (upd (fun j => listed.getD j false) i)) w') → o.wp P a w K Q := fun hy =>
      hy.wp fun v w' hh => hK _ _ (hg.put hok htr hst hi hready hh.1 hh.2.1) (by rw [hupd]; exact hh.2.2)
    have skips2 : F i undef w → S (stage marks (upd (fun j => listed.getD j false) i)) w → K (a.put o.dst undef) w := fun hu hs => hK _ _ (hg.put hok htr hst hi hready (hLM _ _ (hrf _)) hu) (by rw [hupd]; exact hs)
    have yields1 : i ∉ marks → Yield P o a.eval w (fun v w' => L w w' ∧ F i v w') → o.wp P a w K Q := fun hm hy =>
      hy.wp fun v w' hh => hK _ _ (hg.put hok htr hst hi hready (hLM _ _ hh.1) hh.2) (by rw [hupd, stage_other hm]; exact hSL _ _ _ hh.1 hS)
    have skips1 : i ∉ marks → F i undef w → K (a.put o.dst undef) w := fun hm hu => skips2 hu (by rw [stage_other hm]; exact hS)
    unfold wpOp
    rw [show ops.toArray[i]? = some o from by simpa using hi]
    simp only []
    by_cases hmk : i ∈ marks
    · rw [if_pos hmk] at hob2
      cases hgd : o.guard with
      | none =>
        rw [hgd] at hob2
        have : Region.wanted o (yielded ops.toArray a.tmps) = true := by simp [Region.wanted, hgd]
        rw [if_pos this]
        exact .inl (yields2 hob2)
      | some gw =>
        obtain ⟨g, want⟩ := gw
        rw [hgd] at hob2
        simp only [factsOkAt, hgd, Bool.and_eq_true] at hf
        have hwg := hf.2.1
        have hlg := hready g hwg
        have hgl : g < ops.length := by
          rcases Nat.lt_or_ge g ops.length with h | h
          · exact h
          · simp [Array.getD, hg.lsize, Nat.not_lt.2 h] at hlg
        have hog : ops[g]? = some ops[g] := by simp [hgl]
        have hds := hf.2.2
        rw [hog] at hds
        simp only [] at hds
        obtain ⟨t, ht⟩ := Option.isSome_iff_exists.1 hds
        have hleft := hg.left g ops[g] hog hlg
        unfold Left at hleft
        rw [ht] at hleft
        simp only [] at hleft
        have hy : yielded ops.toArray a.tmps g = match a.tmps.getD t undef with | .bool b => some b | _ => none := by
          unfold yielded
          have : ((ops.toArray[g]?).bind (·.dst)) = some t := by simp [hgl, ht]
          rw [this]
          simp only [Option.bind_some, Array.getD_eq_getD_getElem?]
          cases hx : a.tmps[t]? with
          | none => rfl
          | some x => cases x <;> rfl
        have hw : Region.wanted o (yielded ops.toArray a.tmps) = (yielded ops.toArray a.tmps g == some want) := by simp [Region.wanted, hgd]
        rw [hw, hy]
        by_cases hx : a.tmps.getD t undef = .bool want
        · rw [hx]
          simp only [beq_self_eq_true, if_true]
          exact .inl (yields2 (hob2.1 _ hleft hx))
        · have hne : ((match a.tmps.getD t undef with | .bool b => some b | _ => none) == some want) = false := by
            generalize a.tmps.getD t undef = x at hx
            cases x <;> try rfl
            rename_i b
            have hb : b ≠ want := fun e => hx (by rw [e])
            simpa using hb
          rw [hne]
          simp only [Bool.false_eq_true, if_false]
          exact skips2 (hob2.2 _ hleft hx).1 (hob2.2 _ hleft hx).2
    · rw [if_neg hmk] at hob2
      cases hgd : o.guard with
      | none =>
        rw [hgd] at hob2
        have : Region.wanted o (yielded ops.toArray a.tmps) = true := by simp [Region.wanted, hgd]
        rw [if_pos this]
        exact .inl (yields1 hmk hob2)
      | some gw =>
        obtain ⟨g, want⟩ := gw
        rw [hgd] at hob2
        simp only [factsOkAt, hgd, Bool.and_eq_true] at hf
        have hwg := hf.2.1
        have hlg := hready g hwg
        have hgl : g < ops.length := by
          rcases Nat.lt_or_ge g ops.length with h | h
          · exact h
          · simp [Array.getD, hg.lsize, Nat.not_lt.2 h] at hlg
        have hog : ops[g]? = some ops[g] := by simp [hgl]
        have hds := hf.2.2
        rw [hog] at hds
        simp only [] at hds
        obtain ⟨t, ht⟩ := Option.isSome_iff_exists.1 hds
        have hleft := hg.left g ops[g] hog hlg
        unfold Left at hleft
        rw [ht] at hleft
        simp only [] at hleft
        have hy : yielded ops.toArray a.tmps g = match a.tmps.getD t undef with | .bool b => some b | _ => none := by
          unfold yielded
          have : ((ops.toArray[g]?).bind (·.dst)) = some t := by simp [hgl, ht]
          rw [this]
          simp only [Option.bind_some, Array.getD_eq_getD_getElem?]
          cases hx : a.tmps[t]? with
          | none => rfl
          | some x => cases x <;> rfl
        have hw : Region.wanted o (yielded ops.toArray a.tmps) = (yielded ops.toArray a.tmps g == some want) := by simp [Region.wanted, hgd]
        rw [hw, hy]
        by_cases hx : a.tmps.getD t undef = .bool want
        · rw [hx]
          simp only [beq_self_eq_true, if_true]
          exact .inl (yields1 hmk (hob2.1 _ hleft hx))
        · have hne : ((match a.tmps.getD t undef with | .bool b => some b | _ => none) == some want) = false := by
            generalize a.tmps.getD t undef = x at hx
            cases x <;> try rfl
            rename_i b
            have hb : b ≠ want := fun e => hx (by rw [e])
            simpa using hb
          rw [hne]
          simp only [Bool.false_eq_true, if_false]
          exact skips1 hmk (hob2.2 _ hleft hx)
  induction fuel with
  | zero =>
    intro listed a w hn hg hS
    have hall : ∀ i, i < ops.length → listed.getD i false = true := by
      intro i hi
      have h0 : listed.toList.filter (· == false) = [] := List.eq_nil_of_length_eq_zero (by omega)
      rw [List.filter_eq_nil_iff] at h0
      have hil : i < listed.size := by rw [hg.lsize]; exact hi
      have := h0 listed[i] (by simp)
      simpa [Array.getD, hil] using this
    refine ⟨?_, hend _ _ _ hg hS hall⟩
    rw [List.eq_nil_iff_forall_not_mem]
    intro i hm
    obtain ⟨o, hi, hnot, _⟩ := ready_mem hm hg.lsize
    rw [hall i (List.getElem?_eq_some_iff.1 hi).1] at hnot
    exact absurd hnot (by simp)
  | succ fuel ih =>
    intro listed a w hn hg hS
    refine ⟨fun hr => hend _ _ _ hg hS (ready_nil hok hr hg.lsize), fun i hm => ?_⟩
    refine step listed a w i _ hg hS hm fun a' w' hg' hS' => ih _ _ _ ?_ hg' hS'
    obtain ⟨o, hi, hnot, _⟩ := ready_mem hm hg.lsize
    have hil : i < listed.toList.length := by rw [Array.length_toList, hg.lsize]; exact (List.getElem?_eq_some_iff.1 hi).1
    have hb : listed.toList[i] = false := by
      have : i < listed.size := by simpa using hil
      simpa [Array.getD, this] using hnot
    rw [Array.toList_setIfInBounds]
    have key : ∀ (l : List Bool) (i : Nat) (h : i < l.length), l[i] = false → ((l.set i true).filter (· == false)).length + 1 = (l.filter (· == false)).length := by
      intro l
      induction l with
      | nil => intro i h; simp at h
      | cons x l ihl =>
        intro i h hx
        cases i with
        | zero => simp at hx; subst hx; simp
        | succ i =>
          have := ihl i (by simpa using h) (by simpa using hx)
          cases x <;> simp only [List.set_cons_succ, List.filter_cons, beq_self_eq_true, if_true, List.length_cons] <;> first | omega | (simp; simpa using this)
    have := key _ i hil hb
    omega

/-- THE LAW. -/
theorem any_marked (L M : World → World → Prop) (F : Nat → Value → World → Prop) (marks : List Nat) (S : Nat → World → Prop) (hok : factsOk ops a0.tmps.size = true)
    (htr : ∀ a b c, M a b → M b c → M a c) (hrf : ∀ a, L a a) (hLM : ∀ a b, L a b → M a b) (hSL : ∀ k a b, L a b → S k a → S k b) (hdr : M w0 w0.drew) (h0 : S 0 w0.drew) (hst : ∀ i v w w', F i v w → M w w' → F i v w') (hob : Obls2 P ops a0 w0 L M F marks S 0 ops)
    (hmarks : ∀ i, i ∈ marks → i < ops.length)
    (hend : ∀ (vals : Nat → Value) w, M w0 w → S marks.length w → (∀ i, i < ops.length → F i (vals i) w) → Q .normal (putAll vals 0 ops a0) w) : wpAny P .any ops.toArray Q ops.toArray.size (Array.replicate ops.toArray.size false) a0 { w0 with drawn := w0.drawn + 1 } := by
  refine facts_any2 (a0 := a0) (w0 := w0) (L := L) (M := M) (F := F) (marks := marks) (S := S) hok htr hrf hLM hSL hst hob ?_ _ _ _ _ ?_ ?_ ?_
  · intro listed a w hg hS hall
    have hval : ∃ vals : Nat → Value, ∀ i o, ops[i]? = some o → F i (vals i) w ∧ (∀ t, o.dst = some t → vals i = a.tmps.getD t undef) := by
      have : ∀ i, ∃ v, ∀ o, ops[i]? = some o → F i v w ∧ (∀ t, o.dst = some t → v = a.tmps.getD t undef) := by
        intro i
        cases hi : ops[i]? with
        | none => exact ⟨undef, fun o h => by simp at h⟩
        | some o =>
          have hl := hg.left i o hi (hall i (List.getElem?_eq_some_iff.1 hi).1)
          unfold Left at hl
          cases hd : o.dst with
          | none => rw [hd] at hl; obtain ⟨v, hv⟩ := hl; exact ⟨v, fun p hp => by cases hp; exact ⟨hv, fun t h => by rw [hd] at h; cases h⟩⟩
          | some t => rw [hd] at hl; exact ⟨_, fun p hp => by cases hp; exact ⟨hl, fun t' h => by rw [hd] at h; cases h; rfl⟩⟩
      exact ⟨fun i => (this i).choose, fun i => (this i).choose_spec⟩
    obtain ⟨vals, hv⟩ := hval
    have e : a = putAll vals 0 ops a0 := by
      have h1 : a.tmps = (putAll vals 0 ops a0).tmps := by
        apply Array.ext_getElem?
        intro t
        have hsz : a.tmps.size = (putAll vals 0 ops a0).tmps.size := by rw [putAll_size, hg.size]
        have hgd : a.tmps.getD t undef = (putAll vals 0 ops a0).tmps.getD t undef := by
          rcases putAll_getD vals t ops 0 a0 (fun o ho d hd => by
            obtain ⟨i, hi⟩ := List.getElem?_of_mem ho
            have hf := factsOk_at hok hi
            simp only [factsOkAt, hd, Bool.and_eq_true, decide_eq_true_eq] at hf
            exact hf.1.1.1.2.2) with ⟨h1, h2⟩ | ⟨i, o, h1, h2, h3⟩
          · rw [h1]; exact hg.old t fun j p hj _ => h2 j p hj
          · rw [h3, Nat.zero_add]; exact ((hv i o h1).2 t h2).symm
        by_cases ht : t < a.tmps.size
        · have ht' : t < (putAll vals 0 ops a0).tmps.size := hsz ▸ ht
          rw [Array.getElem?_eq_getElem ht, Array.getElem?_eq_getElem ht']
          simpa [Array.getD, ht, ht'] using hgd
        · rw [Array.getElem?_eq_none (by omega), Array.getElem?_eq_none (by omega)]
      have h2 : a.defers = (putAll vals 0 ops a0).defers := by rw [putAll_defers, hg.defers]
      cases a
      generalize putAll vals 0 ops a0 = b at *
      cases b
      simp only at h1 h2
      rw [h1, h2]
    rw [e]
    have hfull : stage marks (fun j => listed.getD j false) = marks.length := by
      unfold stage
      rw [List.filter_eq_self.2 (fun i hi => hall i (hmarks i hi))]
    rw [hfull] at hS
    exact hend vals w hg.later hS fun i hi => (hv i ops[i] (by simp [hi])).1
  · simp only [List.size_toArray]
    simp
  · refine ⟨hdr, rfl, rfl, by simp, ?_, ?_, fun _ _ => rfl⟩
    · intro j o hj hl
      simp [Array.getD] at hl
    · intro j o hj hl
      simp [Array.getD] at hl
  · have hz : stage marks (fun j => (Array.replicate ops.toArray.size false).getD j false) = 0 := by
      unfold stage
      rw [List.length_eq_zero_iff, List.filter_eq_nil_iff]
      intro i _
      simp [Array.getD]
    rw [hz]
    exact h0
theorem wp_region_marked {id : Nat} (hm : P.follows .mixedOrders = true) (L M : World → World → Prop) (F : Nat → Value → World → Prop) (marks : List Nat) (S : Nat → World → Prop) (hok : factsOk ops a0.tmps.size = true)
    (htr : ∀ a b c, M a b → M b c → M a c) (hrf : ∀ a, L a a) (hLM : ∀ a b, L a b → M a b) (hSL : ∀ k a b, L a b → S k a → S k b) (hdr : L w0 w0.drew) (h0 : S 0 w0) (hst : ∀ i v w w', F i v w → M w w' → F i v w') (hob : Obls2 P ops a0 w0 L M F marks S 0 ops)
    (hmarks : ∀ i, i ∈ marks → i < ops.length)
    (hend : ∀ (vals : Nat → Value) w, M w0 w → S marks.length w → (∀ i, i < ops.length → F i (vals i) w) → Q .normal (putAll vals 0 ops a0) w) : (Code.region id ops.toArray true).wp P Q a0 w0 :=
  wp_region_any hm (any_marked L M F marks S hok htr hrf hLM hSL (hLM _ _ hdr) (hSL _ _ _ hdr h0) hst hob hmarks hend)
end
/- A region that draws its order, with turning operations among its first ones, and last ones that wait for all. No program. -/
section
variable {P : Program} {ops : List Oper} {a0 : Act} {w0 : World} {L M : World → World → Prop} {F : Nat → Value → World → Prop} {marks : List Nat} {S : Nat → World → Prop} {Q : Exit → Act → World → Prop}
end
/- A region that draws its order, by facts in two halves: one operation turns them, and quiet ones may run on either side of it. No program. -/
section
variable {P : Program} {ops : List Oper} {a0 : Act} {w0 : World} {L : World → World → Prop} {F : Nat → Value → World → Prop} {Q : Exit → Act → World → Prop}
end
/-- What is to be shown of those that are left. -/
def RestObl (P : Program) (ops : List Oper) (a0 : Act) (w0 : World) (F : Nat → Value → World → Prop) : List Nat → Prop
  | [] => True
  | i :: l => (match ops[i]? with | some o => Obl P ops a0 w0 (fun a b => a = b) F i o | none => True) ∧ RestObl P ops a0 w0 F l
theorem RestObl.at {P : Program} {ops : List Oper} {a0 : Act} {w0 : World} {F : Nat → Value → World → Prop} : ∀ {l : List Nat}, RestObl P ops a0 w0 F l → ∀ i o, ops[i]? = some o → i ∈ l → Obl P ops a0 w0 (fun a b => a = b) F i o
  | [], _, _, _, _, h => by cases h
  | j :: l, hh, i, o, hi, h => by
    rcases List.mem_cons.1 h with e | h
    · subst e
      have := hh.1
      rw [hi] at this
      exact this
    · exact RestObl.at hh.2 i o hi h
section
variable {P : Program} {ops : List Oper} {a0 : Act} {w0 : World} {L M : World → World → Prop} {F F2 : Nat → Value → World → Prop} {marks : List Nat} {S : Nat → World → Prop} {R : World → Prop} {Q : Exit → Act → World → Prop}
end
set_option maxRecDepth 100000
/- append of elements of several cells, in a drawn region; where the new row lies. No program. -/
theorem run_appN_at {P : Program} {w : World} {t ty e : TypeId} {z : Value} {size bytes : Nat} (E : ElemN P t e z size bytes) {base : Nat} {v u : Value} {n m : Nat} {xs ys : List Value} (hown : w.ownsRow base e size v n xs) (hu : SlN size w u m ys) (hm : 0 < m) (h1 : ∀ y ∈ ys, y.oneCell' = true) (hsz : n + m ≤ maxLen) (hby : (n + m) * bytes ≤ 140737488355328) (hb : base ≤ w.heap.size) :
    ∃ v' w', (Builtin.append_ #[t, t] ty #[v, u]).run P w = .ok v' w' ∧ w'.ownsRow base e size v' (n + m) (xs ++ ys) ∧ w.grownBy w' v.ownBlock ∧ (v'.ownBlock = v.ownBlock ∨ v'.ownBlock = some w.heap.size) := by
  obtain ⟨i, hi, hz, h2, h3⟩ := info_parts E.info
  obtain ⟨a, cap, rfl, hc, hmx, hn, hlen, hcell⟩ := hu
  obtain ⟨b, off, rfl, _⟩ := hcell 0 (by rw [hlen]; exact Nat.mul_pos hm E.pos)
  obtain ⟨v', w', hr, ho, hg, _, hat⟩ := run_append_own_at (P := P) w base t ty e i z size bytes E.slice hi hz h2 h3 E.cells E.pos v n xs hown ⟨b, off, none⟩ m cap ys hlen
    (fun j y hj => by
      obtain ⟨hj1, rfl⟩ := List.getElem?_eq_some_iff.1 hj
      obtain ⟨b', off', e', hc'⟩ := hcell j hj1
      injection e' with e'
      injection e' with e1 e2
      subst e1 e2
      rw [Addr.add_lit]; exact hc') h1 hsz hby hb
  exact ⟨v', w', hr, ho, hg, hat⟩
theorem SlN.from {size : Nat} {w : World} {a : Option Addr} {n cap : Nat} {xs : List Value} (h : SlN size w (.slice a n cap) n xs) (T : Nat) (hT : T ≤ n) (hs : 0 < size) : SlN size w (.slice (if cap = T then a else a.map (·.add (T * size))) (n - T) (cap - T)) (n - T) (xs.drop (T * size)) := by
  obtain ⟨a', cap', e, h1, h2, h3, h4, h5⟩ := h
  injection e with e1 e2 e3
  subst e1 e3
  have hm : (n - T) * size = n * size - T * size := Nat.sub_mul _ _ _
  refine ⟨_, cap - T, rfl, by omega, by omega, fun hn => ?_, by rw [List.length_drop, h4, hm], fun j hj => ?_⟩
  · by_cases hc : cap = T
    · omega
    · rw [if_neg hc] at hn
      cases a with
      | none => have := h3 rfl; omega
      | some x => cases hn
  · rw [List.length_drop] at hj
    obtain ⟨b, off, rfl, hx⟩ := h5 (T * size + j) (by omega)
    have hc : ¬ cap = T := fun e => by
      have : n = T := by omega
      subst this
      rw [h4] at hj
      omega
    rw [if_neg hc]
    refine ⟨b, off + T * size, by rw [Option.map_some, Addr.add_lit], ?_⟩
    rw [show off + T * size + j = off + (T * size + j) by omega, hx]
    simp
end Go.Proofs.Ytkpcmedmiiohnaa
