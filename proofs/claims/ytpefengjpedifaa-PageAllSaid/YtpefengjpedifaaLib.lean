/-
  What values hold in memory, as lists; laws on append over them; no program.
-/
import Derived.WalkKit
import Derived.WalkSpells
import Derived.WalkLawsBesides
import Derived.Lib.Hide
import Derived.Laws.AppendOwnNone
namespace Go.Proofs.Ytpefengjpedifaa
open Go.RowKit

/-- All that was there is as it was; there may be more. -/
def Ext (w w' : World) : Prop := Below w.heap.size w w'
theorem Ext.refl (w : World) : Ext w w := Below.refl _ _
theorem Ext.trans {a b c : World} (h : Ext a b) (k : Ext b c) : Ext a c := Below.trans h (Below.mono k h.size)
theorem Ext.drew (w : World) : Ext w w.drew := (Below.refl _ _).drew
theorem Ext.alloc (w : World) (o : Obj) : Ext w (w.alloc o) := (Below.refl _ _).alloc (Nat.le_refl _) _
theorem Ext.below {w w' : World} (h : Ext w w') : Below w.heap.size w w' := h

/-- All that was there, but one block, is as it was; there may be more. -/
structure But (p : Nat) (w w' : World) : Prop where
  os : w'.os = w.os
  tape : w'.tape = w.tape
  output : w'.output = w.output
  size : w.heap.size ≤ w'.heap.size
  block : ∀ k, k < w.heap.size → k ≠ p → w'.heap[k]? = w.heap[k]?
theorem But.refl (p : Nat) (w : World) : But p w w := ⟨rfl, rfl, rfl, Nat.le_refl _, fun _ _ _ => rfl⟩
theorem But.trans {p : Nat} {a b c : World} (h : But p a b) (k : But p b c) : But p a c :=
  ⟨k.os.trans h.os, k.tape.trans h.tape, k.output.trans h.output, Nat.le_trans h.size k.size, fun i hi hp => (k.block i (Nat.lt_of_lt_of_le hi h.size) hp).trans (h.block i hi hp)⟩
theorem Ext.but {w w' : World} (h : Ext w w') (p : Nat) : But p w w' := ⟨h.os, h.tape, h.output, h.size, fun k hk _ => h.block k hk⟩
theorem But.drew (p : Nat) {a w : World} (h : But p a w) : But p a w.drew := h.trans ⟨rfl, rfl, rfl, Nat.le_refl _, fun _ _ _ => rfl⟩
theorem But.setCell {p : Nat} {a w : World} (h : But p a w) (o : Nat) (s : Option Nat) (v : Value) : But p a (w.setCell ⟨p, o, s⟩ v) :=
  h.trans ⟨rfl, rfl, rfl, by simp [World.setCell], fun k _ hk => Below.heap_setCell _ _ _ _ (by simpa using hk)⟩
theorem But.alloc {p : Nat} {a w : World} (h : But p a w) (o : Obj) : But p a (w.alloc o) := h.trans (Ext.but (Ext.alloc w o) p)
theorem But.grown {p : Nat} {w a b : World} (h : But p w a) {row : Option Nat} (hg : a.grownBy b row) (hr : ∀ k, row = some k → w.heap.size ≤ k) : But p w b :=
  ⟨hg.os.trans h.os, hg.tape.trans h.tape, hg.output.trans h.output, Nat.le_trans h.size hg.size, fun k hk hp => by
    rw [hg.block k (Nat.lt_of_lt_of_le hk h.size) (fun e => by have := hr k e.symm; omega)]; exact h.block k hk hp⟩
/-- What is written is behind B: below B all is as it was. -/
theorem But.below {p B : Nat} {w w' : World} (h : But p w w') (hp : B ≤ p) (hB : B ≤ w.heap.size) : Below B w w' :=
  ⟨h.os, h.tape, h.output, h.size, fun k hk => h.block k (by omega) (by omega)⟩

/-- A block whole. -/
theorem cell_of_heap {w : World} {p : Nat} {cs : Array Value} {T : TypeId} {fr : Nat × Nat} (h : w.heap[p]? = some (.cells cs T fr)) (i : Nat) : w.cell? ⟨p, i, none⟩ = cs[i]? := by
  simp [World.cell?, h]
theorem frozen_of_heap {w : World} {p : Nat} {cs : Array Value} {T : TypeId} (h : w.heap[p]? = some (.cells cs T (0, 0))) (i : Nat) : w.frozen? ⟨p, i, none⟩ = false := by
  simp [World.frozen?, h]
theorem heap_setCell {w : World} {p : Nat} {cs : Array Value} {T : TypeId} {fr : Nat × Nat} (h : w.heap[p]? = some (.cells cs T fr)) (i : Nat) (v : Value) :
    (w.setCell ⟨p, i, none⟩ v).heap[p]? = some (.cells (cs.setIfInBounds i v) T fr) := by
  simp [World.setCell, Array.getElem?_modify, h]

/-- A slice whose elements take one cell each reads as these. -/
def Sl (w : World) (v : Value) (xs : List Value) : Prop :=
  ∃ (a : Option Addr) (cap : Nat), v = .slice a xs.length cap ∧ xs.length ≤ cap ∧ cap ≤ maxLen ∧ (a = none → cap = 0) ∧
    ∀ i (h : i < xs.length), ∃ b off, a = some ⟨b, off, none⟩ ∧ w.cell? ⟨b, off + i, none⟩ = some xs[i]

def u8s (l : List UInt8) : List Value := l.map fun x => .int .u8 (x.toNat : Int)
@[simp] theorem u8s_length (l : List UInt8) : (u8s l).length = l.length := by simp [u8s]
@[simp] theorem u8s_append (l m : List UInt8) : u8s (l ++ m) = u8s l ++ u8s m := by simp [u8s]

/-- A []byte that reads as l. -/
def Bytes (w : World) (v : Value) (l : List UInt8) : Prop := Sl w v (u8s l)

theorem Bytes.open {w : World} {v : Value} {l : List UInt8} (h : Bytes w v l) : ∃ (a : Option Addr) (cap : Nat), v = .slice a l.length cap ∧ l.length ≤ cap ∧ cap ≤ maxLen ∧ (a = none → cap = 0) ∧
    ∀ i (hi : i < l.length), ∃ b off, a = some ⟨b, off, none⟩ ∧ w.cell? ⟨b, off + i, none⟩ = some (.int .u8 (l[i].toNat : Int)) := by
  obtain ⟨a, cap, rfl, h1, h2, h4, h3⟩ := h
  refine ⟨a, cap, by simp, by simpa using h1, h2, h4, fun i hi => ?_⟩
  obtain ⟨b, off, e, hc⟩ := h3 i (by simpa using hi)
  exact ⟨b, off, e, by simpa [u8s] using hc⟩

theorem Bytes.isSlice {w : World} {v : Value} {l : List UInt8} (h : Bytes w v l) : ∃ a n c, v = .slice a n c := by
  obtain ⟨a, cap, rfl, _⟩ := h.open
  exact ⟨_, _, _, rfl⟩

theorem Bytes.len {w : World} {a : Option Addr} {n c : Nat} {l : List UInt8} (h : Bytes w (.slice a n c) l) : n = l.length ∧ n ≤ c ∧ c ≤ 9223372036854775807 := by
  obtain ⟨_, _, e, h1, h2, _⟩ := h.open
  injection e with e1 e2 e3
  subst e3
  unfold maxLen at h2
  omega
theorem take_succ_getD {α : Type} (l : List α) (k : Nat) (h : k < l.length) : l.take (k + 1) = l.take k ++ [l[k]] := by
  rw [List.take_succ_eq_append_getElem h]

/-- What is not written stays: a reading holds in each world that keeps the blocks that were there. -/
theorem Sl.below {w w' : World} {v : Value} {xs : List Value} (h : Sl w v xs) (hb : Below w.heap.size w w') : Sl w' v xs := by
  obtain ⟨a, cap, rfl, h1, h2, h4, h3⟩ := h
  refine ⟨a, cap, rfl, h1, h2, h4, fun i hi => ?_⟩
  obtain ⟨b, off, e, hc⟩ := h3 i hi
  exact ⟨b, off, e, (hb.cell (p := ⟨b, off + i, none⟩) (World.block_lt_of_cell? w _ hc)).trans hc⟩
theorem Bytes.below {w w' : World} {v : Value} {l : List UInt8} (h : Bytes w v l) (hb : Below w.heap.size w w') : Bytes w' v l := Sl.below h hb

/-- An owned row, as a reading. -/
theorem Sl.ofOwn {w : World} {base : Nat} {e : TypeId} {v : Value} {n : Nat} {xs : List Value} (h : w.ownsRow base e 1 v n xs) : Sl w v xs := by
  obtain ⟨hl, h | ⟨g, cap, cur, rfl, hg, hh, hn, hm, hs, ht⟩⟩ := h
  · obtain ⟨rfl, rfl⟩ := h
    have : xs = [] := List.eq_nil_of_length_eq_zero (by simpa using hl)
    subst this
    exact ⟨none, 0, rfl, Nat.le_refl _, by simp [maxLen], fun _ => rfl, fun i hi => absurd hi (by simp)⟩
  · have hl' : n = xs.length := by simpa using hl.symm
    have ht' : cur.toList.take n = xs := by simpa using ht
    refine ⟨some ⟨g, 0, none⟩, cap, by rw [hl'], by omega, hm, fun e => by simp at e, fun i hi => ⟨g, 0, rfl, ?_⟩⟩
    simp only [World.cell?, hh, Nat.zero_add]
    have hx : cur.toList[i]? = xs[i]? := by
      rw [← ht', List.getElem?_take, if_pos (by omega)]
    rw [List.getElem?_eq_getElem hi] at hx
    simpa using hx

/-- A new block, read whole. -/
theorem Sl.made (w : World) (c : List Value) (e : TypeId) (n : Nat) (hn : c.length = n) (hm : n ≤ maxLen) {fr : Nat × Nat} : Sl (w.alloc (.cells c.toArray e fr)) (.slice (some ⟨w.heap.size, 0, none⟩) n n) c := by
  subst hn
  refine ⟨_, _, rfl, Nat.le_refl _, hm, fun e => by simp at e, fun i hi => ⟨_, _, rfl, ?_⟩⟩
  rw [Nat.zero_add, World.cell?_alloc_mark]
  simp [hi]

/-- The facts on an element type that take one cell, as append wants them. -/
structure ElemOf (P : Program) (t e : TypeId) (z : Value) (bytes : Nat) : Prop where
  slice : P.underlying t = some (.slice e)
  info : (P.info? e).map (fun i => (i.zero, i.size, i.bytes)) = some (some z, 1, bytes)
  one : z.cells.size = 1

/-- append(s, x...): s the call's own (or nil), x whatever reads as ys. -/
theorem run_app {P : Program} {w : World} {t e ty : TypeId} {z : Value} {bytes : Nat} (E : ElemOf P t e z bytes) {base : Nat} {v u : Value} {n : Nat} {xs ys : List Value}
    (hown : w.ownsRow base e 1 v n xs) (hu : Sl w u ys) (h1 : ∀ y ∈ ys, y.oneCell' = true) (hsz : n + ys.length ≤ maxLen) (hby : (n + ys.length) * bytes ≤ 140737488355328) (hb : base ≤ w.heap.size) :
    ∃ v' w', (Builtin.append_ #[t, t] ty #[v, u]).run P w = .ok v' w' ∧ w'.ownsRow base e 1 v' (n + ys.length) (xs ++ ys) ∧ w.grownBy w' v.ownBlock := by
  obtain ⟨i, hi, hz, h2, h3⟩ := info_parts E.info
  obtain ⟨a, cap, rfl, hc, hm, hn, hcell⟩ := hu
  by_cases hy : ys.length = 0
  · have : ys = [] := List.eq_nil_of_length_eq_zero hy
    subst this
    cases a with
    | none =>
      obtain rfl := hn rfl
      exact ⟨v, w, run_append_owned_none (P := P) (w := w) base t ty e i 1 E.slice hi v n xs hown, by simpa using hown, World.grownBy.refl w _⟩
    | some ad =>
      obtain ⟨v', w', hr, ho, hg, _⟩ := run_append_own (P := P) w base t ty e i z 1 bytes E.slice hi hz h2 h3 E.one (by omega) v n xs hown ad 0 cap [] (by simp) (by simp) (by simp) (by simpa using hsz) (by simpa using hby) hb
      exact ⟨v', w', by simpa using hr, by simpa using ho, hg⟩
  · obtain ⟨b, off, rfl, _⟩ := hcell 0 (by omega)
    obtain ⟨v', w', hr, ho, hg, _⟩ := run_append_own (P := P) w base t ty e i z 1 bytes E.slice hi hz h2 h3 E.one (by omega) v n xs hown ⟨b, off, none⟩ ys.length cap ys (by simp)
      (fun j y hj => by
        obtain ⟨hj1, rfl⟩ := List.getElem?_eq_some_iff.1 hj
        obtain ⟨b', off', e', hc'⟩ := hcell j hj1
        injection e' with e'; injection e' with e1 e2
        subst e1 e2
        rw [Addr.add_lit]; exact hc') h1 hsz hby hb
    exact ⟨v', w', hr, ho, hg⟩

theorem wp_app {P : Program} {w : World} {o : Oper} {a : Act} {K : Act → World → Prop} {Q : Exit → Act → World → Prop} (s x : Operand) {t e : TypeId} {z : Value} {bytes : Nat} (E : ElemOf P t e z bytes)
    (ho : o.op = .call { callee := .builtin .append, args := #[s, x], argTypes := #[t, t] }) {base : Nat} {v u : Value} {n : Nat} {xs ys : List Value} (hs : a.eval s = v) (hx : a.eval x = u)
    (hown : w.ownsRow base e 1 v n xs) (hu : Sl w u ys) (h1 : ∀ y ∈ ys, y.oneCell' = true) (hsz : n + ys.length ≤ maxLen) (hby : (n + ys.length) * bytes ≤ 140737488355328) (hb : base ≤ w.heap.size)
    (h : ∀ v' w', w'.ownsRow base e 1 v' (n + ys.length) (xs ++ ys) → w.grownBy w' v.ownBlock → K (a.put o.dst v') w') : o.wp P a w K Q := by
  obtain ⟨v', w', hr, h2, h3⟩ := run_app (P := P) (ty := o.type) E hown hu h1 hsz hby hb
  unfold Oper.wp execOp
  simp only [ho, resolve, invoke, builtin, Sem.run_bind, Sem.run_pure, Result.andThen_ok, List.map_toArray, List.map_cons, List.map_nil, hs, hx, hr]
  exact h v' w' h2 h3

theorem wpList_app {P : Program} {w : World} {ops : Array Oper} {rest : List Oper} {o : Oper} {a : Act} {Q : Exit → Act → World → Prop} (hgd : o.guard = none) (s x : Operand) {t e : TypeId} {z : Value} {bytes : Nat} (E : ElemOf P t e z bytes)
    (ho : o.op = .call { callee := .builtin .append, args := #[s, x], argTypes := #[t, t] }) {base : Nat} {v u : Value} {n : Nat} {xs ys : List Value} (hs : a.eval s = v) (hx : a.eval x = u)
    (hown : w.ownsRow base e 1 v n xs) (hu : Sl w u ys) (h1 : ∀ y ∈ ys, y.oneCell' = true) (hsz : n + ys.length ≤ maxLen) (hby : (n + ys.length) * bytes ≤ 140737488355328) (hb : base ≤ w.heap.size)
    (h : ∀ v' w', w'.ownsRow base e 1 v' (n + ys.length) (xs ++ ys) → w.grownBy w' v.ownBlock → wpList P ops Q rest (a.put o.dst v') w') : wpList P ops Q (o :: rest) a w :=
  wpList_plain hgd fun _ hK => wp_app s x E ho hs hx hown hu h1 hsz hby hb fun v' w' h2 h3 => hK _ _ (h v' w' h2 h3)

/-- make([]T, 0, n). -/
theorem wpList_mk {P : Program} {w : World} {ops : Array Oper} {rest : List Oper} {o : Oper} {a : Act} {Q : Exit → Act → World → Prop} (hgd : o.guard = none) (l c : Operand) {t e : TypeId} {z : Value} {bytes : Nat} (E : ElemOf P t e z bytes)
    (ho : o.op = Op.makeSlice t l c) (base : Nat) {kl kc : IntKind} {C : Int} (n : Nat) (hl : a.eval l = .int kl 0) (hc : a.eval c = .int kc C) (hC : C = (n : Int)) (hby : bytes * n ≤ 281474976710656) (hn : n ≤ maxLen) (hb : base ≤ w.heap.size)
    (h : ∀ w', w'.ownsRow base e 1 (.slice (some ⟨w.heap.size, 0, none⟩) 0 n) 0 [] → w.grownBy w' none → wpList P ops Q rest (a.put o.dst (.slice (some ⟨w.heap.size, 0, none⟩) 0 n)) w') : wpList P ops Q (o :: rest) a w := by
  obtain ⟨i, hi, hz, h2, h3⟩ := info_parts E.info
  exact wpList_make_own w hgd l c t ho base e i z 1 E.slice hi hz h2 kl kc C n hl hc hC (by rw [h3]; exact hby) hn hb h

/-- A reading, cut short. -/
theorem Sl.take {w : World} {a : Option Addr} {n cap : Nat} {xs : List Value} (h : Sl w (.slice a n cap) xs) (k : Nat) (hk : k ≤ n) : Sl w (.slice a k cap) (xs.take k) := by
  obtain ⟨a', cap', e, h1, h2, h4, h3⟩ := h
  injection e with e1 e2 e3
  subst e1 e2 e3
  refine ⟨_, _, by rw [List.length_take, Nat.min_eq_left hk], by rw [List.length_take, Nat.min_eq_left hk]; omega, h2, h4, fun i hi => ?_⟩
  have hi' : i < xs.length := by simp at hi; omega
  obtain ⟨b, off, e, hc⟩ := h3 i hi'
  exact ⟨b, off, e, by simpa using hc⟩

/-- append(s, x...), and s itself reads as it did. -/
theorem run_app_keeps {P : Program} {w : World} {t e ty : TypeId} {z : Value} {bytes : Nat} (E : ElemOf P t e z bytes) {base g cap : Nat} {u : Value} {n : Nat} {xs ys : List Value}
    (hown : w.ownsRow base e 1 (.slice (some ⟨g, 0, none⟩) n cap) n xs) (hu : Sl w u ys) (h1 : ∀ y ∈ ys, y.oneCell' = true) (hsz : n + ys.length ≤ maxLen) (hby : (n + ys.length) * bytes ≤ 140737488355328) (hb : base ≤ w.heap.size) :
    ∃ v' w', (Builtin.append_ #[t, t] ty #[.slice (some ⟨g, 0, none⟩) n cap, u]).run P w = .ok v' w' ∧ w'.ownsRow base e 1 v' (n + ys.length) (xs ++ ys) ∧ w.grownBy w' (some g) ∧ Sl w' (.slice (some ⟨g, 0, none⟩) n cap) xs := by
  obtain ⟨i, hi, hz, h2, h3⟩ := info_parts E.info
  have hlen : xs.length = n := by simpa using hown.1
  obtain ⟨a, c, rfl, hc, hm, hn, hcell⟩ := hu
  have some_case : ∀ ad : Addr, a = some ad → (∀ j y, ys[j]? = some y → w.cell? (ad.add j) = some y) →
      ∃ v' w', (Builtin.append_ #[t, t] ty #[.slice (some ⟨g, 0, none⟩) n cap, .slice a ys.length c]).run P w = .ok v' w' ∧ w'.ownsRow base e 1 v' (n + ys.length) (xs ++ ys) ∧ w.grownBy w' (some g) ∧ Sl w' (.slice (some ⟨g, 0, none⟩) n cap) xs := by
    rintro ad rfl hcs
    by_cases hroom : n + ys.length ≤ cap
    · obtain ⟨w', hr, ho, hg⟩ := run_append_fits (P := P) w base t ty e i 1 E.slice hi h2 g n cap xs hown ad ys.length c ys (by simp) hcs h1 hroom
      refine ⟨_, w', hr, ho, hg, ?_⟩
      have := (Sl.ofOwn ho).take n (by omega)
      rwa [← hlen, List.take_left, hlen] at this
    · obtain ⟨v', w', hr, ho, hg⟩ := run_append_arg_grows (P := P) w t ty e i z 1 bytes E.slice hi hz h2 h3 E.one (by omega) ⟨g, 0, none⟩ n cap xs hown.1 (hown.cells (g := g) rfl) ad ys.length c ys (by simp) hcs (by omega) hsz hby
      refine ⟨v', w', hr, ⟨ho.1, ?_⟩, ⟨hg.os, hg.tape, hg.output, hg.size, fun k hk _ => hg.block k hk (by simp)⟩, (Sl.ofOwn hown).below ⟨hg.os, hg.tape, hg.output, hg.size, fun k hk => hg.block k hk (by simp)⟩⟩
      rcases ho.2 with h | ⟨g', cap', cur, e1, e2, e3⟩
      · exact .inl h
      · exact .inr ⟨g', cap', cur, e1, Nat.le_trans hb e2, e3⟩
  by_cases hy : ys.length = 0
  · have : ys = [] := List.eq_nil_of_length_eq_zero hy
    subst this
    cases a with
    | none =>
      obtain rfl := hn rfl
      exact ⟨_, w, run_append_owned_none (P := P) (w := w) base t ty e i 1 E.slice hi _ n xs hown, by simpa using hown, World.grownBy.refl w _, Sl.ofOwn hown⟩
    | some ad => exact some_case ad rfl (by simp)
  · obtain ⟨b, off, rfl, _⟩ := hcell 0 (by omega)
    exact some_case ⟨b, off, none⟩ rfl (fun j y hj => by
      obtain ⟨hj1, rfl⟩ := List.getElem?_eq_some_iff.1 hj
      obtain ⟨b', off', e', hc'⟩ := hcell j hj1
      injection e' with e'; injection e' with e1 e2
      subst e1 e2
      rw [Addr.add_lit]; exact hc')

theorem wpList_app_keeps {P : Program} {w : World} {ops : Array Oper} {rest : List Oper} {o : Oper} {a : Act} {Q : Exit → Act → World → Prop} (hgd : o.guard = none) (s x : Operand) {t e : TypeId} {z : Value} {bytes : Nat} (E : ElemOf P t e z bytes)
    (ho : o.op = .call { callee := .builtin .append, args := #[s, x], argTypes := #[t, t] }) {base g cap : Nat} {u : Value} {n : Nat} {xs ys : List Value} (hs : a.eval s = .slice (some ⟨g, 0, none⟩) n cap) (hx : a.eval x = u)
    (hown : w.ownsRow base e 1 (.slice (some ⟨g, 0, none⟩) n cap) n xs) (hu : Sl w u ys) (h1 : ∀ y ∈ ys, y.oneCell' = true) (hsz : n + ys.length ≤ maxLen) (hby : (n + ys.length) * bytes ≤ 140737488355328) (hb : base ≤ w.heap.size)
    (h : ∀ v' w', w'.ownsRow base e 1 v' (n + ys.length) (xs ++ ys) → w.grownBy w' (some g) → Sl w' (.slice (some ⟨g, 0, none⟩) n cap) xs → wpList P ops Q rest (a.put o.dst v') w') : wpList P ops Q (o :: rest) a w :=
  wpList_plain hgd fun _ hK => by
    obtain ⟨v', w', hr, h2, h3, h4⟩ := run_app_keeps (P := P) (ty := o.type) E hown hu h1 hsz hby hb
    unfold Oper.wp execOp
    simp only [ho, resolve, invoke, builtin, Sem.run_bind, Sem.run_pure, Result.andThen_ok, List.map_toArray, List.map_cons, List.map_nil, hs, hx, hr]
    exact hK _ _ (h v' w' h2 h3 h4)

theorem u8s_one (l : List UInt8) : ∀ y ∈ u8s l, y.oneCell' = true := by
  intro y hy
  obtain ⟨_, _, rfl⟩ := List.mem_map.1 hy
  rfl

theorem u8_ofNat (n : Nat) : ((UInt8.ofNat n).toNat : Int) = (n : Int) % 256 := by
  simp [UInt8.toNat_ofNat']

theorem Bytes.take {w : World} {a : Option Addr} {n cap : Nat} {l : List UInt8} (h : Bytes w (.slice a n cap) l) (k : Nat) (hk : k ≤ n) : Bytes w (.slice a k cap) (l.take k) := by
  obtain ⟨a', cap', e, h1, h2, h4, h3⟩ := h.open
  injection e with e1 e2 e3
  subst e1 e2 e3
  have hl : (l.take k).length = k := by simp; omega
  refine ⟨a, cap, by simp [hl], by simp; omega, h2, h4, fun i hi => ?_⟩
  have hi' : i < k := by simpa [hl] using hi
  obtain ⟨b, off, e, hc⟩ := h3 i (by omega)
  exact ⟨b, off, e, by simpa [u8s] using hc⟩

theorem Bytes.sub {w : World} {a : Option Addr} {n cap : Nat} {l : List UInt8} (h : Bytes w (.slice a n cap) l) (lo hi : Nat) (h1 : lo ≤ hi) (h2 : hi ≤ n) :
    Bytes w (.slice (if cap = lo then a else a.map (·.add lo)) (hi - lo) (cap - lo)) ((l.take hi).drop lo) := by
  obtain ⟨a', cap', e, q1, q2, q4, q3⟩ := h.open
  injection e with e1 e2 e3
  subst e1 e2 e3
  have hl : ((l.take hi).drop lo).length = hi - lo := by simp; omega
  refine ⟨if cap = lo then a else a.map (·.add lo), cap - lo, by rw [u8s_length, hl], by rw [u8s_length, hl]; omega, by omega, fun e => ?_, fun i hi' => ?_⟩
  · split at e
    · omega
    · have : a = none := by simpa using e
      have := q4 this
      omega
  · have hi2 : i < hi - lo := by simpa [hl] using hi'
    obtain ⟨b, off, rfl, hc⟩ := q3 (lo + i) (by omega)
    refine ⟨b, off + lo, ?_, ?_⟩
    · rw [if_neg (by omega)]; simp [Addr.add_lit]
    · rw [Nat.add_assoc, hc]
      simp [u8s]

/-- s[:h], s[l:], the elements of one cell. -/
theorem run_sl_to {P : Program} {w : World} {t e : TypeId} (ht : P.underlying t = some (.slice e)) (hs : (P.info? e).map (·.size) = some 1) {a : Option Addr} {n cap : Nat} (h : Nat) (hh : h ≤ cap) (k : IntKind) :
    (Instr.sliceAt t (.slice a n cap) none (some (.int k (h : Int))) none).run P w = .ok (.slice a h cap) w := by
  have he : P.elem t = e := by simp [Program.elem, ht]
  have ht' : P.underlying t = some (.slice (P.elem t)) := by rw [he]; exact ht
  obtain ⟨i, hi, h1⟩ := Option.map_eq_some_iff.1 hs
  rw [run_sliceAt_slice w t _ _ _ _ ht', run_slice_h w t a n cap ht' k h (by omega) (by omega)]
  simp [sizeOf, typeInfo, he, hi, Result.andThen, sliced, Addr.add]
theorem run_sl_from {P : Program} {w : World} {t e : TypeId} (ht : P.underlying t = some (.slice e)) (hs : (P.info? e).map (·.size) = some 1) {a : Option Addr} {n cap : Nat} (l : Nat) (hl : l ≤ n) (k : IntKind) :
    (Instr.sliceAt t (.slice a n cap) (some (.int k (l : Int))) none none).run P w = .ok (.slice (if cap = l then a else a.map (·.add l)) (n - l) (cap - l)) w := by
  have he : P.elem t = e := by simp [Program.elem, ht]
  have ht' : P.underlying t = some (.slice (P.elem t)) := by rw [he]; exact ht
  obtain ⟨i, hi, h1⟩ := Option.map_eq_some_iff.1 hs
  rw [run_sliceAt_slice w t _ _ _ _ ht', run_slice_l w t a n cap ht' k l (by omega) (by omega)]
  simp [sizeOf, typeInfo, he, hi, Result.andThen, sliced, h1]

theorem run_sl_both {P : Program} {w : World} {t e : TypeId} (ht : P.underlying t = some (.slice e)) (hs : (P.info? e).map (·.size) = some 1) {a : Option Addr} {n cap : Nat} (l h : Nat) (hl : l ≤ h) (hh : h ≤ cap) (k j : IntKind) :
    (Instr.sliceAt t (.slice a n cap) (some (.int k (l : Int))) (some (.int j (h : Int))) none).run P w = .ok (.slice (if cap = l then a else a.map (·.add l)) (h - l) (cap - l)) w := by
  have he : P.elem t = e := by simp [Program.elem, ht]
  have ht' : P.underlying t = some (.slice (P.elem t)) := by rw [he]; exact ht
  obtain ⟨i, hi, h1⟩ := Option.map_eq_some_iff.1 hs
  rw [run_sliceAt_slice w t _ _ _ _ ht', run_slice_lh w t a n cap ht' k j l h (by omega) (by omega) (by omega)]
  simp [sizeOf, typeInfo, he, hi, Result.andThen, sliced, h1]

/-- string(b). -/
theorem run_str {P : Program} {w : World} {v : Value} {l : List UInt8} (src dst e : TypeId) (hs : P.underlying src = some (.slice e)) (he : P.underlying e = some (.int .u8)) (hd : P.underlying dst = some .string) (h : Bytes w v l) :
    (convert src dst v).run P w = .ok (.string ⟨l.toArray⟩) w := by
  obtain ⟨a, cap, rfl, h1, h2, h4, h3⟩ := h.open
  cases a with
  | none =>
    have : l = [] := by
      cases l with
      | nil => rfl
      | cons x l => obtain ⟨b, off, e, _⟩ := h3 0 (by simp); simp at e
    subst this
    rw [run_convert_bytes_string w src dst e none _ cap hs he hd]
    rfl
  | some ad =>
    refine run_convert_bytes_back w src dst e ad cap l hs he hd fun j hj => ?_
    obtain ⟨b, off, e, hc⟩ := h3 j hj
    injection e with e
    subst e
    rw [Addr.add_lit]
    exact hc

/-- A [][]byte that reads as these. -/
def Rows (w : World) (v : Value) (ls : List (List UInt8)) : Prop :=
  ∃ xs : List Value, Sl w v xs ∧ xs.length = ls.length ∧ ∀ i (h : i < xs.length) (h' : i < ls.length), Bytes w xs[i] ls[i]
theorem Rows.below {w w' : World} {v : Value} {ls : List (List UInt8)} (h : Rows w v ls) (hb : Below w.heap.size w w') : Rows w' v ls := by
  obtain ⟨xs, h1, h2, h3⟩ := h
  exact ⟨xs, h1.below hb, h2, fun i h h' => (h3 i h h').below hb⟩
theorem Rows.mk {w : World} (vs : List Value) (ls : List (List UInt8)) (e : TypeId) (n : Nat) (h1 : vs.length = n) (h2 : ls.length = n) (hn : n ≤ maxLen) (h : ∀ i (h : i < vs.length) (h' : i < ls.length), Bytes w vs[i] ls[i]) :
    Rows (w.alloc (.cells vs.toArray e)) (.slice (some ⟨w.heap.size, 0, none⟩) n n) ls :=
  ⟨vs, Sl.made w vs e n h1 hn (fr := (0, 0)), by omega, fun i h3 h4 => (h i h3 h4).below (Ext.alloc w _)⟩
theorem Rows.open {w : World} {v : Value} {ls : List (List UInt8)} (h : Rows w v ls) : ∃ (a : Option Addr) (cap : Nat), v = .slice a ls.length cap ∧ ls.length ≤ cap ∧ cap ≤ maxLen ∧
    ∀ i (hi : i < ls.length), ∃ b off x, a = some ⟨b, off, none⟩ ∧ w.cell? ⟨b, off + i, none⟩ = some x ∧ Bytes w x ls[i] := by
  obtain ⟨xs, ⟨a, cap, rfl, h1, h2, _, h3⟩, h4, h5⟩ := h
  refine ⟨a, cap, by rw [h4], by omega, h2, fun i hi => ?_⟩
  obtain ⟨b, off, e, hc⟩ := h3 i (by omega)
  exact ⟨b, off, xs[i]'(by omega), e, hc, h5 i (by omega) hi⟩

/-- A call that hands back bytes and writes nothing that was there. -/
def GivesBytes (w : World) (l : List UInt8) (e : Ending) (w' : World) : Prop := ∃ v, e = .returned v ∧ Bytes w' v l ∧ Below w.heap.size w w'

end Go.Proofs.Ytpefengjpedifaa
