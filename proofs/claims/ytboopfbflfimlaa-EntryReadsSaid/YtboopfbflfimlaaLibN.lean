/-
  Slices whose elements take several cells: what they hold, as a list of cells; append. No program.
-/
import Derived.Test.YtboopfbflfimlaaLib
namespace Go.Proofs.Ytboopfbflfimlaa
open Go.RowKit

/-- A slice of n elements of so many cells each reads as these cells. -/
def SlN (size : Nat) (w : World) (v : Value) (n : Nat) (xs : List Value) : Prop :=
  ∃ (a : Option Addr) (cap : Nat), v = .slice a n cap ∧ n ≤ cap ∧ cap ≤ maxLen ∧ (a = none → cap = 0) ∧ xs.length = n * size ∧
    ∀ j (h : j < xs.length), ∃ b off, a = some ⟨b, off, none⟩ ∧ w.cell? ⟨b, off + j, none⟩ = some xs[j]
theorem SlN.below {size n : Nat} {w w' : World} {v : Value} {xs : List Value} (h : SlN size w v n xs) (hb : Below w.heap.size w w') : SlN size w' v n xs := by
  obtain ⟨a, cap, rfl, h1, h2, h4, h5, h3⟩ := h
  refine ⟨a, cap, rfl, h1, h2, h4, h5, fun i hi => ?_⟩
  obtain ⟨b, off, e, hc⟩ := h3 i hi
  exact ⟨b, off, e, (hb.cell (p := ⟨b, off + i, none⟩) (World.block_lt_of_cell? w _ hc)).trans hc⟩
theorem SlN.ofOwn {w : World} {base size : Nat} {e : TypeId} {v : Value} {n : Nat} {xs : List Value} (h : w.ownsRow base e size v n xs) : SlN size w v n xs := by
  obtain ⟨hl, h | ⟨g, cap, cur, rfl, hg, hh, hn, hm, hs, ht⟩⟩ := h
  · obtain ⟨rfl, rfl⟩ := h
    have : xs = [] := List.eq_nil_of_length_eq_zero (by simpa using hl)
    subst this
    exact ⟨none, 0, rfl, Nat.le_refl _, by simp [maxLen], fun _ => rfl, by simp, fun i hi => absurd hi (by simp)⟩
  · refine ⟨some ⟨g, 0, none⟩, cap, rfl, hn, hm, fun e => by simp at e, hl, fun i hi => ⟨g, 0, rfl, ?_⟩⟩
    simp only [World.cell?, hh, Nat.zero_add]
    have hx : cur.toList[i]? = xs[i]? := by
      rw [← ht, List.getElem?_take, if_pos (by omega)]
    rw [List.getElem?_eq_getElem hi] at hx
    simpa using hx
/-- The facts on an element type, as append wants them. -/
structure ElemN (P : Program) (t e : TypeId) (z : Value) (size bytes : Nat) : Prop where
  slice : P.underlying t = some (.slice e)
  info : (P.info? e).map (fun i => (i.zero, i.size, i.bytes)) = some (some z, size, bytes)
  cells : z.cells.size = size
  pos : 0 < size
theorem run_appN {P : Program} {w : World} {t e ty : TypeId} {z : Value} {size bytes : Nat} (E : ElemN P t e z size bytes) {base : Nat} {v u : Value} {n m : Nat} {xs ys : List Value}
    (hown : w.ownsRow base e size v n xs) (hu : SlN size w u m ys) (h1 : ∀ y ∈ ys, y.oneCell' = true) (hsz : n + m ≤ maxLen) (hby : (n + m) * bytes ≤ 140737488355328) (hb : base ≤ w.heap.size) :
    ∃ v' w', (Builtin.append_ #[t, t] ty #[v, u]).run P w = .ok v' w' ∧ w'.ownsRow base e size v' (n + m) (xs ++ ys) ∧ w.grownBy w' v.ownBlock := by
  obtain ⟨i, hi, hz, h2, h3⟩ := info_parts E.info
  obtain ⟨a, cap, rfl, hc, hm, hn, hlen, hcell⟩ := hu
  cases a with
  | none =>
    obtain rfl := hn rfl
    obtain rfl : m = 0 := by omega
    have : ys = [] := List.eq_nil_of_length_eq_zero (by simpa using hlen)
    subst this
    exact ⟨v, w, run_append_owned_none (P := P) (w := w) base t ty e i size E.slice hi v n xs hown, by simpa using hown, World.grownBy.refl w _⟩
  | some ad =>
    obtain ⟨v', w', hr, ho, hg, _⟩ := run_append_own (P := P) w base t ty e i z size bytes E.slice hi hz h2 h3 E.cells E.pos v n xs hown ad m cap ys hlen
      (fun j y hj => by
        obtain ⟨hj1, rfl⟩ := List.getElem?_eq_some_iff.1 hj
        obtain ⟨b', off', e', hc'⟩ := hcell j hj1
        injection e' with e'
        subst e'
        rw [Addr.add_lit]; exact hc') h1 hsz hby hb
    exact ⟨v', w', hr, ho, hg⟩
theorem wpList_appN {P : Program} {w : World} {ops : Array Oper} {rest : List Oper} {o : Oper} {a : Act} {Q : Exit → Act → World → Prop} (hgd : o.guard = none) (s x : Operand) {t e : TypeId} {z : Value} {size bytes : Nat} (E : ElemN P t e z size bytes)
    (ho : o.op = .call { callee := .builtin .append, args := #[s, x], argTypes := #[t, t] }) {base : Nat} {v u : Value} {n m : Nat} {xs ys : List Value} (hs : a.eval s = v) (hx : a.eval x = u)
    (hown : w.ownsRow base e size v n xs) (hu : SlN size w u m ys) (h1 : ∀ y ∈ ys, y.oneCell' = true) (hsz : n + m ≤ maxLen) (hby : (n + m) * bytes ≤ 140737488355328) (hb : base ≤ w.heap.size)
    (h : ∀ v' w', w'.ownsRow base e size v' (n + m) (xs ++ ys) → w.grownBy w' v.ownBlock → wpList P ops Q rest (a.put o.dst v') w') : wpList P ops Q (o :: rest) a w :=
  wpList_plain hgd fun _ hK => by
    obtain ⟨v', w', hr, h2, h3⟩ := run_appN (P := P) (ty := o.type) E hown hu h1 hsz hby hb
    unfold Oper.wp execOp
    simp only [ho, resolve, invoke, builtin, Sem.run_bind, Sem.run_pure, Result.andThen_ok, List.map_toArray, List.map_cons, List.map_nil, hs, hx, hr]
    exact hK _ _ (h v' w' h2 h3)
end Go.Proofs.Ytboopfbflfimlaa
