/-
  Merged: Layer 14, the program: a register in memory.
-/
import Derived.Test.YtkpcmedmiiohnaaBsEnt
import Derived.Test.YtkpcmedmiiohnaaBsLib
import Derived.Test.YtkpcmedmiiohnaaBsRgMath
import Derived.Test.YtkpcmedmiiohnaaBsTerm
import Derived.Test.YtkpcmedmiiohnaaBsVec

namespace Go.Proofs.Ytkpcmedmiiohnaa
set_option linter.unusedSimpArgs false
set_option linter.unusedVariables false
set_option maxRecDepth 100000
open Go.RowKit
/- Layer 14, the program: a register in memory; what is its own stays wherever nothing but rows of a register is written. -/
/-- All that is no row of a register, and no register, stays. -/
structure Keeps14 (w w' : World) : Prop where
  size : w.heap.size ≤ w'.heap.size
  block : ∀ (k : Nat) (cs : Array Value) (T : TypeId) (fr : Nat × Nat), w.heap[k]? = some (.cells cs T fr) → T ≠ 68 → T ≠ 71 → w'.heap[k]? = w.heap[k]?
theorem Keeps14.refl (w : World) : Keeps14 w w := ⟨Nat.le_refl _, fun _ _ _ _ _ _ _ => rfl⟩
theorem Keeps14.trans {a b c : World} (h : Keeps14 a b) (k : Keeps14 b c) : Keeps14 a c := ⟨Nat.le_trans h.size k.size, fun i cs T fr hi h1 h2 => by
  have e := h.block i cs T fr hi h1 h2
  exact (k.block i cs T fr (e.trans hi) h1 h2).trans e⟩
theorem Keeps14.ext {w w' : World} (h : Ext w w') : Keeps14 w w' := ⟨h.size, fun k cs T fr hk _ _ => h.block k (Array.getElem?_eq_some_iff.1 hk).1⟩
theorem Keeps14.but {w w' : World} {g : Nat} {cs : Array Value} {T : TypeId} {fr : Nat × Nat} (h : But g w w') (hg : w.heap[g]? = some (.cells cs T fr)) (hT : T = 68 ∨ T = 71) : Keeps14 w w' := ⟨h.size, fun k cs' T' fr' hk h1 h2 => h.block k (Array.getElem?_eq_some_iff.1 hk).1 (fun e => by
  subst e
  rw [hg] at hk
  injection hk with hk
  injection hk with _ e _
  subst e
  rcases hT with hT | hT
  · exact h1 hT
  · exact h2 hT)⟩
theorem Keeps14.grown {w w' : World} {b n size : Nat} {u : Value} {xs : List Value} (hu : w.ownsRow b 68 size u n xs) (hg : w.grownBy w' u.ownBlock) : Keeps14 w w' := ⟨hg.size, fun k cs T fr hk h1 h2 => hg.block k (Array.getElem?_eq_some_iff.1 hk).1 (rowBeside hu hk h1)⟩
theorem Keeps14.row {w w' : World} {base n size : Nat} {e : TypeId} {v : Value} {xs : List Value} (h : w.ownsRow base e size v n xs) (hk : Keeps14 w w') (h1 : e ≠ 68) (h2 : e ≠ 71) : w'.ownsRow base e size v n xs := rowOwn h fun g hg => by
  obtain ⟨cur, hc⟩ := ownAt h hg
  exact hk.block g cur e (0, 0) hc h1 h2
theorem Keeps14.ints {w w' : World} {base : Nat} {v : Value} {l : List Int} (h : OwnI w base v l) (hk : Keeps14 w w') : OwnI w' base v l := Keeps14.row h hk (by decide) (by decide)
theorem Keeps14.rows {w w' : World} {base : Nat} {v : Value} {l : List (List Int)} (h : OwnRR w base v l) (hk : Keeps14 w w') : OwnRR w' base v l := by
  obtain ⟨xs, h1, h2, h3⟩ := h
  exact ⟨xs, Keeps14.row h1 hk (by decide) (by decide), h2, fun i a b => Keeps14.ints (h3 i a b) hk⟩
/-- Entries in a row of its own, with cuts of their own. -/
def OwnT (w : World) (B : Nat) (v : Value) (l : List Ent.E) : Prop := ∃ ps : List (Value × Ent.E), ps.map (·.2) = l ∧ (∀ q ∈ ps, OwnI w B q.1 q.2.cut) ∧ w.ownsRow B 63 6 v l.length (entFlat ps)
theorem OwnT.keeps {w w' : World} {B : Nat} {v : Value} {l : List Ent.E} (h : OwnT w B v l) (hk : Keeps14 w w') : OwnT w' B v l := by
  obtain ⟨ps, h1, h2, h3⟩ := h
  exact ⟨ps, h1, fun q hq => Keeps14.ints (h2 q hq) hk, Keeps14.row h3 hk (by decide) (by decide)⟩
theorem OwnT.ents {w : World} {B : Nat} {v : Value} {l : List Ent.E} (h : OwnT w B v l) : Ents w v l := by
  obtain ⟨ps, h1, h2, h3⟩ := h
  have hl : ps.length = l.length := by rw [← h1, List.length_map]
  have := ents_of_flat (v := v) (fun q hq => (h2 q hq).ints) (by rw [hl]; exact SlN.ofOwn h3)
  rwa [h1] at this
theorem OwnT.nil (w : World) (B : Nat) : OwnT w B (.slice none 0 0) [] := ⟨[], rfl, by simp, World.ownsRow_nil _ _ _ _⟩
theorem OwnT.lower {w : World} {B b : Nat} {v : Value} {l : List Ent.E} (h : OwnT w B v l) (hb : b ≤ B) : OwnT w b v l := by
  obtain ⟨ps, h1, h2, h3⟩ := h
  exact ⟨ps, h1, fun q hq => (h2 q hq).lower hb, rowLower h3 hb⟩
/-- What a row of a register holds. -/
structure Row14 where
  s : Value
  d : Value
  tl : Value
  x : Reg.Row
def Row14.cells (r : Row14) : List Value := [.int .i64 r.x.c.term, r.s, r.d, r.tl, .int .i64 r.x.start]
structure Row14.At (w : World) (B : Nat) (r : Row14) : Prop where
  seqs : OwnI w B r.s r.x.c.seqs
  shards : OwnRR w B r.d r.x.c.shards
  tail : OwnT w B r.tl r.x.tail
theorem Row14.At.keeps {w w' : World} {B : Nat} {r : Row14} (h : r.At w B) (hk : Keeps14 w w') : r.At w' B := ⟨Keeps14.ints h.seqs hk, Keeps14.rows h.shards hk, h.tail.keeps hk⟩
def flat14 (L : List Row14) : List Value := L.flatMap Row14.cells
theorem flat14_append (L M : List Row14) : flat14 (L ++ M) = flat14 L ++ flat14 M := by simp [flat14]
theorem flat14_at : ∀ (L : List Row14) (i j : Nat) (hi : i < L.length), j < 5 → (flat14 L)[i * 5 + j]? = (L[i].cells)[j]? := by
  intro L
  induction L with
  | nil => intro i j hi; exact absurd hi (by simp)
  | cons r L ih =>
    intro i j hi hj
    unfold flat14
    rw [List.flatMap_cons]
    cases i with
    | zero => rw [Nat.zero_mul, Nat.zero_add, List.getElem?_append_left (by simpa [Row14.cells] using hj)]; rfl
    | succ i =>
      rw [List.getElem?_append_right (by simp [Row14.cells]; omega)]
      have e : (i + 1) * 5 + j - r.cells.length = i * 5 + j := by simp [Row14.cells]; omega
      rw [e]
      exact ih i j (by simpa using hi) hj
structure IsReg (w : World) (B p : Nat) (R : List Reg.Row) : Prop where
  at' : ∃ v L, w.heap[p]? = some (.cells #[v] 71 (0, 0)) ∧ w.ownsRow B 68 5 v L.length (flat14 L) ∧ (∀ r ∈ L, Row14.At w B r) ∧ L.map (·.x) = R
  ge : B ≤ p
  ok : Reg.Ok R
theorem IsReg.ext {w w' : World} {B p : Nat} {R : List Reg.Row} (h : IsReg w B p R) (hE : Ext w w') : IsReg w' B p R := by
  obtain ⟨v, L, h1, h2, h3, h4⟩ := h.at'
  exact ⟨⟨v, L, heap_ext h1 hE, rowExt h2 hE, fun r hr => (h3 r hr).keeps (Keeps14.ext hE), h4⟩, h.ge, h.ok⟩
theorem IsReg.lt {w : World} {B p : Nat} {R : List Reg.Row} (h : IsReg w B p R) : p < w.heap.size := by
  obtain ⟨v, L, h1, _⟩ := h.at'
  exact (Array.getElem?_eq_some_iff.1 h1).1
/-- What is read of it. -/
theorem IsReg.open {w : World} {B p : Nat} {R : List Reg.Row} (h : IsReg w B p R) : ∃ g c L, w.heap[p]? = some (.cells #[.slice (some ⟨g, 0, none⟩) R.length c] 71 (0, 0)) ∧ R.length ≤ c ∧ c ≤ 9223372036854775807 ∧ w.ownsRow B 68 5 (.slice (some ⟨g, 0, none⟩) R.length c) R.length (flat14 L) ∧ L.length = R.length ∧
    (∀ r ∈ L, Row14.At w B r) ∧ L.map (·.x) = R ∧ ∀ i (hi : i < L.length), w.cell? ⟨g, i * 5, none⟩ = some (.int .i64 L[i].x.c.term) ∧ w.cell? ⟨g, i * 5 + 1, none⟩ = some L[i].s ∧ w.cell? ⟨g, i * 5 + 2, none⟩ = some L[i].d ∧ w.cell? ⟨g, i * 5 + 3, none⟩ = some L[i].tl ∧ w.cell? ⟨g, i * 5 + 4, none⟩ = some (.int .i64 L[i].x.start) := by
  obtain ⟨v, L, h1, h2, h3, h4⟩ := h.at'
  have hl : L.length = R.length := by rw [← h4, List.length_map]
  have hne := h.ok.ne
  rcases h2.2 with ⟨_, h5⟩ | ⟨g, cap, cur, rfl, hb, hg, hle, hmx, hcs, htk⟩
  · omega
  · have hlen := ownLen h2
    rw [hl] at h1 h2
    refine ⟨g, cap, L, h1, by omega, by unfold maxLen at hmx; omega, h2, hl, h3, h4, fun i hi => ?_⟩
    have key : ∀ j, j < 5 → w.cell? ⟨g, i * 5 + j, none⟩ = (L[i].cells)[j]? := fun j hj => by
      rw [h2.cellAt (i * 5 + j) (by omega), flat14_at L i j hi hj]
    exact ⟨key 0 (by omega), key 1 (by omega), key 2 (by omega), key 3 (by omega), key 4 (by omega)⟩
end Go.Proofs.Ytkpcmedmiiohnaa
