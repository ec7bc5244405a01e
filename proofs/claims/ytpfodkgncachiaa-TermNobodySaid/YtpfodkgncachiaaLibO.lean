/-
  Rows of rows of numbers, all of the call's own. No function of the program.
-/
import Derived.Test.YtpfodkgncachiaaLibG
import Derived.Test.YtpfodkgncachiaaLibR
import Derived.Test.YtpfodkgncachiaaVecA
namespace Go.Proofs.Ytpfodkgncachiaa
set_option linter.unusedSimpArgs false
set_option linter.unusedVariables false
set_option maxRecDepth 100000
open Go.RowKit

theorem tRow : ElemOf Try.prog 23 22 (.slice none 0 0) 24 := ⟨Try.underlying23, by kernel_rfl, rfl⟩
theorem OwnI.ext {w w' : World} {base : Nat} {v : Value} {l : List Int} (h : OwnI w base v l) (hE : Ext w w') : OwnI w' base v l := rowExt h hE
theorem OwnI.lower {w : World} {base b : Nat} {v : Value} {l : List Int} (h : OwnI w base v l) (hb : b ≤ base) : OwnI w b v l := rowLower h hb
theorem OwnI.but {w w' : World} {base p : Nat} {v : Value} {l : List Int} {cs : Array Value} {t : TypeId} {fr : Nat × Nat} (h : OwnI w base v l) (hp : w.heap[p]? = some (.cells cs t fr)) (ht : t ≠ 3) (hB : But p w w') : OwnI w' base v l :=
  rowBut h (rowBeside h hp ht) hB
theorem OwnI.slice {w : World} {base : Nat} {v : Value} {l : List Int} (h : OwnI w base v l) : ∃ a n c, v = .slice a n c := ownSlice h
/-- A row beside a row that grows. -/
theorem OwnI.grown {w w' : World} {base b n : Nat} {v u : Value} {l : List Int} {xs : List Value} (h : OwnI w base v l) (hu : w.ownsRow b 22 1 u n xs) (hg : w.grownBy w' u.ownBlock) : OwnI w' base v l := by
  rcases hu.2 with ⟨rfl, _⟩ | ⟨g, cap, cur, rfl, _, hgb, _⟩
  · exact h.kept hg (by
      rcases h.2 with ⟨rfl, _⟩ | ⟨g, cap, cur, rfl, _⟩
      · exact .inl rfl
      · exact .inr (by simp [Value.ownBlock]))
  · exact h.kept hg (.inr (Ne.symm (rowBeside h hgb (by decide))))

/-- Own rows, in a row of the call's own. -/
def OwnRR (w : World) (base : Nat) (v : Value) (ls : List (List Int)) : Prop :=
  ∃ xs : List Value, w.ownsRow base 22 1 v ls.length xs ∧ xs.length = ls.length ∧ ∀ i (h : i < xs.length) (h' : i < ls.length), OwnI w base xs[i] ls[i]
theorem OwnRR.rows {w : World} {base : Nat} {v : Value} {ls : List (List Int)} (h : OwnRR w base v ls) : IRows w v ls := by
  obtain ⟨xs, h1, h2, h3⟩ := h
  exact ⟨xs, Sl.ofOwn h1, h2, fun i h h' => (h3 i h h').ints⟩
theorem OwnRR.nil (w : World) (base : Nat) : OwnRR w base (.slice none 0 0) [] := ⟨[], World.ownsRow_nil _ _ _ _, rfl, fun i h _ => absurd h (by simp)⟩
theorem OwnRR.ext {w w' : World} {base : Nat} {v : Value} {ls : List (List Int)} (h : OwnRR w base v ls) (hE : Ext w w') : OwnRR w' base v ls := by
  obtain ⟨xs, h1, h2, h3⟩ := h
  exact ⟨xs, rowExt h1 hE, h2, fun i h h' => (h3 i h h').ext hE⟩
theorem OwnRR.but {w w' : World} {base p : Nat} {v : Value} {ls : List (List Int)} {cs : Array Value} {t : TypeId} {fr : Nat × Nat} (h : OwnRR w base v ls) (hp : w.heap[p]? = some (.cells cs t fr)) (ht : t ≠ 3) (ht2 : t ≠ 22) (hB : But p w w') : OwnRR w' base v ls := by
  obtain ⟨xs, h1, h2, h3⟩ := h
  exact ⟨xs, rowBut h1 (rowBeside h1 hp ht2) hB, h2, fun i h h' => (h3 i h h').but hp ht hB⟩
theorem OwnRR.slice {w : World} {base : Nat} {v : Value} {ls : List (List Int)} (h : OwnRR w base v ls) : ∃ a n c, v = .slice a n c := by
  obtain ⟨xs, h1, _⟩ := h
  exact ownSlice h1
theorem OwnRR.lower {w : World} {base b : Nat} {v : Value} {ls : List (List Int)} (h : OwnRR w base v ls) (hb : b ≤ base) : OwnRR w b v ls := by
  obtain ⟨xs, h1, h2, h3⟩ := h
  exact ⟨xs, rowLower h1 hb, h2, fun i h h' => (h3 i h h').lower hb⟩
/-- One row more. -/
theorem OwnRR.snoc {w w' : World} {base : Nat} {v v' x : Value} {ls : List (List Int)} {l : List Int} {xs : List Value} (h1 : w.ownsRow base 22 1 v ls.length xs) (h2 : xs.length = ls.length) (h3 : ∀ i (h : i < xs.length) (h' : i < ls.length), OwnI w base xs[i] ls[i])
    (hx : OwnI w base x l) (hg : w.grownBy w' v.ownBlock) (hn : w'.ownsRow base 22 1 v' (ls.length + 1) (xs ++ [x])) : OwnRR w' base v' (ls ++ [l]) := by
  refine ⟨xs ++ [x], by simpa using hn, by simp [h2], fun i hi hi' => ?_⟩
  simp only [List.length_append, List.length_cons, List.length_nil] at hi hi'
  rcases Nat.lt_or_ge i xs.length with hlt | hge
  · rw [List.getElem_append_left hlt, List.getElem_append_left (by omega)]
    exact (h3 i hlt (by omega)).grown h1 hg
  · obtain rfl : i = xs.length := by omega
    rw [List.getElem_append_right (by omega), List.getElem_append_right (by omega)]
    simpa [h2] using hx.grown h1 hg
theorem oneSlice {x : Value} (h : ∃ a n c, x = .slice a n c) : ∀ y ∈ [x], y.oneCell' = true := by
  intro y hy
  obtain ⟨a, n, c, rfl⟩ := h
  obtain rfl := List.mem_singleton.1 hy
  rfl
theorem slOne (w : World) (x : Value) (e : TypeId) : Sl (w.alloc (.cells #[x] e)) (.slice (some ⟨w.heap.size, 0, none⟩) 1 1) [x] :=
  Sl.made w [x] e 1 (by simp) (by simp [maxLen]) (fr := (0, 0))
end Go.Proofs.Ytpfodkgncachiaa
