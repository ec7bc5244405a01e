/-
  Merged: A range over a function whose loop variable lies in a block that each round makes anew, and whose rounds may break off.
-/
import Derived.Test.YtkpcmedmiiohnaaBsRound

namespace Go.Proofs.Ytkpcmedmiiohnaa
set_option linter.unusedSimpArgs false
set_option linter.unusedVariables false
open Go.RowKit Go.Shelf
/- A range over a function whose loop variable lies in a block that each round makes anew, and whose rounds may break off. No program. -/
section
variable {F : Fence} {n : Nat} {P : Program}
theorem wpIn_rangeAlloc {α : Type} {g : Operand} {ps : Array Tmp} {assign body : Code} {Q : Exit → Act → World → Prop} {a : Act} {w : World}
    (hro : F.round = none) (h1 : 1 ≤ n) {gf : Nat} {lb : Array Value} (hg : a.eval g = .func (.func gf) #[] lb) (hFg : F.fn gf) (eg : ∀ args w, (callFunc gf args).run P w = .ok (.enter gf args) w)
    {encs : α → Array Value} {Kp : World → World → Prop} {S Sp : List α → Prop} {N : Nat} {w0 : World} (hseq : SeqStopsK F (n - 1) P gf lb encs Kp S Sp N w0)
    (hKt : ∀ A B C : World, Kp A B → Kp B C → Kp A C) (hKb : ∀ (W : World) (l : Nat) (o o' : Obj), w.heap.size ≤ l → W.heap[l]? = some o → o.isCells = false → o.isWalk = false → Kp W (W.putObj l o')) (hb0 : Below w0.heap.size w0 w) (hps : ∀ x, (encs x).size = ps.size)
    (I : List α → World → Prop) (Ix : Code → List α → World → Prop) (hI : OwnFrom w.heap.size I) (hIx : ∀ c, OwnFrom w.heap.size (Ix c)) (h0 : I [] w)
    (gx : α → World → World) (a₁ : α → Nat → Act) (Ib : List α → α → Nat → World → Prop)
    (hassign : ∀ (l : Nat) (x : α) (W : World) (K : Act → World → Prop), K (a₁ x W.heap.size) (gx x W) →
      assign.wpIn (F.inRound l) (n - 1 - 1) P (Exit.then K (fun _ _ _ => False)) { tmps := (ps.zip (encs x)).foldl (fun t (p, v) => t.setIfInBounds p v) a.tmps, defers := [] } W)
    (hgx : ∀ (pre : List α) (x : α) (W : World), I pre W → Ib pre x W.heap.size (gx x W) ∧ KeepsFrom w.heap.size W (gx x W) ∧ Kp W (gx x W)) (hIb : ∀ (x : α) (q : Nat), OwnFrom w.heap.size (fun pre W => Ib pre x q W))
    (hbody : ∀ (l : Nat) (pre : List α) (x : α) (q : Nat) (X : World), Ib pre x q X → pre.length < N → body.wpIn (F.inRound l) (n - 1 - 1) P (ownPostG w.heap.size Kp I Ix (pre ++ [x]) X) (a₁ x q) X)
    (hdone : ∀ (D : Nat) (xs : List α) (W : World), w.heap.size ≤ D → S xs → I xs W → W.heap[D]? = some (.deferred (some [])) → Q .normal { a with defers := { target := .collected D, args := #[] } :: a.defers } W)
    (hstop : ∀ (D : Nat) (c : Code) (pre : List α) (W : World), w.heap.size ≤ D → Sp pre → Ix c pre W → W.heap[D]? = some (.deferred (some [])) → c.wpIn F n P Q { a with defers := { target := .collected D, args := #[] } :: a.defers } W) :
    (Code.rangeFunc g ps assign body).wpIn F n P Q a w := by
  refine wpIn_rangeFunc fun fn hfn => ?_
  rw [hro]
  let rc : LoopState → Option Code → Loop := fun st pe => { state := st, pending := pe, fn, tmps := a.tmps, params := ps, assign, body, defers := w.heap.size }
  have hrc : ∀ st pe, rc st pe = { state := st, pending := pe, fn, tmps := a.tmps, params := ps, assign, body, defers := w.heap.size } := fun _ _ => rfl
  obtain ⟨V, hV⟩ : ∃ V, (w.alloc (.deferred (some []))).alloc (.loop (rc .ready none)) = V := ⟨_, rfl⟩
  have hVs : V.heap.size = w.heap.size + 2 := by rw [← hV]; simp
  have hVl : V.heap[w.heap.size + 1]? = some (.loop (rc .ready none)) := by
    have := World.alloc_heap_new (w.alloc (.deferred (some []))) (.loop (rc .ready none))
    rw [World.size_alloc, hV] at this
    exact this
  have hVd : V.heap[w.heap.size]? = some (.deferred (some [])) := by
    rw [← hV]
    exact (Below.heap_alloc _ _ _ (by simp)).trans (World.alloc_heap_new w _)
  have hVI : I [] V := by rw [← hV]; exact hI.alloc _ (hI.alloc _ h0)
  have hVb : Below w0.heap.size w0 V := by
    rw [← hV]
    exact hb0.trans ((((Below.refl _ w).alloc (Nat.le_refl _) _).alloc (by simp) _).mono hb0.size)
  refine ⟨w.heap.size + 1, [{ target := .collected w.heap.size, args := #[] }], V, { target := .fn (.func gf) lb, args := #[.func (.yield (w.heap.size + 1)) #[] #[]] }, V, gf, #[.func (.yield (w.heap.size + 1)) #[] #[]] ++ lb, V, ?_, ?_, ?_, ?_, fun _ => h1, ?_⟩
  · rw [← hV]; exact run_enterLoop_outer _ _ _ _ _
  · simp only [resolve, hg]
    simp [go_sem]
  · intro f hf
    simp [Target.leads] at hf
    subst hf
    exact hFg
  · simp [invoke, go_sem, eg]
  · have hnw : ∀ {A : World} {row : Option Nat}, (∀ r, row = some r → V.heap.size ≤ r ∧ ∃ o : Obj, A.heap[r]? = some o ∧ o.isWalk = true) → ∀ r, row = some r → w.heap.size ≤ r ∧ ∃ o : Obj, A.heap[r]? = some o ∧ o.isCells = false := by
      intro A row hr r e
      obtain ⟨hB, o, ho, hw⟩ := hr r e
      exact ⟨by omega, o, ho, Obj.not_cells_of_walk hw⟩
    refine (hseq (w.heap.size + 1) (fun pre W => I pre W ∧ W.heap[w.heap.size + 1]? = some (.loop (rc .ready none)) ∧ W.heap[w.heap.size]? = some (.deferred (some [])))
      (fun pre W => ∃ c, Ix c pre W ∧ W.heap[w.heap.size + 1]? = some (.loop (rc .done (some c))) ∧ W.heap[w.heap.size]? = some (.deferred (some []))) V hVb ?_ ?_ ?_ ⟨hVI, hVl, hVd⟩).mono ?_
    · rintro s A C row ⟨hi, hl, hd⟩ hg' hr
      exact ⟨hI s A C row hi hg' (hnw hr), (grownBy_keeps hg' (fun r e => (hr r e).2) hl rfl).trans hl, (grownBy_keeps hg' (fun r e => (hr r e).2) hd rfl).trans hd⟩
    · rintro s A C row ⟨c, hi, hl, hd⟩ hg' hr
      exact ⟨c, hIx c s A C row hi hg' (hnw hr), (grownBy_keeps hg' (fun r e => (hr r e).2) hl rfl).trans hl, (grownBy_keeps hg' (fun r e => (hr r e).2) hd rfl).trans hd⟩
    · rintro pre x W ⟨hi, hl, hd⟩ hlen
      obtain ⟨hb, hk, hkp⟩ := hgx pre x W hi
      have hGl := hk.same _ _ (by omega) hl rfl
      have hGd := hk.same _ _ (Nat.le_refl _) hd rfl
      have hlt : w.heap.size + 1 < (gx x W).heap.size := (Array.getElem?_eq_some_iff.1 hGl).1
      refine ⟨fn, _, assign, body, run_yield hl (hps x), roundIn_of_wpIn hfn (hassign _ x W _ ⟨_, run_beginRound hGl rfl, ?_⟩)⟩
      generalize hX : (gx x W).putObj (w.heap.size + 1) (.loop { rc .ready none with state := .busy }) = X
      have hXl : X.heap[w.heap.size + 1]? = some (.loop { rc .ready none with state := .busy }) := by rw [← hX]; exact World.putObj_heap_same hlt
      have hXd : X.heap[w.heap.size]? = some (.deferred (some [])) := by rw [← hX]; exact (World.putObj_heap_other (by omega)).trans hGd
      have hXk : Kp W X := by rw [← hX]; exact hKt _ _ _ hkp (hKb _ _ _ _ (by omega) hGl rfl rfl)
      have hXi : Ib pre x W.heap.size X := by rw [← hX]; exact (hIb x W.heap.size).putObj _ hb (by omega) hGl rfl
      refine wpIn_mono (hbody _ pre x W.heap.size X hXi hlen) fun e a3 Y hY => ?_
      have fin : ∀ (jump : Option Code), KeepsFrom w.heap.size X Y → (Instr.endRound (w.heap.size + 1) jump).run P Y = .ok (.bool jump.isNone) (Y.putObj (w.heap.size + 1) (.loop (rc (if jump.isNone then .ready else .done) jump))) ∧
          Y.heap[w.heap.size + 1]? = some (.loop { rc .ready none with state := .busy }) ∧ (Y.putObj (w.heap.size + 1) (.loop (rc (if jump.isNone then .ready else .done) jump))).heap[w.heap.size + 1]? = some (.loop (rc (if jump.isNone then .ready else .done) jump)) ∧
          (Y.putObj (w.heap.size + 1) (.loop (rc (if jump.isNone then .ready else .done) jump))).heap[w.heap.size]? = some (.deferred (some [])) := fun jump k1 => by
        have hYl := k1.same _ _ (by omega) hXl rfl
        have hYd := k1.same _ _ (Nat.le_refl _) hXd rfl
        exact ⟨run_endRound jump hYl, hYl, World.putObj_heap_same (Array.getElem?_eq_some_iff.1 hYl).1, (World.putObj_heap_other (by omega)).trans hYd⟩
      cases e with
      | normal =>
        obtain ⟨k1, k2, k3⟩ := hY
        obtain ⟨hr, hYl, h4, h5⟩ := fin none k1
        exact ⟨_, _, hr, .inl ⟨rfl, ⟨hI.putObj _ k3 (by omega) hYl rfl, h4, h5⟩, hKt _ _ _ (hKt _ _ _ hXk k2) (hKb _ _ _ _ (by omega) hYl rfl rfl)⟩⟩
      | ret =>
        obtain ⟨k1, k3⟩ := hY
        obtain ⟨hr, hYl, h4, h5⟩ := fin (some .ret) k1
        exact ⟨_, _, hr, .inr ⟨rfl, .ret, (hIx _).putObj _ k3 (by omega) hYl rfl, h4, h5⟩⟩
      | exit id =>
        obtain ⟨k1, k3⟩ := hY
        obtain ⟨hr, hYl, h4, h5⟩ := fin (some (.exit id)) k1
        exact ⟨_, _, hr, .inr ⟨rfl, .exit id, (hIx _).putObj _ k3 (by omega) hYl rfl, h4, h5⟩⟩
      | goto t =>
        obtain ⟨k1, k3⟩ := hY
        obtain ⟨hr, hYl, h4, h5⟩ := fin (some (.goto t)) k1
        exact ⟨_, _, hr, .inr ⟨rfl, .goto t, (hIx _).putObj _ k3 (by omega) hYl rfl, h4, h5⟩⟩
      | panic ch => exact hY.elim
      | outgrown => exact hY.elim
    · rintro e W ⟨⟨v, rfl⟩, (⟨xs, hS, hi, hl, hd⟩ | ⟨pre, hSp, c, hi, hl, hd⟩)⟩
      · exact ⟨none, _, run_endLoop hl (by rw [hrc]; simp), hdone _ xs _ (Nat.le_refl _) hS (hI.putObj _ hi (by omega) hl rfl) ((World.putObj_heap_other (by omega)).trans hd)⟩
      · exact ⟨some c, _, run_endLoop hl (by rw [hrc]; simp), hstop _ c pre _ (Nat.le_refl _) hSp ((hIx c).putObj _ hi (by omega) hl rfl) ((World.putObj_heap_other (by omega)).trans hd)⟩
end
end Go.Proofs.Ytkpcmedmiiohnaa
