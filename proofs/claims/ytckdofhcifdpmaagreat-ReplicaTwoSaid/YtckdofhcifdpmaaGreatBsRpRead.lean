/-
  Merged: Layer 11, mathematics: what frames say, as the program reads them: all frames first, and whether they are a chain at the end.
-/
import Derived.Test.YtckdofhcifdpmaaGreatBsMath2

set_option linter.unusedSimpArgs false
set_option linter.unusedVariables false

/- Layer 11, mathematics: what frames say, as the program reads them: all frames first, and whether they are a chain at the end. -/
namespace Go.Proofs.YtckdofhcifdpmaaGreat.Rep
set_option linter.unusedSimpArgs false
set_option linter.unusedVariables false
open Ent (E)

def step2 (w : What) (f : List UInt8) : Option What :=
  if w.sealed = true then none else if f = [0] then some ⟨w.l, true⟩ else match Ent.dec Ent.vd f with
  | none => none
  | some e => some ⟨w.l ++ [e], false⟩
def readFrom2 (o : Option What) (fs : List (List UInt8)) : Option What := fs.foldl (fun o f => o.bind (step2 · f)) o
def readG (fs : List (List UInt8)) : Option What := readFrom2 (some ⟨[], false⟩) fs
theorem readFrom2_none : ∀ fs : List (List UInt8), readFrom2 none fs = none := by
  intro fs
  induction fs with
  | nil => rfl
  | cons f fs ih => exact ih
theorem readFrom2_append (o : Option What) (fs gs : List (List UInt8)) : readFrom2 o (fs ++ gs) = readFrom2 (readFrom2 o fs) gs := by
  unfold readFrom2
  rw [List.foldl_append]
theorem readG_snoc (fs : List (List UInt8)) (f : List UInt8) : readG (fs ++ [f]) = (readG fs).bind (step2 · f) := by
  unfold readG
  rw [readFrom2_append]
  rfl
theorem readG_succ {fs : List (List UInt8)} {k : Nat} (hk : k < fs.length) : readG (fs.take (k + 1)) = (readG (fs.take k)).bind (step2 · fs[k]) := by
  rw [List.take_succ_eq_append_getElem hk, readG_snoc]
theorem readG_stop {fs : List (List UInt8)} {k : Nat} (h : readG (fs.take k) = none) : readG fs = none := by
  have h1 : readG fs = readFrom2 (readG (fs.take k)) (fs.drop k) := by
    unfold readG
    rw [← readFrom2_append, List.take_append_drop]
  rw [h1, h, readFrom2_none]
def chk (w : What) : Option What := if Ent.chain w.l = w.l.length then some w else none
theorem readF_readG : ∀ (n : Nat) (fs : List (List UInt8)), fs.length = n → readF fs = (readG fs).bind chk := by
  intro n
  induction n with
  | zero =>
    intro fs hl
    rw [List.length_eq_zero_iff.1 hl]
    rfl
  | succ n ih =>
    intro fs hl
    obtain ⟨gs, f, rfl⟩ : ∃ gs f, fs = gs ++ [f] := ⟨fs.dropLast, fs.getLast (by intro e; rw [e] at hl; cases hl), (List.dropLast_concat_getLast _).symm⟩
    rw [readF_snoc, readG_snoc, ih gs (by simp at hl; omega)]
    cases hg : readG gs with
    | none => rfl
    | some v =>
      show (chk v).bind (step · f) = (step2 v f).bind chk
      unfold chk step2
      by_cases hc : Ent.chain v.l = v.l.length
      · rw [if_pos hc]
        show step v f = _
        unfold step
        by_cases hs : v.sealed = true
        · rw [if_pos hs, if_pos hs]
          rfl
        · rw [if_neg hs, if_neg hs]
          by_cases hf : f = [0]
          · rw [if_pos hf, if_pos hf]
            show _ = chk _
            unfold chk
            rw [if_pos hc]
          · rw [if_neg hf, if_neg hf]
            cases hd : Ent.dec Ent.vd f with
            | none => rfl
            | some e =>
              show (if Ent.follows v.l e = true then _ else _) = chk _
              unfold chk
              show _ = if Ent.chain (v.l ++ [e]) = (v.l ++ [e]).length then _ else _
              rw [Ent.chain_snoc, if_pos hc, List.length_append]
              by_cases hfo : Ent.follows v.l e = true
              · rw [if_pos hfo, if_pos hfo, if_pos (show v.l.length + 1 = v.l.length + [e].length from rfl)]
              · rw [if_neg hfo, if_neg hfo, if_neg (by simp)]
      · rw [if_neg hc]
        show none = _
        by_cases hs : v.sealed = true
        · rw [if_pos hs]
          rfl
        · rw [if_neg hs]
          by_cases hf : f = [0]
          · rw [if_pos hf]
            show _ = chk _
            unfold chk
            rw [if_neg hc]
          · rw [if_neg hf]
            cases hd : Ent.dec Ent.vd f with
            | none => rfl
            | some e =>
              show _ = chk _
              unfold chk
              show _ = if Ent.chain (v.l ++ [e]) = (v.l ++ [e]).length then _ else _
              have := Ent.chain_le v.l
              rw [Ent.chain_snoc, if_neg hc, List.length_append, if_neg (by simp; omega)]
theorem readF_is (fs : List (List UInt8)) : readF fs = (readG fs).bind chk := readF_readG _ fs rfl
theorem step2_len {w v : What} {f : List UInt8} (h : step2 w f = some v) : v.l.length ≤ w.l.length + 1 := by
  unfold step2 at h
  split at h
  · cases h
  · split at h
    · injection h with h
      subst h
      exact Nat.le_succ _
    · split at h
      · cases h
      · injection h with h
        subst h
        simp
theorem readG_len : ∀ (n : Nat) (fs : List (List UInt8)), fs.length = n → ∀ w, readG fs = some w → w.l.length ≤ n := by
  intro n
  induction n with
  | zero =>
    intro fs hl w h
    rw [List.length_eq_zero_iff.1 hl] at h
    injection h with h
    rw [← h]
    exact Nat.le_refl _
  | succ n ih =>
    intro fs hl w h
    obtain ⟨gs, f, rfl⟩ : ∃ gs f, fs = gs ++ [f] := ⟨fs.dropLast, fs.getLast (by intro e; rw [e] at hl; cases hl), (List.dropLast_concat_getLast _).symm⟩
    rw [readG_snoc] at h
    obtain ⟨v, hv, hs⟩ := Option.bind_eq_some_iff.1 h
    have h1 := ih gs (by simp at hl; omega) v hv
    have h2 := step2_len hs
    omega
theorem readF_len {fs : List (List UInt8)} {w : What} (h : readF fs = some w) : w.l.length ≤ fs.length := by
  rw [readF_is] at h
  obtain ⟨v, hv, hs⟩ := Option.bind_eq_some_iff.1 h
  have h1 := readG_len _ fs rfl v hv
  unfold chk at hs
  split at hs
  · injection hs with hs
    rw [← hs]
    exact h1
  · cases hs
end Go.Proofs.YtckdofhcifdpmaaGreat.Rep
