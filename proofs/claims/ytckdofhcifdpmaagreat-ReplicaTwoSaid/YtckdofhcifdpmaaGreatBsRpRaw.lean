/-
  Merged: Layer 11: a seat, a last message, two rows of picks, out of what comes in.
-/
import Derived.OpenShut
import Derived.Test.YtckdofhcifdpmaaGreatBsMsg
import Derived.Test.YtckdofhcifdpmaaGreatBsRpN

namespace Go.Proofs.YtckdofhcifdpmaaGreat
set_option linter.unusedSimpArgs false
set_option linter.unusedVariables false
set_option maxRecDepth 100000
open Go.ChangeShapes Go.WideShapes Go.ChangeAt Go.RowKit
/- Layer 11: a seat, a last message, two rows of picks, out of what comes in. -/
section
variable {H : Type} {enc : TypeId × Value → H} {w : World} {base : Nat} {spare : Nat → Bool} {held : Bool}

theorem two11 {α : Type} {l : List α} (h : l.length = 2) : ∃ a b, l = [a, b] := by
  match l, h with
  | [a, b], _ => exact ⟨a, b, rfl⟩
theorem okWide_array11 {r : Reach} {b0 : Nat} {v : Value} {n : Nat} {e t : TypeId} (ht : Tryz.prog.underlying t = some (.array n e)) (h : Value.okWide Tryz.prog w r b0 t v) : ∃ cs, v = .agg cs ∧ cs.size = Tryz.prog.cellsOf t := by
  unfold Value.okWide at h
  rw [ht] at h
  obtain ⟨cs, rfl, hs, _⟩ := h
  exact ⟨cs, rfl, hs⟩
theorem picks_arg11 {r : Reach} {b0 : Nat} {v : Value} {d : DataW H} {p : List MemPlace} (hv : Value.okWide Tryz.prog w r b0 88 v) (h : DataW.Trod enc Tryz.prog w base spare held 88 v d p) :
    ∃ (u0 u1 : Value) (l0 l1 : List Int), v = .agg #[u0, u1] ∧ Ints w u0 l0 ∧ Ints w u1 l1 := by
  obtain ⟨cs, rfl, hsz⟩ := okWide_array11 Tryz.underlying88 hv
  obtain ⟨fuel, hf⟩ := h
  obtain ⟨xs, m, _, _, hl, hlen, hf⟩ := DataW.trod_array Tryz.underlying88 hf
  have hc : Tryz.prog.cellsOf 88 = 2 := by kernel_rfl
  have hi : Tryz.prog.cellsOf 22 = 1 := by kernel_rfl
  obtain ⟨l⟩ := cs
  have hl' : l.length = 2 := by rw [← hc]; exact hl
  obtain ⟨c0, c1, rfl⟩ := two11 hl'
  obtain ⟨y0, y1, rfl⟩ := two11 hlen
  have f0 : DataW.trod enc Tryz.prog w base spare held m 22 [c0] = some y0 := by have := hf 0 (by omega); rw [hi] at this; exact this
  have f1 : DataW.trod enc Tryz.prog w base spare held m 22 [c1] = some y1 := by have := hf 1 (by omega); rw [hi] at this; exact this
  obtain ⟨v0, l0, e0, i0, _⟩ := intsFull f0
  obtain ⟨v1, l1, e1, i1, _⟩ := intsFull f1
  injection e0 with e0 _
  injection e1 with e1 _
  subst e0 e1
  exact ⟨_, _, l0, l1, rfl, i0, i1⟩
end
end Go.Proofs.YtckdofhcifdpmaaGreat
