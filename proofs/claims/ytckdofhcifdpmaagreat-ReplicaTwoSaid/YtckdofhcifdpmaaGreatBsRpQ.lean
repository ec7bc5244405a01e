/-
  Merged: Layer 11: entries told, in rows of their own.
-/
import Derived.Test.YtckdofhcifdpmaaGreatBsRpP

namespace Go.Proofs.YtckdofhcifdpmaaGreat
set_option linter.unusedSimpArgs false
set_option linter.unusedVariables false
set_option maxRecDepth 100000
open Go.RowKit
/- Layer 11: entries told, in rows of their own. -/
/-- The document's entries in an own row, with own cuts. -/
def OwnE11 (B : Nat) (w : World) (u : Value) (l : List Ent.E) : Prop := ∃ ps, w.ownsRow B 54 6 u ps.length (entFlat ps) ∧ (∀ q ∈ ps, RowN B w q.1 q.2.cut) ∧ ps.map (·.2) = l
section
variable {B : Nat} {w w' : World} {u : Value} {l : List Ent.E}
theorem OwnE11.ents (h : OwnE11 B w u l) : Ents w u l := by
  obtain ⟨ps, h1, h2, h3⟩ := h
  rw [← h3]
  exact ents_of_flat (fun q hq => (h2 q hq).row.ints) (SlN.ofOwn h1)
theorem OwnE11.blocks (h : OwnE11 B w u l) (hs : ∀ k, B ≤ k → k < w.heap.size → w'.heap[k]? = w.heap[k]?) : OwnE11 B w' u l := by
  obtain ⟨ps, h1, h2, h3⟩ := h
  exact ⟨ps, rowOwn h1 fun g hg => hs g (h1.lt g hg).1 (h1.lt g hg).2, fun q hq => (h2 q hq).blocks fun g hg => hs g ((h2 q hq).lt g hg).1 ((h2 q hq).lt g hg).2, h3⟩
theorem OwnE11.ext (h : OwnE11 B w u l) (hE : Ext w w') : OwnE11 B w' u l := h.blocks fun k _ hk => hE.block k hk
theorem OwnE11.tws {S : Nat → Prop} (h : OwnE11 B w u l) (ht : TwS S w w') (hS : ∀ k, k < w.heap.size → S k → k < B) : OwnE11 B w' u l := h.blocks fun k hk hk2 => ht.block k hk2 fun hs => by have := hS k hk2 hs; omega
theorem OwnE11.open (h : OwnE11 B w u l) : ∃ a n c, u = .slice a n c ∧ n = l.length := by
  obtain ⟨ps, h1, h2, h3⟩ := h
  obtain ⟨a, n, c, rfl⟩ := ownSlice h1
  exact ⟨a, n, c, rfl, by rw [← h3, List.length_map]; exact ownLen h1⟩
end
/-- Entries, by the replica. -/
def Own11 (w : World) (r : Rep.Rp) (e : Ending) (w' : World) : Prop := ∃ u ps, e = .returned u ∧ Ext w w' ∧ w'.ownsRow w.heap.size 77 6 u ps.length (entFlat ps) ∧ (∀ q ∈ ps, RowN w.heap.size w' q.1 q.2.cut) ∧ ps.map (·.2) = r.w.l ∧ ps.length ≤ 13107
theorem told11_own {w : World} {B x : Nat} {S : Nat → Prop} {r : Rep.Rp} (h : IsRep w B S x r) :
    Calls Tryz.prog 24 #[.pointer (some ⟨x, 0, none⟩)] w (Own11 w r) := by
  obtain ⟨p, va, vp, ev, es, h⟩ := h
  refine (entries11_any h.at' h.bounds.1 h.bounds.2).mono ?_
  rintro e w' ⟨u, ps, rfl, hE, hrow, hps, hq⟩
  refine ⟨u, ps, rfl, hE, hrow, hq, hps, ?_⟩
  have h1 := congrArg List.length hps
  have h2 := h.lenR
  have h3 := h.bounds.1
  simp at h1
  omega
def Show11 (B : Nat) (w : World) (l : List Ent.E) (e : Ending) (w' : World) : Prop := ∃ u, e = .returned u ∧ Ext w w' ∧ OwnE11 B w' u l
theorem shown11_own {w0 w : World} {r : Rep.Rp} {e : Ending} (h : Own11 w0 r e w) : ∃ v, e = .returned v ∧ Ext w0 w ∧ Calls Tryz.prog 23 #[v] w (Show11 w0.heap.size w r.w.l) := by
  obtain ⟨u, ps, rfl, hE, h1, h2, h3, h4⟩ := h
  refine ⟨u, rfl, hE, (entries11l_any u ps w (SlN.ofOwn h1) (fun q hq => (h2 q hq).row.ints) h4).mono ?_⟩
  rintro e w' ⟨v, rfl, hrow, hE'⟩
  exact ⟨v, rfl, hE', ps, rowLower hrow hE.size, fun q hq => (h2 q hq).ext hE', h3⟩
end Go.Proofs.YtckdofhcifdpmaaGreat
