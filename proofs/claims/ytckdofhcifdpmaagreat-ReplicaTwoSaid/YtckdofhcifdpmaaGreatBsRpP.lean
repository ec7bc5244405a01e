/-
  Merged: Layer 11: entries told, as the statements read them.
-/
import Derived.Test.YtckdofhcifdpmaaGreatBsRpO

namespace Go.Proofs.YtckdofhcifdpmaaGreat
set_option linter.unusedSimpArgs false
set_option linter.unusedVariables false
set_option maxRecDepth 100000
open Go.RowKit
/- Layer 11: entries told, as the statements read them. -/
theorem IsRepS.bounds {w : World} {B x p : Nat} {S : Nat → Prop} {va vp ev : Value} {es : List (Value × Ent.E)} {r : Rep.Rp} (h : IsRepS w B S x p va vp ev es r) : es.length ≤ 13107 ∧ ∀ q ∈ es, q.2.cut.length ≤ 1000000 := by
  refine ⟨?_, fun q hq => ?_⟩
  · have h1 := Rep.readF_len h.ok.is
    have h2 := Page.count_le r.s.l
    have h3 := h.ok.sto.max
    have h4 := h.lenR
    omega
  · have hm : q.2 ∈ r.w.l := by rw [← h.at'.ents]; exact List.mem_map.2 ⟨q, hq, rfl⟩
    have hr := (Ent.right_ok (Ent.isChain_right _ _ rfl h.ok.chain _ hm)).2
    rcases hr with ⟨_, hv, _⟩ | ⟨_, hv, _⟩
    · have := (Vec.right_ok hv).2.2
      omega
    · rw [hv]; simp
theorem Seat11.since {W w w' : World} {S : Nat → Prop} {x : Nat} {r : Rep.Rp} (h : Seat11 W S x r w) (ht : TwS S w w') : Below W.heap.size W w' :=
  Below.trans (B := W.heap.size) h.ext ⟨ht.os, ht.tape, ht.output, ht.size, fun k hk => ht.block k (Nat.lt_of_lt_of_le hk h.ext.size) (fun hs => by have := (h.low k hs).1; omega)⟩
end Go.Proofs.YtckdofhcifdpmaaGreat
