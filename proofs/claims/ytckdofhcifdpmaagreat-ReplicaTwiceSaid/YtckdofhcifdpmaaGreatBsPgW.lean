/-
  Merged: Layer 8, the statements' helpers: a row of places beside a store.
-/
import Derived.Test.YtckdofhcifdpmaaGreatRows
import Derived.Test.YtckdofhcifdpmaaGreatBsLib
import Derived.Test.YtckdofhcifdpmaaGreatBsPack2
import Derived.Test.YtckdofhcifdpmaaGreatBsPgV

namespace Go.Proofs.YtckdofhcifdpmaaGreat
set_option linter.unusedSimpArgs false
set_option linter.unusedVariables false
set_option maxRecDepth 100000
open Go.ChangeShapes Go.WideShapes Go.ChangeAt Go.RowKit
/- Layer 8, the statements' helpers: a row of places beside a store; what is read behind a crash; how long the parts of a row are. -/
theorem rowOwn {w w' : World} {base n size : Nat} {e : TypeId} {v : Value} {xs : List Value} (h : w.ownsRow base e size v n xs) (hs : ∀ g, v.ownBlock = some g → w'.heap[g]? = w.heap[g]?) : w'.ownsRow base e size v n xs := by
  refine ⟨h.1, ?_⟩
  rcases h.2 with h0 | ⟨g, cap, cur, rfl, hb, hg, hr⟩
  · exact .inl h0
  · exact .inr ⟨g, cap, cur, rfl, hb, (hs g rfl).trans hg, hr⟩
namespace Page
end Page
end Go.Proofs.YtckdofhcifdpmaaGreat
