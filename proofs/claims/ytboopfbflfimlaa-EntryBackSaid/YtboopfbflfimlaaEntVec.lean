/-
  Layer 5, mathematics: bytes as an entry, vectors read as the program and the document read them.
-/
import Derived.Test.YtboopfbflfimlaaEntRead
import Derived.Test.YtboopfbflfimlaaEntMore
import Derived.Test.YtboopfbflfimlaaVecBack
namespace Go.Proofs.Ytboopfbflfimlaa.Ent

/-- How a vector is read. -/
def vd (l : List UInt8) : List Int := orNone (decOk l) (decS l).2
theorem vecBytes_enc (v : List Int) : vecBytes v = Vec.enc v := rfl
theorem vd_back (v : List Int) (h : Vec.right v = true) : vd (vecBytes v) = v := by
  rw [vecBytes_enc]
  unfold vd
  rw [(Go.Proofs.Ytboopfbflfimlaa.dec_enc h).1, (Go.Proofs.Ytboopfbflfimlaa.dec_enc h).2, orNone_true]
theorem dec_vd_enc {e : E} (h : right e = true) : dec vd (enc e) = some e := Ent.dec_enc vd_back h
theorem dec_vd_iff {b : List UInt8} {e : E} : dec vd b = some e ↔ right e = true ∧ enc e = b := dec_iff vd_back
end Go.Proofs.Ytboopfbflfimlaa.Ent
