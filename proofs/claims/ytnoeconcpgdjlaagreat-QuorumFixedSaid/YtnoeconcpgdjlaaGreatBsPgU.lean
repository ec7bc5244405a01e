import Derived.Lib.SlBytesConst
import Derived.Test.YtnoeconcpgdjlaaGreatBsPgH
namespace Go.Proofs.YtnoeconcpgdjlaaGreat
set_option linter.unusedSimpArgs false
set_option linter.unusedVariables false
set_option maxRecDepth 100000
open Go.RowKit
theorem Appended.below {w w' : World} {B base p : Nat} {va vp va' vp' : Value} {S : Page.St} {b : List UInt8} (h : Appended w base p va vp S b w' va' vp') (hs : IsSto w base p va vp S) (hB : B <= base) (hp : B <= p) (hw : B <= w.heap.size) : Below B w w' :=
 ⟨h.os, h.tape, h.output, h.size, fun k hk => h.block k (by omega) (by omega) (ziz hs.all (by omega)) (ziz hs.places (by omega))⟩
theorem Bytes.slOne {w : World} (x : UInt8) (n : Int) (hn : n = (x.toNat : Int)) : Bytes (w.alloc (.cells #[.int .u8 n] 5 (1, 2))) (.slice (some ⟨w.heap.size, 0, none⟩) 1 1) [x] := by
 subst hn
 exact Sl.made w (u8s [x]) 5 1 rfl (by simp [maxLen])
namespace Page
end Page
end Go.Proofs.YtnoeconcpgdjlaaGreat
