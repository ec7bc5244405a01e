import Derived.Lib.SliceRun
import Derived.Deep.RegionLaw
import Derived.Test.YtnoeconcpgdjlaaGreatBsLib
import Derived.Test.YtnoeconcpgdjlaaGreatBsMath2
import Derived.Test.YtnoeconcpgdjlaaGreatBsPack
import Derived.Test.YtnoeconcpgdjlaaGreatBsPgA
import Derived.Test.YtnoeconcpgdjlaaGreatBsPgH
import Derived.Test.YtnoeconcpgdjlaaGreatBsPgO
import Derived.Test.YtnoeconcpgdjlaaGreatBsPgV
import Derived.Test.YtnoeconcpgdjlaaGreatBsPgW
import Derived.Test.YtnoeconcpgdjlaaGreatBsRec
import Derived.Test.YtnoeconcpgdjlaaGreatBsVec
namespace Go.Proofs.YtnoeconcpgdjlaaGreat
set_option linter.unusedSimpArgs false
set_option linter.unusedVariables false
set_option maxRecDepth 100000
open Go.RowKit
def TagI (w : World) (vp v : Value) (l : List Int) : Prop := RowI w v l /\ ∀ k, v.ownBlock = some k -> vp.ownBlock ≠ some k
theorem TagI.ext {w w' : World} {vp v : Value} {l : List Int} (h : TagI w vp v l) (hE : Ext w w') : TagI w' vp v l := ⟨h.1.ext hE, h.2⟩
theorem TagI.butT {w w' : World} {vp v : Value} {l : List Int} {q : Nat} {cs : Array Value} {t : TypeId} {fr : Nat × Nat} (h : TagI w vp v l) (hq : w.heap[q]? = some (.cells cs t fr)) (ht : t ≠ 3) (hb : But q w w') : TagI w' vp v l := ⟨h.1.but hq ht hb, h.2⟩
theorem RowI.same {w w' : World} {v : Value} {l : List Int} (h : RowI w v l) (hk : ∀ k, v.ownBlock = some k -> w'.heap[k]? = w.heap[k]?) : RowI w' v l := by
 obtain ⟨b, n, h⟩ := h
 exact ⟨b, n, za1 h hk⟩
theorem RowI.at {w : World} {v : Value} {l : List Int} {k : Nat} (h : RowI w v l) (hk : v.ownBlock = some k) : ∃ cur, w.heap[k]? = some (.cells cur 3 (0, 0)) := by
 obtain ⟨b, n, h⟩ := h
 exact ownAt h hk
theorem RowF.low {B C : Nat} {w : World} {v : Value} {l : List Int} (h : RowF C w v l) (hB : B <= C) : ∀ k, v.ownBlock = some k -> B <= k := by
 obtain ⟨b, n, hb, h⟩ := h
 exact fun k hk => Nat.le_trans hB (Nat.le_trans hb (h.lt k hk).1)
theorem RowF.tag {B : Nat} {w : World} {vp v : Value} {l : List Int} (h : RowF B w v l) (hv : ∀ k, vp.ownBlock = some k -> k < B) : TagI w vp v l := by
 obtain ⟨b, n, hb, h⟩ := h
 refine ⟨⟨b, n, h⟩, fun k hk e => ?_⟩
 have h1 := (h.lt k hk).1
 have h2 := hv k e
 omega
section
variable {w w' : World} {B g p : Nat} {vp lv : Value} {ps : List (Value × Rec.R)} {W : Seg.What} {safe : Nat} {br : Bool}
end
theorem zsz {w : World} {base g n cap size : Nat} {e : TypeId} {xs : List Value} (h : w.ownsRow base e size (.slice (some ⟨g, 0, none⟩) n cap) n xs) (k : Nat) (hk : k <= n) : w.ownsRow base e size (.slice (some ⟨g, 0, none⟩) k cap) k (xs.take (k * size)) := by
 obtain ⟨h1, h2⟩ := h
 have hm : k * size <= n * size := Nat.mul_le_mul_right _ hk
 refine ⟨by rw [List.length_take]; omega, ?_⟩
 rcases h2 with ⟨hv, _⟩ | ⟨g', cap', cur, hv, q1, q2, q3, q4, q5, q6⟩
 . cases hv
 . injection hv with e1 e2 e3
   injection e1 with e1
   injection e1 with e1
   subst e1 e3
   refine .inr ⟨g, cap, cur, rfl, q1, q2, by omega, q4, q5, ?_⟩
   rw [<- q6, List.take_take]
   congr 1
   omega
namespace Seg
end Seg
section
variable {w w' : World} {B g p : Nat} {vp lv : Value} {ps : List (Value × Rec.R)} {W : Seg.What} {safe : Nat} {br : Bool}
end
structure Twixt (B U : Nat) (w w' : World) : Prop where
 os : w'.os = w.os
 tape : w'.tape = w.tape
 output : w'.output = w.output
 size : w.heap.size <= w'.heap.size
 block : ∀ k, k < w.heap.size -> k < B \/ U <= k -> w'.heap[k]? = w.heap[k]?
theorem Twixt.ext {B U : Nat} {w w' : World} (h : Ext w w') : Twixt B U w w' := ⟨h.os, h.tape, h.output, h.size, fun k hk _ => h.block k hk⟩
theorem Twixt.trans {B U : Nat} {a b c : World} (h : Twixt B U a b) (k : Twixt B U b c) : Twixt B U a c := ⟨k.os.trans h.os, k.tape.trans h.tape, k.output.trans h.output, Nat.le_trans h.size k.size, fun i hi hu => (k.block i (Nat.lt_of_lt_of_le hi h.size) hu).trans (h.block i hi hu)⟩
theorem Twixt.below {B U : Nat} {w w' : World} (h : Twixt B U w w') (hB : B <= w.heap.size) : Below B w w' := ⟨h.os, h.tape, h.output, h.size, fun k hk => h.block k (by omega) (.inl hk)⟩
theorem Twixt.but {B U p : Nat} {w w' : World} (h : But p w w') (h1 : B <= p) (h2 : p < U) : Twixt B U w w' := ⟨h.os, h.tape, h.output, h.size, fun k hk hu => h.block k hk (by omega)⟩
theorem Twixt.grown {B U : Nat} {w w' : World} {o : Option Nat} (h : w.grownBy w' o) (ho : ∀ k, o = some k -> B <= k /\ k < U) : Twixt B U w w' := ⟨h.os, h.tape, h.output, h.size, fun k hk hu => h.block k hk (fun e => by have := ho k e.symm; omega)⟩
section
variable {w w' : World} {B U g p : Nat} {va vp lv : Value} {ps : List (Value × Rec.R)} {G : Seg.Sg}
end
section
variable {S : Nat -> Prop} {a b c w w' : World}
theorem Twixt.tws {B U : Nat} (h : Twixt B U w w') : TwS (fun k => B <= k /\ k < U) w w' := ⟨h.os, h.tape, h.output, h.size, fun k hk hu => h.block k hk (by omega)⟩
end
section
variable {w w' : World} {B g p : Nat} {S : Nat -> Prop} {va vp lv va' vp' lv' : Value} {ps ps' : List (Value × Rec.R)} {G G' : Seg.Sg}
def OrNew (w : World) (v v' : Value) : Prop := ∀ k, v'.ownBlock = some k -> v.ownBlock = some k \/ w.heap.size <= k
theorem OrNew.refl (w : World) (v : Value) : OrNew w v v := fun _ h => .inl h
theorem OrNew.same {v v' : Value} (h : v'.ownBlock = v.ownBlock) : OrNew w v v' := fun _ hk => .inl (h ▸ hk)
theorem OrNew.of {w1 : World} {v v' : Value} (hs : w.heap.size <= w1.heap.size) (h : v' = v \/ v'.ownBlock = v.ownBlock \/ ∀ k, v'.ownBlock = some k -> w1.heap.size <= k) : OrNew w v v' := fun k hk => by
 rcases h with h | h | h
 . exact .inl (h ▸ hk)
 . exact .inl (h ▸ hk)
 . exact .inr (Nat.le_trans hs (h k hk))
end
def TagsNew (w : World) (ps ps' : List (Value × Rec.R)) : Prop := ∀ q ∈ ps', ∀ k, q.1.ownBlock = some k -> (∃ r ∈ ps, r.1.ownBlock = some k) \/ w.heap.size <= k
theorem TagsNew.refl (w : World) (ps : List (Value × Rec.R)) : TagsNew w ps ps := fun q hq k hk => .inl ⟨q, hq, hk⟩
theorem TagsNew.drop (w : World) (ps : List (Value × Rec.R)) (n : Nat) : TagsNew w ps (ps.drop n) := fun q hq k hk => .inl ⟨q, List.mem_of_mem_drop hq, hk⟩
theorem TagsNew.snoc {w : World} {ps : List (Value × Rec.R)} {t : Value} {r : Rec.R} (h : ∀ k, t.ownBlock = some k -> w.heap.size <= k) : TagsNew w ps (ps ++ [(t, r)]) := fun q hq k hk =>
 (List.mem_append.1 hq).elim (fun e => .inl ⟨q, e, hk⟩) (fun e => by obtain rfl := List.mem_singleton.1 e; exact .inr (h k hk))
theorem TagsNew.fresh {w : World} {ps ps' : List (Value × Rec.R)} {C : Nat} (hC : w.heap.size <= C) (h : ∀ q ∈ ps', ∀ k, q.1.ownBlock = some k -> C <= k) : TagsNew w ps ps' := fun q hq k hk => .inr (Nat.le_trans hC (h q hq k hk))
section
variable {w w' : World} {B U g p : Nat} {va vp lv : Value} {ps : List (Value × Rec.R)} {G : Seg.Sg}
end
theorem RowF.ext {B : Nat} {w w' : World} {v : Value} {l : List Int} (h : RowF B w v l) (hE : Ext w w') : RowF B w' v l := by
 obtain ⟨b, n, hb, h⟩ := h
 exact ⟨b, n, hb, za0 h hE⟩
theorem RowF.but {B p : Nat} {w w' : World} {v : Value} {l : List Int} {cs : Array Value} {t : TypeId} {fr : Nat × Nat} (h : RowF B w v l) (hp : w.heap[p]? = some (.cells cs t fr)) (ht : t ≠ 3) (hB : But p w w') : RowF B w' v l := by
 obtain ⟨b, n, hb, h⟩ := h
 exact ⟨b, n, hb, zbe h (zaj h hp ht) hB⟩
theorem RowF.lower {B B' : Nat} {w : World} {v : Value} {l : List Int} (h : RowF B w v l) (hB : B' <= B) : RowF B' w v l := by
 obtain ⟨b, n, hb, h⟩ := h
 exact ⟨b, n, Nat.le_trans hB hb, h⟩
structure OwnRecs (B : Nat) (w : World) (v : Value) (qs : List (Value × Rec.R)) : Prop where
 row : w.ownsRow B 44 4 v qs.length (zst qs)
 tags : ∀ q ∈ qs, RowF B w q.1 q.2.tags
theorem OwnRecs.ext {B : Nat} {w w' : World} {v : Value} {qs : List (Value × Rec.R)} (h : OwnRecs B w v qs) (hE : Ext w w') : OwnRecs B w' v qs := ⟨za0 h.row hE, fun q hq => (h.tags q hq).ext hE⟩
end Go.Proofs.YtnoeconcpgdjlaaGreat
namespace Go.Proofs.YtnoeconcpgdjlaaGreat
set_option linter.unusedSimpArgs false
set_option linter.unusedVariables false
set_option maxRecDepth 100000
open Go.ChangeShapes Go.WideShapes Go.ChangeAt Go.RowKit
namespace Seg
end Seg
def OpHere9 (w : World) (b off : Nat) (o : Seg.Op) : Prop := ∃ t : Value, w.cell? ⟨b, off, none⟩ = some (.int .i64 o.kind) /\ w.cell? ⟨b, off + 1, none⟩ = some (.int .i64 o.n) /\ w.cell? ⟨b, off + 2, none⟩ = some (.int .i64 o.r.client) /\ w.cell? ⟨b, off + 3, none⟩ = some (.int .i64 o.r.number) /\ w.cell? ⟨b, off + 4, none⟩ = some t /\ w.cell? ⟨b, off + 5, none⟩ = some (.string ⟨o.r.data.toArray⟩) /\ w.cell? ⟨b, off + 6, none⟩ = some (.bool o.is) /\ Ints w t o.r.tags
theorem OpHere9.below {w w' : World} {b off : Nat} {o : Seg.Op} (h : OpHere9 w b off o) (hb : Below w.heap.size w w') : OpHere9 w' b off o := by
 obtain ⟨t, h0, h1, h2, h3, h4, h5, h6, ht⟩ := h
 exact ⟨t, zbi h0 hb, zbi h1 hb, zbi h2 hb, zbi h3 hb, zbi h4 hb, zbi h5 hb, zbi h6 hb, ht.below hb⟩
def Ops9 (w : World) (v : Value) (l : List Seg.Op) : Prop :=
 ∃ (a : Option Addr) (cap : Nat), v = .slice a l.length cap /\ l.length <= cap /\ cap <= maxLen /\ (a = none -> cap = 0) /\ ∀ i (h : i < l.length), ∃ b off, a = some ⟨b, off, none⟩ /\ OpHere9 w b (off + i * 7) l[i]
theorem Ops9.below {w w' : World} {v : Value} {l : List Seg.Op} (h : Ops9 w v l) (hb : Below w.heap.size w w') : Ops9 w' v l := by
 obtain ⟨a, cap, rfl, h1, h2, h4, h3⟩ := h
 refine ⟨a, cap, rfl, h1, h2, h4, fun i hi => ?_⟩
 obtain ⟨b, off, ha, ho⟩ := h3 i hi
 exact ⟨b, off, ha, ho.below hb⟩
theorem Ops9.len {w : World} {a : Option Addr} {n c : Nat} {l : List Seg.Op} (h : Ops9 w (.slice a n c) l) : n = l.length /\ n <= c /\ c <= 9223372036854775807 := by
 obtain ⟨a', c', e, h1, h2, _, _⟩ := h
 injection e with _ e2 e3
 subst e2 e3
 exact ⟨rfl, h1, h2⟩
section
variable {H : Type} {enc : TypeId × Value -> H} {w : World} {base : Nat} {spare : Nat -> Bool} {held : Bool}
end
end Go.Proofs.YtnoeconcpgdjlaaGreat
