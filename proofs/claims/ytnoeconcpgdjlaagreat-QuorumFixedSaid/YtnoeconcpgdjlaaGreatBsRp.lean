import Derived.Test.YtnoeconcpgdjlaaGreatBsEnt
import Derived.Test.YtnoeconcpgdjlaaGreatBsEnt2
import Derived.Test.YtnoeconcpgdjlaaGreatBsLib
import Derived.Test.YtnoeconcpgdjlaaGreatBsMath2
import Derived.Test.YtnoeconcpgdjlaaGreatBsMsg
import Derived.Test.YtnoeconcpgdjlaaGreatBsPgH
import Derived.Test.YtnoeconcpgdjlaaGreatBsPgV
import Derived.Test.YtnoeconcpgdjlaaGreatBsSg
import Derived.Test.YtnoeconcpgdjlaaGreatBsTerm
set_option linter.unusedSimpArgs false
set_option linter.unusedVariables false
namespace Go.Proofs.YtnoeconcpgdjlaaGreat.Rep
open Ent (E)
def step2 (w : What) (f : List UInt8) : Option What :=
 if w.sealed = true then none else if f = [0] then some ⟨w.l, true⟩ else match Ent.dec Ent.vd f with
 | none => none
 | some e => some ⟨w.l ++ [e], false⟩
def zcj (o : Option What) (fs : List (List UInt8)) : Option What := fs.foldl (fun o f => o.bind (step2 · f)) o
def readG (fs : List (List UInt8)) : Option What := zcj (some ⟨[], false⟩) fs
theorem zgh : ∀ fs : List (List UInt8), zcj none fs = none := by
 intro fs
 induction fs with
 | nil => rfl
 | cons f fs ih => exact ih
theorem zdf (o : Option What) (fs gs : List (List UInt8)) : zcj o (fs ++ gs) = zcj (zcj o fs) gs := by
 unfold zcj
 rw [List.foldl_append]
theorem ze2 (fs : List (List UInt8)) (f : List UInt8) : readG (fs ++ [f]) = (readG fs).bind (step2 · f) := by
 unfold readG
 rw [zdf]
 rfl
theorem readG_succ {fs : List (List UInt8)} {k : Nat} (hk : k < fs.length) : readG (fs.take (k + 1)) = (readG (fs.take k)).bind (step2 · fs[k]) := by
 rw [List.take_succ_eq_append_getElem hk, ze2]
theorem readG_stop {fs : List (List UInt8)} {k : Nat} (h : readG (fs.take k) = none) : readG fs = none := by
 have h1 : readG fs = zcj (readG (fs.take k)) (fs.drop k) := by
  unfold readG
  rw [<- zdf, List.take_append_drop]
 rw [h1, h, zgh]
def chk (w : What) : Option What := if Ent.chain w.l = w.l.length then some w else none
theorem zkk : ∀ (n : Nat) (fs : List (List UInt8)), fs.length = n -> readF fs = (readG fs).bind chk := by
 intro n
 induction n with
 | zero =>
  intro fs hl
  rw [List.length_eq_zero_iff.1 hl]
  rfl
 | succ n ih =>
  intro fs hl
  obtain ⟨gs, f, rfl⟩ : ∃ gs f, fs = gs ++ [f] := ⟨fs.dropLast, fs.getLast (by intro e; rw [e] at hl; cases hl), (List.dropLast_concat_getLast _).symm⟩
  rw [zcy, ze2, ih gs (by simp at hl; omega)]
  cases hg : readG gs with
  | none => rfl
  | some v =>
   show (chk v).bind (step · f) = (step2 v f).bind chk
   unfold chk step2
   by_cases hc : Ent.chain v.l = v.l.length
   . rw [if_pos hc]
     show step v f = _
     unfold step
     by_cases hs : v.sealed = true
     . rw [if_pos hs, if_pos hs]
       rfl
     . rw [if_neg hs, if_neg hs]
       by_cases hf : f = [0]
       . rw [if_pos hf, if_pos hf]
         show _ = chk _
         unfold chk
         rw [if_pos hc]
       . rw [if_neg hf, if_neg hf]
         cases hd : Ent.dec Ent.vd f with
         | none => rfl
         | some e =>
          show (if Ent.follows v.l e = true then _ else _) = chk _
          unfold chk
          show _ = if Ent.chain (v.l ++ [e]) = (v.l ++ [e]).length then _ else _
          rw [Ent.chain_snoc, if_pos hc, List.length_append]
          by_cases hfo : Ent.follows v.l e = true
          . rw [if_pos hfo, if_pos hfo, if_pos (show v.l.length + 1 = v.l.length + [e].length from rfl)]
          . rw [if_neg hfo, if_neg hfo, if_neg (by simp)]
   . rw [if_neg hc]
     show none = _
     by_cases hs : v.sealed = true
     . rw [if_pos hs]
       rfl
     . rw [if_neg hs]
       by_cases hf : f = [0]
       . rw [if_pos hf]
         show _ = chk _
         unfold chk
         rw [if_neg hc]
       . rw [if_neg hf]
         cases hd : Ent.dec Ent.vd f with
         | none => rfl
         | some e =>
          show _ = chk _
          unfold chk
          show _ = if Ent.chain (v.l ++ [e]) = (v.l ++ [e]).length then _ else _
          have := Ent.chain_le v.l
          rw [Ent.chain_snoc, if_neg hc, List.length_append, if_neg (by simp; omega)]
theorem readF_is (fs : List (List UInt8)) : readF fs = (readG fs).bind chk := zkk _ fs rfl
theorem zox {w v : What} {f : List UInt8} (h : step2 w f = some v) : v.l.length <= w.l.length + 1 := by
 unfold step2 at h
 split at h
 . cases h
 . split at h
   . injection h with h
     subst h
     exact Nat.le_succ _
   . split at h
     . cases h
     . injection h with h
       subst h
       simp
theorem readG_len : ∀ (n : Nat) (fs : List (List UInt8)), fs.length = n -> ∀ w, readG fs = some w -> w.l.length <= n := by
 intro n
 induction n with
 | zero =>
  intro fs hl w h
  rw [List.length_eq_zero_iff.1 hl] at h
  injection h with h
  rw [<- h]
  exact Nat.le_refl _
 | succ n ih =>
  intro fs hl w h
  obtain ⟨gs, f, rfl⟩ : ∃ gs f, fs = gs ++ [f] := ⟨fs.dropLast, fs.getLast (by intro e; rw [e] at hl; cases hl), (List.dropLast_concat_getLast _).symm⟩
  rw [ze2] at h
  obtain ⟨v, hv, hs⟩ := Option.bind_eq_some_iff.1 h
  have h1 := ih gs (by simp at hl; omega) v hv
  have h2 := zox hs
  omega
theorem readF_len {fs : List (List UInt8)} {w : What} (h : readF fs = some w) : w.l.length <= fs.length := by
 rw [readF_is] at h
 obtain ⟨v, hv, hs⟩ := Option.bind_eq_some_iff.1 h
 have h1 := readG_len _ fs rfl v hv
 unfold chk at hs
 split at hs
 . injection hs with hs
   rw [<- hs]
   exact h1
 . cases hs
end Go.Proofs.YtnoeconcpgdjlaaGreat.Rep
namespace Go.Proofs.YtnoeconcpgdjlaaGreat
set_option maxRecDepth 100000
open Go.RowKit
structure RepAt (w : World) (B x p : Nat) (vp ev : Value) (es : List (Value × Ent.E)) (id term : Int) (W : Rep.What) : Prop where
 heap : w.heap[x]? = some (.cells #[.int .i64 id, .int .i64 term, .pointer (some ⟨p, 0, none⟩), ev, .bool W.sealed] 121 (0, 0))
 row : w.ownsRow B 84 6 ev es.length (zah es)
 ents : es.map (·.2) = W.l
 cuts : ∀ q ∈ es, TagI w vp q.1 q.2.cut
 low : ∀ q ∈ es, ∀ k, q.1.ownBlock = some k -> B <= k
section
variable {w w' : World} {B x p : Nat} {vp ev : Value} {es : List (Value × Ent.E)} {id term : Int} {W : Rep.What}
theorem RepAt.lt (h : RepAt w B x p vp ev es id term W) : x < w.heap.size := (Array.getElem?_eq_some_iff.1 h.heap).1
theorem RepAt.ext (h : RepAt w B x p vp ev es id term W) (hE : Ext w w') : RepAt w' B x p vp ev es id term W := ⟨zad h.heap hE, za0 h.row hE, h.ents, fun q hq => (h.cuts q hq).ext hE, h.low⟩
theorem RepAt.butT {q : Nat} {cs : Array Value} {t : TypeId} {fr : Nat × Nat} (h : RepAt w B x p vp ev es id term W) (hq : w.heap[q]? = some (.cells cs t fr)) (h1 : t ≠ 121) (h2 : t ≠ 84) (h3 : t ≠ 3) (hb : But q w w') : RepAt w' B x p vp ev es id term W :=
 ⟨(hb.block x h.lt (fun e => by subst e; rw [h.heap] at hq; injection hq with hq; injection hq with _ e _; exact h1 e.symm)).trans h.heap, zbe h.row (zaj h.row hq h2) hb, h.ents, fun q' hq' => (h.cuts q' hq').butT hq h3 hb, h.low⟩
theorem RepAt.lower {B' : Nat} (h : RepAt w B x p vp ev es id term W) (hB : B' <= B) : RepAt w B' x p vp ev es id term W := ⟨h.heap, zaw h.row hB, h.ents, h.cuts, fun q hq k hk => Nat.le_trans hB (h.low q hq k hk)⟩
theorem RepAt.len (h : RepAt w B x p vp ev es id term W) : es.length = W.l.length := by
 have := congrArg List.length h.ents
 simpa using this
theorem RepAt.open (h : RepAt w B x p vp ev es id term W) : ∃ a c, ev = .slice a es.length c /\ es.length <= c /\ c <= maxLen /\ (a = none -> c = 0) := by
 obtain ⟨a, c, e, h1, h2, h3, _⟩ := SlN.ofOwn h.row
 exact ⟨a, c, e, h1, h2, h3⟩
theorem RepAt.ints (h : RepAt w B x p vp ev es id term W) : ∀ q ∈ es, Ints w q.1 q.2.cut := fun q hq => (h.cuts q hq).1.ints
theorem RepAt.one (h : RepAt w B x p vp ev es id term W) : ∀ y ∈ zah es, y.oneCell' = true := zb3 h.ints
theorem RepAt.entsAt (h : RepAt w B x p vp ev es id term W) : Ents w ev W.l := by
 have := zbb h.ints (SlN.ofOwn h.row)
 rw [h.ents] at this
 exact this
theorem RepAt.blocks (h : RepAt w B x p vp ev es id term W) (h1 : w'.heap[x]? = w.heap[x]?) (h2 : ∀ k, ev.ownBlock = some k -> w'.heap[k]? = w.heap[k]?) (h3 : ∀ q ∈ es, ∀ k, q.1.ownBlock = some k -> w'.heap[k]? = w.heap[k]?) : RepAt w' B x p vp ev es id term W :=
 ⟨h1.trans h.heap, za1 h.row h2, h.ents, fun q hq => ⟨(h.cuts q hq).1.same (h3 q hq), (h.cuts q hq).2⟩, h.low⟩
theorem RepAt.app {va va' vp' : Value} {S : Page.St} {b : List UInt8} (h : RepAt w B x p vp ev es id term W) (hs : IsSto w B p va vp S) (hA : Appended w B p va vp S b w' va' vp') : RepAt w' B x p vp' ev es id term W := by
 have hne : ∀ {k : Nat} {cs : Array Value} {t : TypeId} {fr : Nat × Nat}, w.heap[k]? = some (.cells cs t fr) -> t ≠ 143 -> k ≠ p := fun hk ht e => by
  subst e; rw [hs.heap] at hk; injection hk with hk; injection hk with _ e _; exact ht e.symm
 refine ⟨(hA.block x h.lt (hne h.heap (by decide)) (zaj hs.all h.heap (by decide)) (zaj hs.places h.heap (by decide))).trans h.heap, za1 h.row fun k hk => ?_, h.ents, fun q hq => ⟨(h.cuts q hq).1.same fun k hk => ?_, fun k hk e => ?_⟩, h.low⟩
 . obtain ⟨cur, hc⟩ := ownAt h.row hk
   exact hA.block k (h.row.lt k hk).2 (hne hc (by decide)) (zaj hs.all hc (by decide)) (zaj hs.places hc (by decide))
 . obtain ⟨cur, hc⟩ := (h.cuts q hq).1.at hk
   exact hA.block k (Array.getElem?_eq_some_iff.1 hc).1 (hne hc (by decide)) (zaj hs.all hc (by decide)) (fun e => (h.cuts q hq).2 k hk e.symm)
 . obtain ⟨cur, hc⟩ := (h.cuts q hq).1.at hk
   have hlt := (Array.getElem?_eq_some_iff.1 hc).1
   rcases hA.newP with hn | hn | hn
   . rw [hn] at e; exact (h.cuts q hq).2 k hk e
   . rw [hn] at e; exact (h.cuts q hq).2 k hk e
   . have := hn k e
     omega
end
structure IsRepS (w : World) (B : Nat) (S : Nat -> Prop) (x p : Nat) (va vp ev : Value) (es : List (Value × Ent.E)) (r : Rep.Rp) : Prop where
 x1 : B <= x
 x2 : S x
 p1 : B <= p
 p2 : S p
 ua : ∀ k, va.ownBlock = some k -> S k
 up : ∀ k, vp.ownBlock = some k -> S k
 ue : ∀ k, ev.ownBlock = some k -> S k
 tags : ∀ q ∈ es, ∀ k, q.1.ownBlock = some k -> S k
 sto : IsSto w B p va vp r.s
 at' : RepAt w B x p vp ev es r.id r.term r.w
 ok : r.Ok
def IsRep (w : World) (B : Nat) (S : Nat -> Prop) (x : Nat) (r : Rep.Rp) : Prop := ∃ p va vp ev es, IsRepS w B S x p va vp ev es r
section
variable {w w1 w' : World} {B x p : Nat} {S : Nat -> Prop} {va vp ev va' vp' ev' : Value} {es es' : List (Value × Ent.E)} {r r' : Rep.Rp}
theorem IsRepS.ext (h : IsRepS w B S x p va vp ev es r) (hE : Ext w w') : IsRepS w' B S x p va vp ev es r := ⟨h.x1, h.x2, h.p1, h.p2, h.ua, h.up, h.ue, h.tags, h.sto.ext hE, h.at'.ext hE, h.ok⟩
theorem IsRepS.wider {S' : Nat -> Prop} (h : IsRepS w B S x p va vp ev es r) (hS : ∀ k, k < w.heap.size -> S k -> S' k) : IsRepS w B S' x p va vp ev es r :=
 ⟨h.x1, hS _ h.at'.lt h.x2, h.p1, hS _ h.sto.lt h.p2, fun k hk => hS _ (h.sto.all.lt k hk).2 (h.ua k hk), fun k hk => hS _ (h.sto.places.lt k hk).2 (h.up k hk), fun k hk => hS _ (h.at'.row.lt k hk).2 (h.ue k hk), fun q hq k hk => hS _ (by
  obtain ⟨cur, hc⟩ := (h.at'.cuts q hq).1.at hk
  exact (Array.getElem?_eq_some_iff.1 hc).1) (h.tags q hq k hk), h.sto, h.at', h.ok⟩
theorem IsRepS.lower {B' : Nat} (h : IsRepS w B S x p va vp ev es r) (hB : B' <= B) : IsRepS w B' S x p va vp ev es r := ⟨Nat.le_trans hB h.x1, h.x2, Nat.le_trans hB h.p1, h.p2, h.ua, h.up, h.ue, h.tags, h.sto.lower hB, h.at'.lower hB, h.ok⟩
theorem IsRepS.base (h : IsRepS w B S x p va vp ev es r) : B <= w.heap.size := Nat.le_trans h.x1 (Nat.le_of_lt h.at'.lt)
theorem IsRepS.lenR (h : IsRepS w B S x p va vp ev es r) : es.length = r.w.l.length := h.at'.len
theorem IsRepS.keep (h : IsRepS w B S x p va vp ev es r) (hb : ∀ k, k < w.heap.size -> S k -> w'.heap[k]? = w.heap[k]?) : IsRepS w' B S x p va vp ev es r := by
 refine ⟨h.x1, h.x2, h.p1, h.p2, h.ua, h.up, h.ue, h.tags, ?_, ?_, h.ok⟩
 . exact ⟨(hb _ h.sto.lt h.p2).trans h.sto.heap, za1 h.sto.all fun k hk => hb k (h.sto.all.lt k hk).2 (h.ua k hk), za1 h.sto.places fun k hk => hb k (h.sto.places.lt k hk).2 (h.up k hk), h.sto.ok⟩
 . exact h.at'.blocks (hb _ h.at'.lt h.x2) (fun k hk => hb k (h.at'.row.lt k hk).2 (h.ue k hk)) (fun q hq k hk => hb k (by
    obtain ⟨cur, hc⟩ := (h.at'.cuts q hq).1.at hk
    exact (Array.getElem?_eq_some_iff.1 hc).1) (h.tags q hq k hk))
theorem IsRepS.tws {T : Nat -> Prop} (h : IsRepS w B S x p va vp ev es r) (ht : TwS T w w') (hT : ∀ k, k < w.heap.size -> S k -> ¬ T k) : IsRepS w' B S x p va vp ev es r :=
 h.keep fun k hk hs => ht.block k hk (hT k hk hs)
theorem IsRepS.appended {b : List UInt8} (h : IsRepS w B S x p va vp ev es r) (hA : Appended w B p va vp r.s b w' va' vp') : TwS S w w' :=
 ⟨hA.os, hA.tape, hA.output, hA.size, fun k hk hu => hA.block k hk (fun e => hu (e ▸ h.p2)) (fun e => hu (h.ua k e.symm)) (fun e => hu (h.up k e.symm))⟩
theorem IsRepS.grown (h : IsRepS w B S x p va vp ev es r) (hg : w.grownBy w' ev.ownBlock) (hr : w'.ownsRow B 84 6 ev es.length (zah es)) : IsRepS w' B S x p va vp ev es r := by
 have hne : ∀ {k : Nat} {cs : Array Value} {T : TypeId} {fr : Nat × Nat}, w.heap[k]? = some (.cells cs T fr) -> T ≠ 84 -> w'.heap[k]? = w.heap[k]? := fun hk hT => hg.block _ (Array.getElem?_eq_some_iff.1 hk).1 (zaj h.at'.row hk hT)
 refine ⟨h.x1, h.x2, h.p1, h.p2, h.ua, h.up, h.ue, h.tags, ⟨(hne h.sto.heap (by decide)).trans h.sto.heap, za1 h.sto.all fun k hk => ?_, za1 h.sto.places fun k hk => ?_, h.sto.ok⟩, ⟨(hne h.at'.heap (by decide)).trans h.at'.heap, hr, h.at'.ents, fun q hq => ⟨(h.at'.cuts q hq).1.same fun k hk => ?_, (h.at'.cuts q hq).2⟩, h.at'.low⟩, h.ok⟩
 . obtain ⟨cur, hc⟩ := ownAt h.sto.all hk
   exact hne hc (by decide)
 . obtain ⟨cur, hc⟩ := ownAt h.sto.places hk
   exact hne hc (by decide)
 . obtain ⟨cur, hc⟩ := (h.at'.cuts q hq).1.at hk
   exact hne hc (by decide)
theorem zs4 {B' n : Nat} {v : Value} {xs : List Value} {b : List UInt8} {St : Page.St} (hs : IsSto w B p va vp St) (hA : Appended w B p va vp St b w' va' vp') (hr : w.ownsRow B' 84 6 v n xs) : w'.ownsRow B' 84 6 v n xs := za1 hr fun k hk => by
 obtain ⟨cur, hc⟩ := ownAt hr hk
 exact hA.block k (hr.lt k hk).2 (fun e => by subst e; rw [hs.heap] at hc; injection hc with hc; injection hc with _ e _; exact absurd e (by decide)) (zaj hs.all hc (by decide)) (zaj hs.places hc (by decide))
end
def LeavesRep (B : Nat) (S : Nat -> Prop) (x : Nat) (w : World) (r : Rep.Rp) (w' : World) : Prop := IsRep w' B (Later S w w') x r /\ TwS S w w'
theorem LeavesRep.refl {B x p : Nat} {S : Nat -> Prop} {w w' : World} {va vp ev : Value} {es : List (Value × Ent.E)} {r : Rep.Rp} (h : IsRepS w B S x p va vp ev es r) (hE : Ext w w') : LeavesRep B S x w r w' :=
 ⟨⟨p, va, vp, ev, es, (h.ext hE).wider fun k _ hk => .inl hk⟩, TwS.ext hE⟩
theorem LeavesRep.ext {B x : Nat} {S : Nat -> Prop} {w w1 w' : World} {r : Rep.Rp} (h : LeavesRep B S x w r w1) (hE : Ext w1 w') : LeavesRep B S x w r w' := by
 obtain ⟨⟨p, va, vp, ev, es, h1⟩, h2⟩ := h
 exact ⟨⟨p, va, vp, ev, es, (h1.ext hE).wider fun k _ hk => hk.elim .inl (fun e => .inr ⟨e.1, Nat.lt_of_lt_of_le e.2 hE.size⟩)⟩, h2.trans (TwS.ext hE)⟩
theorem LeavesRep.since {B x : Nat} {S : Nat -> Prop} {w0 w w' : World} {r : Rep.Rp} (hE : Ext w0 w) (h : LeavesRep B S x w r w') : LeavesRep B S x w0 r w' := by
 obtain ⟨⟨p, va, vp, ev, es, h1⟩, h2⟩ := h
 exact ⟨⟨p, va, vp, ev, es, h1.wider fun k _ hk => hk.elim .inl (fun e => .inr ⟨Nat.le_trans hE.size e.1, e.2⟩)⟩, (TwS.ext hE).trans h2⟩
theorem LeavesRep.then {B x : Nat} {S : Nat -> Prop} {w w1 w' : World} {r r' : Rep.Rp} (h : LeavesRep B S x w r w1) (k : LeavesRep B (Later S w w1) x w1 r' w') : LeavesRep B S x w r' w' := by
 obtain ⟨⟨p, va, vp, ev, es, h1⟩, h2⟩ := k
 exact ⟨⟨p, va, vp, ev, es, h1.wider fun k _ hk => zrp h.2.size h2.size hk⟩, zqc h.2 h2⟩
theorem zhw {P : Program} {w : World} {t ty e : TypeId} {z : Value} {size bytes : Nat} (E : ElemN P t e z size bytes) {base : Nat} {v u : Value} {n m : Nat} {xs ys : List Value} (hown : w.ownsRow base e size v n xs) (hu : SlN size w u m ys) (hm : 0 < m) (h1 : ∀ y ∈ ys, y.oneCell' = true) (hsz : n + m <= maxLen) (hby : (n + m) * bytes <= 140737488355328) (hb : base <= w.heap.size) :
 ∃ v' w', (Builtin.append_ #[t, t] ty #[v, u]).run P w = .ok v' w' /\ w'.ownsRow base e size v' (n + m) (xs ++ ys) /\ w.grownBy w' v.ownBlock /\ (∀ k, v'.ownBlock = some k -> v.ownBlock = some k \/ w.heap.size <= k) /\ w'.ownsRow base e size v n xs := by
 obtain ⟨i, hi, hz, h2, h3⟩ := info_parts E.info
 rcases hown.2 with ⟨rfl, hn0⟩ | ⟨g, cap, cur, rfl, _⟩
 . obtain ⟨v', w', hr, ho, hg, hat⟩ := zec (ty := ty) E hown hu hm h1 hsz hby hb
   refine ⟨v', w', hr, ho, hg, fun k hk => ?_, ⟨hown.1, .inl ⟨rfl, hn0⟩⟩⟩
   rcases hat with hat | hat
   . exact .inl (hat ▸ hk)
   . rw [hat] at hk
     injection hk with hk
     exact .inr (by omega)
 . obtain ⟨a, c, rfl, hc, hmx, hn, hlen, hcell⟩ := hu
   obtain ⟨b, off, rfl, _⟩ := hcell 0 (by rw [hlen]; exact Nat.mul_pos hm E.pos)
   have hcs : ∀ j y, ys[j]? = some y -> w.cell? ((⟨b, off, none⟩ : Addr).add j) = some y := fun j y hj => by
    obtain ⟨hj1, rfl⟩ := List.getElem?_eq_some_iff.1 hj
    obtain ⟨b', off', e', hc'⟩ := hcell j hj1
    injection e' with e'
    injection e' with e1 e2
    subst e1 e2
    rw [Addr.add_lit]; exact hc'
   by_cases hroom : n + m <= cap
   . obtain ⟨w', hr, ho, hg⟩ := run_append_fits (P := P) w base t ty e i size E.slice hi h2 g n cap xs hown ⟨b, off, none⟩ m c ys hlen hcs h1 hroom
     refine ⟨_, w', hr, ho, hg, fun k hk => .inl hk, ?_⟩
     have := zsz ho n (by omega)
     rw [<- hown.1, List.take_left] at this
     exact this
   . obtain ⟨v', w', hr, ho, hg⟩ := run_append_arg_grows (P := P) w t ty e i z size bytes E.slice hi hz h2 h3 E.cells E.pos ⟨g, 0, none⟩ n cap xs hown.1 (hown.cells (g := g) rfl) ⟨b, off, none⟩ m c ys hlen hcs (by omega) hsz hby
     refine ⟨v', w', hr, zaw ho hb, ⟨hg.os, hg.tape, hg.output, hg.size, fun k hk _ => hg.block k hk (by simp)⟩, fun k hk => .inr (ho.lt k hk).1, za1 hown fun k hk => hg.block k (hown.lt k hk).2 (by simp)⟩
section
variable {w w' : World} {B x p : Nat} {vp ev : Value} {es : List (Value × Ent.E)} {id term : Int} {W : Rep.What}
theorem zij (h : RepAt w B x p vp ev es id term W) : Calls Tryz.prog 81 #[.pointer (some ⟨x, 0, none⟩)] w fun e w' => e = .returned (.int .i64 (W.l.length : Nat)) /\ w = w' := by
 have hlen := h.len
 obtain ⟨a, c, rfl, hnc, hcm, _⟩ := h.open
 have c3 : w.cell? ⟨x, 3, none⟩ = some (.slice a es.length c) := zaa h.heap 3
 rw [hlen] at c3
 obtain ⟨n, hn⟩ : ∃ n, W.l.length = n := ⟨_, rfl⟩
 rw [hn] at c3 ⊢
 clear h hlen hn hnc hcm
 go_enter Tryz.func81, Tryz.ntmps81
 go_wp2
 go_ret
 exact ⟨rfl, rfl⟩
theorem zjd (h : RepAt w B x p vp ev es id term W) : Calls Tryz.prog 24 #[.pointer (some ⟨x, 0, none⟩)] w fun e w' => e = .returned (.bool W.sealed) /\ w = w' := by
 have c4 : w.cell? ⟨x, 4, none⟩ = some (.bool W.sealed) := zaa h.heap 4
 obtain ⟨b, hb⟩ : ∃ b, W.sealed = b := ⟨_, rfl⟩
 rw [hb] at c4 ⊢
 clear h hb
 go_enter Tryz.func24, Tryz.ntmps24
 go_wp2
 go_ret
 exact ⟨rfl, rfl⟩
end
theorem RowN.tag {B : Nat} {w : World} {vp v : Value} {l : List Int} (h : RowN B w v l) (hv : ∀ k, vp.ownBlock = some k -> k < B) : TagI w vp v l := by
 obtain ⟨b, n, hb, h⟩ := h
 refine ⟨⟨b, n, h⟩, fun k hk e => ?_⟩
 have h1 := (h.lt k hk).1
 have h2 := hv k e
 omega
set_option maxHeartbeats 4000000 in
theorem zjc (t : Value) (e : Ent.E) (w : World) (ht : Ints w t e.cut) (hl : e.cut.length <= 1000000) :
 Calls Tryz.prog 54 #[entV t e] w fun x w' => ∃ u, x = .returned (entV u e) /\ RowN w.heap.size w' u e.cut /\ Ext w w' := by
 have HT := Hi ht
 obtain ⟨a, cap, rfl, _⟩ := ht.open
 obtain ⟨e0, e1, e2, e3, e4, e5⟩ := e
 simp only at *
 unfold entV
 simp only
 obtain ⟨n, hn⟩ : ∃ n, e2.length = n := ⟨_, rfl⟩
 rw [hn] at HT ⊢
 have HN := Hi hn
 have hl' := hl
 rw [hn] at hl'
 clear ht
 obtain ⟨w1, hw1⟩ : ∃ w1, (w.alloc (.cells #[.int .i64 e0, .int .i64 e1, .slice a n cap, .int .i64 e3, .int .i64 e4, .int .i64 e5] 84)).alloc (.cells #[.int .i64 0, .int .i64 0, .slice none 0 0, .int .i64 0, .int .i64 0, .int .i64 0] 84) = w1 := ⟨_, rfl⟩
 have hE1 : Ext w w1 := by rw [<- hw1]; exact (Ext.alloc _ _).trans (Ext.alloc _ _)
 have ho : w1.heap[w.heap.size]? = some (.cells #[.int .i64 e0, .int .i64 e1, .slice a n cap, .int .i64 e3, .int .i64 e4, .int .i64 e5] 84 (0, 0)) := by
  rw [<- hw1]
  exact (Below.heap_alloc _ _ _ (by simp)).trans (heap_alloc_new _ _)
 have hz : w1.heap[w.heap.size + 1]? = some (.cells #[.int .i64 0, .int .i64 0, .slice none 0 0, .int .i64 0, .int .i64 0, .int .i64 0] 84 (0, 0)) := by
  rw [<- hw1]
  have := heap_alloc_new (w.alloc (.cells #[.int .i64 e0, .int .i64 e1, .slice a n cap, .int .i64 e3, .int .i64 e4, .int .i64 e5] 84)) (.cells #[.int .i64 0, .int .i64 0, .slice none 0 0, .int .i64 0, .int .i64 0, .int .i64 0] 84)
  simpa using this
 have HW1 := Hi hw1
 have c2 : w1.cell? ⟨w.heap.size, 2, none⟩ = some (.slice a n cap) := zaa ho 2
 have HO := Hi ho
 have HZ := Hi hz
 have HE1 := Hi hE1
 clear hw1 ho hz hE1 hn
 go_enter Tryz.func54, Tryz.ntmps54
 go_wp2_with fail
 rw [HW1.out]
 refine (zds _ e2 w1 (HT.out.below HE1.out) (by rw [HN.out]; exact hl')).mono ?_
 rintro e w2 ⟨u, rfl, ho2, hE2⟩
 obtain ⟨ua, un, uc, rfl⟩ := zao ho2
 have hs2 := zad HO.out hE2
 have hz2 := zad HZ.out hE2
 have HO2 := Hi (And.intro ho2 hE2)
 have HS2 := Hi hs2
 have HZ2 := Hi hz2
 have k0 : w2.cell? ⟨w.heap.size, 0, none⟩ = some (.int .i64 e0) := zaa hs2 0
 have k1 : w2.cell? ⟨w.heap.size, 1, none⟩ = some (.int .i64 e1) := zaa hs2 1
 have k2 : w2.cell? ⟨w.heap.size, 2, none⟩ = some (.slice a n cap) := zaa hs2 2
 have k3 : w2.cell? ⟨w.heap.size, 3, none⟩ = some (.int .i64 e3) := zaa hs2 3
 have k4 : w2.cell? ⟨w.heap.size, 4, none⟩ = some (.int .i64 e4) := zaa hs2 4
 have k5 : w2.cell? ⟨w.heap.size, 5, none⟩ = some (.int .i64 e5) := zaa hs2 5
 have fs := zac hs2 2
 clear c2 ho2 hE2 hs2 hz2
 go_upto_region 2 with fail
 have hset := heap_setCell HS2.out 2 (.slice ua un uc)
 have hbt : But w.heap.size w2 (w2.setCell ⟨w.heap.size, 2, none⟩ (.slice ua un uc)) := za2 _ _ _ _
 obtain ⟨w3, hw3⟩ : ∃ w3, w2.setCell ⟨w.heap.size, 2, none⟩ (.slice ua un uc) = w3 := ⟨_, rfl⟩
 rw [hw3] at hset hbt ⊢
 have hz3 : w3.heap[w.heap.size + 1]? = _ := (hbt.block _ (Array.getElem?_eq_some_iff.1 HZ2.out).1 (by omega)).trans HZ2.out
 have hr3 : RowN w.heap.size w3 (.slice ua un uc) e2 := ⟨_, _, HE1.out.size, zbe HO2.out.1 (zaj HO2.out.1 HS2.out (by decide)) hbt⟩
 have hE3 : Ext w w3 := Below.trans (B := w.heap.size) (HE1.out.trans HO2.out.2) (hbt.below (Nat.le_refl _) (HE1.out.trans HO2.out.2).size)
 have HR3 := Hi (And.intro hr3 hE3)
 clear hw3 hbt k0 k1 k2 k3 k4 k5 fs hr3 hE3
 have k0 : w3.cell? ⟨w.heap.size, 0, none⟩ = some (.int .i64 e0) := zaa hset 0
 have k1 : w3.cell? ⟨w.heap.size, 1, none⟩ = some (.int .i64 e1) := zaa hset 1
 have k2 : w3.cell? ⟨w.heap.size, 2, none⟩ = some (.slice ua un uc) := zaa hset 2
 have k3 : w3.cell? ⟨w.heap.size, 3, none⟩ = some (.int .i64 e3) := zaa hset 3
 have k4 : w3.cell? ⟨w.heap.size, 4, none⟩ = some (.int .i64 e4) := zaa hset 4
 have k5 : w3.cell? ⟨w.heap.size, 5, none⟩ = some (.int .i64 e5) := zaa hset 5
 have z0 : w3.cell? ⟨w.heap.size + 1, 0, none⟩ = some (.int .i64 0) := zaa hz3 0
 have z1 : w3.cell? ⟨w.heap.size + 1, 1, none⟩ = some (.int .i64 0) := zaa hz3 1
 have z2 : w3.cell? ⟨w.heap.size + 1, 2, none⟩ = some (.slice none 0 0) := zaa hz3 2
 have z3 : w3.cell? ⟨w.heap.size + 1, 3, none⟩ = some (.int .i64 0) := zaa hz3 3
 have z4 : w3.cell? ⟨w.heap.size + 1, 4, none⟩ = some (.int .i64 0) := zaa hz3 4
 have z5 : w3.cell? ⟨w.heap.size + 1, 5, none⟩ = some (.int .i64 0) := zaa hz3 5
 have g0 := zac hz3 0
 have g1 := zac hz3 1
 have g2 := zac hz3 2
 have g3 := zac hz3 3
 have g4 := zac hz3 4
 have g5 := zac hz3 5
 have hs4 := zo0 hz3 (.int .i64 e0) (.int .i64 e1) (.slice ua un uc) (.int .i64 e3) (.int .i64 e4) (.int .i64 e5)
 have HS4 := Hi hs4
 have HZ3 := Hi hz3
 clear hset hz3 hs4
 go_wp2_with fail
 refine bodyPost_ret (v := .agg #[.int .i64 e0, .int .i64 e1, .slice ua un uc, .int .i64 e3, .int .i64 e4, .int .i64 e5]) (by simp [results, Tryz.results54, go_sem, zaa HS4.out.1 0, zaa HS4.out.1 1, zaa HS4.out.1 2, zaa HS4.out.1 3, zaa HS4.out.1 4, zaa HS4.out.1 5]) rfl ⟨_, rfl, ?_, ?_⟩
 . obtain ⟨b, n', hb, ho⟩ := HR3.out.1
   exact ⟨b, n', hb, zbe ho (zaj ho HZ3.out (by decide)) HS4.out.2⟩
 . exact Below.trans (B := w.heap.size) HR3.out.2 (HS4.out.2.below (Nat.le_succ _) HR3.out.2.size)
theorem zj5 {a b : World} {B size n : Nat} {v : Value} {xs : List Value} (hg : a.grownBy b v.ownBlock) (hr : a.ownsRow B 84 size v n xs) : KeepU a b := fun k cs fr hk => hg.block k (Array.getElem?_eq_some_iff.1 hk).1 (zaj hr hk (by decide))
theorem zj9 {a b : World} {B size n : Nat} {v : Value} {xs : List Value} (hg : a.grownBy b v.ownBlock) (hr : a.ownsRow B 84 size v n xs) : KeepR a b := fun k cs fr hk => hg.block k (Array.getElem?_eq_some_iff.1 hk).1 (zaj hr hk (by decide))
theorem RowN.grown {a b : World} {C B size n : Nat} {u v : Value} {l : List Int} {xs : List Value} (h : RowN C a u l) (hg : a.grownBy b v.ownBlock) (hr : a.ownsRow B 84 size v n xs) : RowN C b u l := by
 obtain ⟨c, m, hc, h⟩ := h
 exact ⟨c, m, hc, za1 h fun k hk => by
  obtain ⟨cur, hcur⟩ := ownAt h hk
  exact hg.block k (Array.getElem?_eq_some_iff.1 hcur).1 (zaj hr hcur (by decide))⟩
theorem zrk {w a b : World} {size n : Nat} {v : Value} {xs : List Value} {e : TypeId} (h : Ext w a) (hg : a.grownBy b v.ownBlock) (hr : a.ownsRow w.heap.size e size v n xs) : Ext w b :=
 Below.trans (B := w.heap.size) h ⟨hg.os, hg.tape, hg.output, hg.size, fun k hk => hg.block k (Nat.lt_of_lt_of_le hk h.size) (fun e => by have := (hr.lt k e.symm).1; omega)⟩
structure Read11 (w : World) (S : Page.St) (k : Nat) (u : Value) (sl : Bool) (es : List (Value × Ent.E)) (fv : Value) (wr : World) : Prop where
 ext : Ext w wr
 fr : FrRow wr fv S.l
 row : wr.ownsRow w.heap.size 84 6 u es.length (zah es)
 cuts : ∀ q ∈ es, RowN w.heap.size wr q.1 q.2.cut
 is : Rep.readG (S.l.take k) = some ⟨es.map (·.2), sl⟩
theorem Read11.later {w wr w' : World} {S : Page.St} {k : Nat} {u fv : Value} {sl : Bool} {es : List (Value × Ent.E)} (h : Read11 w S k u sl es fv wr) (hE : Ext wr w') : Read11 w S k u sl es fv w' := ⟨h.ext.trans hE, h.fr.ext hE, za0 h.row hE, fun q hq => (h.cuts q hq).ext hE, h.is⟩
def zd3 (w : World) (S : Page.St) (e : Ending) (w' : World) : Prop :=
 ∃ u es sl is, e = .returned (.tuple #[u, .bool sl, .bool is]) /\ Ext w w' /\ w'.ownsRow w.heap.size 84 6 u es.length (zah es) /\ (∀ q ∈ es, RowN w.heap.size w' q.1 q.2.cut) /\ is = (Rep.readF S.l).isSome /\ ∀ W, Rep.readF S.l = some W -> es.map (·.2) = W.l /\ sl = W.sealed
theorem zoz {f : List UInt8} (h : Ent.dec Ent.vd f = none) : Ent.errOf (Crc.cutOf f) (Ent.dec Ent.vd f) ≠ 0 := by
 rw [h]
 unfold Ent.errOf
 cases Crc.cutOf f <;> simp
theorem zok {f : List UInt8} {e : Ent.E} {er : Int} (h : Ent.dec Ent.vd f = some e) (h2 : Ent.errOf (Crc.cutOf f) (Ent.dec Ent.vd f) = er) : er = 0 := by
 rw [h] at h2
 cases hc : Crc.cutOf f with
 | none =>
  unfold Ent.dec at h
  rw [hc] at h
  cases h
 | some x =>
  rw [hc] at h2
  exact h2.symm
set_option maxHeartbeats 8000000 in
theorem zg3 {w : World} {B p : Nat} {va vp : Value} {S : Page.St} (h : IsSto w B p va vp S) :
 Calls Tryz.prog 76 #[.pointer (some ⟨p, 0, none⟩)] w (zd3 w S) := by
 have hsm := h.ok.small
 have hun0 : S.l.length <= 13107 := by
  have h2 := Page.count_le S.l
  have h3 := h.ok.max
  omega
 have HSM := Hi hsm
 have HUN := Hi hun0
 have HFR := Hi (zkd h)
 clear h hsm
 go_enter Tryz.func76, Tryz.ntmps76
 go_wp2_with fail
 go_step3
 go_wp2_with fail
 refine HFR.out.mono ?_
 rintro e w2 ⟨es0, u0, rfl, hx, ho, hgood, hE2⟩
 have hfr := FrRow.of ho hx hgood
 obtain ⟨ua, uc, rfl⟩ : ∃ ua uc, u0 = .slice ua S.l.length uc := by
  obtain ⟨x, y, e, _⟩ := hfr
  exact ⟨x, y, e⟩
 obtain ⟨un, hun⟩ : ∃ un, S.l.length = un := ⟨_, rfl⟩
 rw [hun] at hfr hun0 ⊢
 have HN := Hi hun
 have HI0 := Hi (show Read11 w S 0 (.slice none 0 0) false [] (.slice ua un uc) w2 from ⟨hE2, hfr, World.ownsRow_nil _ _ _ _, fun q hq => (by cases hq), rfl⟩)
 clear hx hun ho hfr hgood hE2 HFR HUN
 go_wp2_with fail
 go_step3
 go_wp2_with fail
 go_loopw [2, 3, 6, 15] (fun u sv nv i wr => ∃ (k : Nat) (sl : Bool) (es : List (Value × Ent.E)), k <= un /\ i = .int .i64 k /\ nv = .int .i64 k /\ sv = .bool sl /\ (∃ a n c, u = .slice a n c) /\ Hid (Read11 w S k u sl es (.slice ua un uc) wr)) (fun _ _ _ i _ => un - (intOf i).toNat)
 case atStart => exact ⟨0, false, [], by omega, rfl, rfl, rfl, ⟨_, _, _, rfl⟩, HI0⟩
 case round =>
  obtain ⟨k, sl, es, hk, rfl, rfl, rfl, ⟨au, nu, cu, rfl⟩, hI⟩ := hrel
  by_cases hlt : k < un
  . have hkl : k < S.l.length := by rw [HN.out]; exact hlt
    obtain ⟨_, _, e1, _, hf1⟩ := hI.out.fr
    obtain ⟨b1, o1, a', n', c', rfl, hc1, hb1⟩ := hf1 k hkl
    injection e1 with e1 e9 e3
    subst e1 e3
    clear e9 hf1
    have hsmall : (S.l[k]).length <= 200000 := by
     have := HSM.out _ (List.getElem_mem hkl)
     unfold Page.small at this
     omega
    have hsucc := Rep.readG_succ hkl
    rw [hI.out.is] at hsucc
    obtain ⟨f, hf⟩ : ∃ f, S.l[k] = f := ⟨_, rfl⟩
    rw [hf] at hsmall hb1 hsucc
    have HSU := Hi hsucc
    have HD := Hi (zh2 _ f wr hb1.1 hsmall)
    have HB := Hi hb1
    clear hb1 hf hsmall hsucc
    go_wp2_with fail
    refine HD.out.mono ?_
    rintro e w3 ⟨uv, rfl, ⟨tv, rfl, ht3⟩, hE3⟩
    obtain ⟨ta, tn, tc, rfl⟩ := zao ht3.choose_spec.choose_spec.2
    have hI3 := hI.out.later hE3
    have hb3 := (HB.out.keep (KeepU.ext hE3)).1
    obtain ⟨er, her⟩ : ∃ z, Ent.errOf (Crc.cutOf f) (Ent.dec Ent.vd f) = z := ⟨_, rfl⟩
    obtain ⟨E, hEE⟩ : ∃ z, Ent.entOf (Ent.dec Ent.vd f) = z := ⟨_, rfl⟩
    rw [hEE] at ht3 ⊢
    rw [her]
    have HER := Hi her
    have HEE := Hi hEE
    obtain ⟨e0, e1, e2, e3, e4, e5⟩ := E
    have HT3 := Hi (RowN.lower ht3 hI.out.ext.size)
    have hEa : Ext w3 (w3.alloc (.cells #[.int .i64 e0, .int .i64 e1, .slice ta tn tc, .int .i64 e3, .int .i64 e4, .int .i64 e5] 84)) := Ext.alloc _ _
    have hat : EntAt 84 (w3.alloc (.cells #[.int .i64 e0, .int .i64 e1, .slice ta tn tc, .int .i64 e3, .int .i64 e4, .int .i64 e5] 84)) w3.heap.size (.slice ta tn tc) ⟨e0, e1, e2, e3, e4, e5⟩ := heap_alloc_new w3 _
    obtain ⟨w4, hw4⟩ : ∃ z, w3.alloc (.cells #[.int .i64 e0, .int .i64 e1, .slice ta tn tc, .int .i64 e3, .int .i64 e4, .int .i64 e5] 84) = z := ⟨_, rfl⟩
    rw [hw4] at hEa hat
    have HI4 := Hi (hI3.later hEa)
    have hst := zk0 (P := Tryz.prog) 141 9 5 Tryz.underlying141 Tryz.underlying5 Tryz.underlying9 (hb3.below hEa)
    have HT4 := Hi (HT3.out.ext hEa)
    have HW4 := Hi hw4
    unfold entV
    simp only
    clear hE3 ht3 hI3 hb3 her hEE hEa hw4 hc1
    go_upto_region 7 with fail
    rw [HW4.out]
    obtain ⟨c0, c1, c2, c3, c4, c5⟩ := hat.cells
    clear hat
    simp only at c0 c1 c2 c3 c4 c5
    have hstop : Rep.readG (S.l.take (k + 1)) = none -> ∀ (b : Bool), zd3 w S (.returned (.tuple #[.slice au nu cu, .bool b, .bool false])) w4 := fun h b => by
     have hn := Rep.readG_stop h
     refine ⟨_, es, b, false, rfl, HI4.out.ext, HI4.out.row, HI4.out.cuts, ?_, ?_⟩
     . rw [Rep.readF_is, hn]
       rfl
     . intro W hW
       rw [Rep.readF_is, hn] at hW
       cases hW
    have HSTOP := Hi hstop
    have hkne : ((k : Int) == (un : Int)) = false := by simp; omega
    have hkn2 : ¬ k = un := by omega
    clear hstop
    cases sl with
    | true =>
     have hn : Rep.readG (S.l.take (k + 1)) = none := by rw [HSU.out]; rfl
     have HN1 := Hi hn
     clear hn hst c0 c1 c2 c3 c4 c5
     go_wp2_with fail
     (try rw [Exit.noGoto_ret])
     go_ret3
     exact HSTOP.out HN1.out _
    | false =>
     by_cases hf0 : f = [0]
     . subst hf0
       have hn : Rep.readG (S.l.take (k + 1)) = some ⟨es.map (·.2), true⟩ := by rw [HSU.out]; rfl
       have HI5 := Hi (show Read11 w S (k + 1) (.slice au nu cu) true es (.slice (some ⟨b1, o1, none⟩) un uc) w4 from ⟨HI4.out.ext, HI4.out.fr, HI4.out.row, HI4.out.cuts, hn⟩)
       clear hn c0 c1 c2 c3 c4 c5 hkne hkn2
       go_wp2_with fail
       go_roundw
       case rel => exact ⟨k + 1, true, es, by omega, by go_num, by go_num, rfl, ⟨_, _, _, rfl⟩, HI5⟩
       case measure => simp [intOf]; omega
     . have hfb : (f == [0]) = false := by simpa using hf0
       cases hdc : Ent.dec Ent.vd f with
       | none =>
        have hen : ¬ er = 0 := by rw [<- HER.out]; exact zoz hdc
        have heb : (er != 0) = true := by simpa using hen
        have hn : Rep.readG (S.l.take (k + 1)) = none := by
         rw [HSU.out]
         show Rep.step2 _ f = none
         unfold Rep.step2
         rw [if_neg (by simp), if_neg hf0, hdc]
        have HN1 := Hi hn
        clear hn c0 c1 c2 c3 c4 c5 hdc
        go_wp2_with fail
        (try rw [Exit.noGoto_ret])
        go_ret3
        exact HSTOP.out HN1.out _
       | some E1 =>
        have he1 : er = 0 := zok hdc HER.out
        have he2 : E1 = ⟨e0, e1, e2, e3, e4, e5⟩ := by have := HEE.out; rw [hdc] at this; exact this
        subst he1 he2
        have hn : Rep.readG (S.l.take (k + 1)) = some ⟨es.map (·.2) ++ [⟨e0, e1, e2, e3, e4, e5⟩], false⟩ := by
         rw [HSU.out]
         show Rep.step2 _ f = _
         unfold Rep.step2
         rw [if_neg (by simp), if_neg hf0, hdc]
        have HN1 := Hi hn
        have te := tE
        have hrow := HI4.out.row
        have hlen : es.length <= k := by
         have := Rep.readG_len _ _ rfl _ HI4.out.is
         simp at this
         omega
        have hpi : ∀ q ∈ [((Value.slice ta tn tc), (⟨e0, e1, e2, e3, e4, e5⟩ : Ent.E))], Ints w4 q.1 q.2.cut := fun q hq => by
         obtain rfl := List.mem_singleton.1 hq
         exact HT4.out.row.ints
        have hone := zb3 hpi
        have hEb : Ext w4 (w4.alloc (.cells #[.int .i64 e0, .int .i64 e1, .slice ta tn tc, .int .i64 e3, .int .i64 e4, .int .i64 e5] 84)) := Ext.alloc _ _
        have O2 := Hi (za0 hrow hEb)
        have HSL := Hi (SlN.one6 (T := 84) w4 (.slice ta tn tc) ⟨e0, e1, e2, e3, e4, e5⟩)
        have HI5 := Hi (HI4.out.later hEb)
        have HT5 := Hi (HT4.out.ext hEb)
        have hk1 : es.length + 1 <= maxLen := by unfold maxLen; have := HN.out; omega
        have hk2 : (es.length + 1) * 64 <= 140737488355328 := by omega
        have hk3 : w.heap.size <= (w4.alloc (.cells #[.int .i64 e0, .int .i64 e1, .slice ta tn tc, .int .i64 e3, .int .i64 e4, .int .i64 e5] 84)).heap.size := HI5.out.ext.size
        have HK := Hi (And.intro hk1 (And.intro hk2 hk3))
        clear hn hdc hrow hlen hpi hEb hk1 hk2 hk3 hkne hkn2
        go_wp2_with (at_builtin; go_loud (refine zeb rfl (.tmp 24) (.tmp 26) te rfl rfl rfl O2.out HSL.out hone HK.out.1 HK.out.2.1 HK.out.2.2 ?_); intro v9 w9 hown9 hg9)
        obtain ⟨a9, n9, c9, rfl⟩ := zao hown9
        have hI9 : Read11 w S (k + 1) (.slice a9 n9 c9) false (es ++ [(.slice ta tn tc, ⟨e0, e1, e2, e3, e4, e5⟩)]) (.slice (some ⟨b1, o1, none⟩) un uc) w9 := by
         refine ⟨zrk HI5.out.ext hg9 O2.out, HI5.out.fr.keep (zj5 hg9 O2.out) (zj9 hg9 O2.out), ?_, ?_, ?_⟩
         . rw [zbm, List.length_append]
           exact hown9
         . intro q hq
           rcases List.mem_append.1 hq with h | h
           . exact (HI5.out.cuts q h).grown hg9 O2.out
           . obtain rfl := List.mem_singleton.1 h
             exact HT5.out.grown hg9 O2.out
         . rw [HN1.out, List.map_append]
           rfl
        have HI9 := Hi hI9
        clear hI9 hown9 hg9
        go_wp2_with fail
        go_roundw
        case rel => exact ⟨k + 1, false, _, by omega, by go_num, by go_num, rfl, ⟨_, _, _, rfl⟩, HI9⟩
        case measure => simp [intOf]; omega
  . obtain rfl : k = un := by omega
    have hfull : S.l.take k = S.l := List.take_of_length_le (by rw [HN.out]; exact Nat.le_refl _)
    have hIS := hI.out.is
    rw [hfull] at hIS
    have hents : Ents wr (.slice au nu cu) (es.map (·.2)) := zbb (fun q hq => (hI.out.cuts q hq).row.ints) (SlN.ofOwn hI.out.row)
    have hnu2 : nu = es.length := by
     obtain ⟨_, _, e1, _⟩ := hents.shape
     injection e1 with _ hnu _
     rw [hnu]
     simp
    have HIS := Hi hIS
    have HCH := Hi (ze0 _ _ wr hents)
    have HNU := Hi hnu2
    clear hfull hIS hents hnu2
    go_wp2_with fail
    refine HCH.out.mono ?_
    rintro e w6 ⟨rfl, hE6⟩
    obtain ⟨ch, hch⟩ : ∃ z, Ent.chain (es.map (·.2)) = z := ⟨_, rfl⟩
    have HI6 := Hi (hI.out.later hE6)
    have HC := Hi hch
    rw [hch]
    clear hE6 hch
    have hfin : ∀ b : Bool, b = decide (ch = nu) -> zd3 w S (.returned (.tuple #[.slice au nu cu, .bool sl, .bool b])) w6 := fun b hb => by
     have hr : Rep.readF S.l = Rep.chk ⟨es.map (·.2), sl⟩ := by rw [Rep.readF_is, HIS.out]; rfl
     have hc : Rep.chk ⟨es.map (·.2), sl⟩ = if ch = nu then some ⟨es.map (·.2), sl⟩ else none := by
      unfold Rep.chk
      show (if Ent.chain (es.map (·.2)) = (es.map (·.2)).length then _ else _) = _
      rw [HC.out, List.length_map, HNU.out]
     refine ⟨_, es, sl, b, rfl, HI6.out.ext, HI6.out.row, HI6.out.cuts, ?_, ?_⟩
     . rw [hr, hc, hb]
       by_cases h : ch = nu
       . rw [if_pos h, decide_eq_true h]; rfl
       . rw [if_neg h, decide_eq_false h]; rfl
     . intro W hW
       rw [hr, hc] at hW
       by_cases h : ch = nu
       . rw [if_pos h] at hW
         injection hW with hW
         subst hW
         exact ⟨rfl, rfl⟩
       . rw [if_neg h] at hW
         cases hW
    have HFIN := Hi hfin
    clear hfin
    by_cases hq : ch = nu
    . have hqb : ((ch : Int) == (nu : Int)) = true := by simp [hq]
      have HQ := Hi hq
      clear hq
      go_wp2_with fail
      (try rw [Exit.noGoto_ret])
      go_ret3
      exact HFIN.out _ (by rw [decide_eq_true HQ.out])
    . have hqb : ((ch : Int) == (nu : Int)) = false := by simp; omega
      have HQ := Hi hq
      clear hq
      go_wp2_with fail
      (try rw [Exit.noGoto_ret])
      go_ret3
      exact HFIN.out _ (by rw [decide_eq_false HQ.out])
def May11 (id : Int) (c : Term.C) : Prop := Term.right c = true /\ hasI c.seqs id = true
def zed (B : Nat) (T : Nat -> Prop) (w : World) (S : Page.St) (id : Int) (c : Term.C) (e : Ending) (w' : World) : Prop :=
 ((∃ W x, May11 id c /\ Rep.readF S.l = some W /\ e = .returned (.tuple #[.pointer (some ⟨x, 0, none⟩), .int .i64 0]) /\ w.heap.size <= x /\ IsRep w' B (Later T w w') x ⟨id, c.term, S, W⟩) ∨
  (¬(May11 id c /\ (Rep.readF S.l).isSome = true) /\ e = .returned (.tuple #[.pointer none, .int .i64 1]))) /\ Ext w w'
theorem zqg (w : World) (id t : Int) (p : Nat) (a : Option Addr) (n c : Nat) (b : Bool) : (Instr.build 121 #[(0, .int .i64 id), (1, .int .i64 t), (2, .pointer (some ⟨p, 0, none⟩)), (3, .slice a n c), (4, .bool b)]).run Tryz.prog w = .ok (.agg #[.int .i64 id, .int .i64 t, .pointer (some ⟨p, 0, none⟩), .slice a n c, .bool b]) w := by kernel_rfl
theorem zs0 (w : World) (id t : Int) (p : Nat) (a : Option Addr) (n c : Nat) (b : Bool) : (Instr.box 121 (.agg #[.int .i64 id, .int .i64 t, .pointer (some ⟨p, 0, none⟩), .slice a n c, .bool b])).run Tryz.prog w = .ok (.pointer (some ⟨w.heap.size, 0, none⟩)) (w.alloc (.cells #[.int .i64 id, .int .i64 t, .pointer (some ⟨p, 0, none⟩), .slice a n c, .bool b] 121)) := by kernel_rfl
theorem zhj {w : World} {q : Nat} {n : Int} {a b : Option Addr} {m k i j : Nat} (h : ConfAt 33 w q n (.slice a m k) (.slice b i j)) : (Instr.loadAt 33 (.pointer (some ⟨q, 0, none⟩))).run Tryz.prog w = .ok (.agg #[.int .i64 n, .slice a m k, .slice b i j]) w := by
 obtain ⟨c0, c1, c2⟩ := h.cells
 simp [go_sem, c0, c1, c2]
set_option maxHeartbeats 8000000 in
theorem zic {w : World} {B p : Nat} {va vp : Value} {S : Page.St} (h : IsSto w B p va vp S) (hB : B <= w.heap.size) (T : Nat -> Prop) (hp1 : B <= p) (hp : T p) (ha : ∀ k, va.ownBlock = some k -> T k) (hq : ∀ k, vp.ownBlock = some k -> T k) (id : Int) (v : Value) (c : Term.C) (hv : IsConf w v c) :
 Calls Tryz.prog 44 #[.int .i64 id, v, .pointer (some ⟨p, 0, none⟩)] w (zed B T w S id c) := by
 have hbx := zc4
 have hb1 := zqg
 have hb2 := zs0
 obtain ⟨s, d, rfl, hs, hd⟩ := hv
 obtain ⟨a0, n0, k0, rfl⟩ := zan hs
 obtain ⟨a1, n1, k1, rfl⟩ := zbw hd
 unfold confV
 obtain ⟨tm, htm⟩ : ∃ z, c.term = z := ⟨_, rfl⟩
 obtain ⟨w1, hw1⟩ : ∃ w1, w.alloc (.cells #[.int .i64 tm, .slice a0 n0 k0, .slice a1 n1 k1] 33) = w1 := ⟨_, rfl⟩
 obtain ⟨q, hqq⟩ : ∃ q, w.heap.size = q := ⟨_, rfl⟩
 have hE1 : Ext w w1 := by rw [<- hw1]; exact Ext.alloc _ _
 have hc1 : ConfAt 33 w1 q tm (.slice a0 n0 k0) (.slice a1 n1 k1) := by rw [<- hw1, <- hqq]; exact ConfAt.new _ _ _ _ _
 have hl1 := zhj hc1
 have HC1 := Hi hc1
 have HE1 := Hi hE1
 have HW1 := Hi (And.intro hw1 hqq)
 have HIC := Hi (show IsConf w1 (.agg #[.int .i64 tm, .slice a0 n0 k0, .slice a1 n1 k1]) c from ⟨_, _, by rw [htm]; rfl, hs.below hE1, hd.below hE1⟩)
 have HS := Hi (And.intro h (And.intro hs (And.intro hB (And.intro hp1 (And.intro hp (And.intro ha hq))))))
 have HTM := Hi htm
 rw [htm]
 clear h hs hd hw1 hE1 hc1 hqq htm hB hp1 hp ha hq
 go_enter Tryz.func44, Tryz.ntmps44
 go_wp2_with fail
 rw [HW1.out.1, HW1.out.2]
 go_wp2_with (refine ldAny (by rfl) _ rfl rfl hl1 ?_)
 refine (zdq _ c w1 HIC.out).mono ?_
 rintro e w2 ⟨rfl, hE2⟩
 have HE2 := Hi (HE1.out.trans hE2)
 have HC2 := Hi (HC1.out.ext hE2)
 clear hE2 hl1
 obtain ⟨c0, c1, c2⟩ := HC2.out.cells
 have hno : ¬(May11 id c /\ (Rep.readF S.l).isSome = true) -> ∀ w', Ext w2 w' -> zed B T w S id c (.returned (.tuple #[.pointer none, .int .i64 1])) w' := fun h w' hE => ⟨.inr ⟨h, rfl⟩, HE2.out.trans hE⟩
 have HNO := Hi hno
 clear hno
 cases hr : Term.right c with
 | false =>
  have HR := Hi hr
  clear hr
  go_wp2_with fail
  go_ret2
  exact HNO.out (fun h => by have := h.1.1; rw [HR.out] at this; cases this) _ (Ext.refl _)
 | true =>
  have HR := Hi hr
  clear hr
  go_wp2_with fail
  refine (zfe _ c.seqs id w2 (HS.out.2.1.below HE2.out)).mono ?_
  rintro e w3 ⟨rfl, rfl⟩
  cases hh : hasI c.seqs id with
  | false =>
   have HH := Hi hh
   clear hh
   go_wp2_with fail
   go_ret2
   exact HNO.out (fun h => by have := h.1.2; rw [HH.out] at this; cases this) _ (Ext.refl _)
  | true =>
   have HH := Hi hh
   clear hh
   go_wp2_with fail
   refine (zg3 (HS.out.1.ext HE2.out)).mono ?_
   rintro e w4 ⟨u, es, sl, is, rfl, hE4, ho4, hq4, his, hW⟩
   obtain ⟨ua, un, uc, rfl⟩ := zao ho4
   have HR4 := Hi (And.intro hE4 (And.intro ho4 hq4))
   have HIS := Hi his
   have HWW := Hi hW
   have HC4 := Hi (HC2.out.ext hE4)
   clear hE4 ho4 hq4 his hW c0 c1 c2
   cases is with
   | false =>
    go_wp2_with fail
    go_ret2
    exact HNO.out (fun h => by have := h.2; rw [<- HIS.out] at this; cases this) _ HR4.out.1
   | true =>
    obtain ⟨Wt, hWt⟩ : ∃ Wt, Rep.readF S.l = some Wt := Option.isSome_iff_exists.1 HIS.out.symm
    obtain ⟨hl1, rfl⟩ := HWW.out Wt hWt
    obtain ⟨c0, c1, c2⟩ := HC4.out.cells
    have HWT := Hi (And.intro hWt hl1)
    obtain ⟨bs, hbs⟩ : ∃ b, Wt.sealed = b := ⟨_, rfl⟩
    rw [hbs]
    have HBS := Hi hbs
    clear hWt hl1 hbs
    go_wp2_with fail
    go_ret2
    obtain ⟨w5, hw5⟩ : ∃ z, w4.alloc (.cells #[.int .i64 id, .int .i64 tm, .pointer (some ⟨p, 0, none⟩), .slice ua un uc, .bool bs] 121) = z := ⟨_, rfl⟩
    have hE5 : Ext w4 w5 := by rw [<- hw5]; exact Ext.alloc _ _
    have hx5 : w5.heap[w4.heap.size]? = some (.cells #[.int .i64 id, .int .i64 tm, .pointer (some ⟨p, 0, none⟩), .slice ua un uc, .bool bs] 121 (0, 0)) := by rw [<- hw5]; exact heap_alloc_new _ _
    rw [hw5]
    have hE24 : Ext w w4 := HE2.out.trans HR4.out.1
    have hE25 : Ext w w5 := hE24.trans hE5
    obtain ⟨hsto, _, hB, hp1, hp, ha, hq⟩ := HS.out
    have h2 : w.heap.size <= w2.heap.size := HE2.out.size
    refine ⟨.inl ⟨Wt, w4.heap.size, ⟨HR.out, HH.out⟩, HWT.out.1, rfl, hE24.size, p, va, vp, .slice ua un uc, es, ?_⟩, hE25⟩
    have hlow : ∀ q ∈ es, ∀ k, q.1.ownBlock = some k -> w2.heap.size <= k := fun q hq k hk => (HR4.out.2.2 q hq).low (Nat.le_refl _) k hk
    have hlt : ∀ q ∈ es, ∀ k, q.1.ownBlock = some k -> k < w4.heap.size := fun q hq k hk => by
     obtain ⟨cur, hc⟩ := (HR4.out.2.2 q hq).row.at hk
     exact (Array.getElem?_eq_some_iff.1 hc).1
    have hs5 : w4.heap.size < w5.heap.size := (Array.getElem?_eq_some_iff.1 hx5).1
    refine ⟨Nat.le_trans hB hE24.size, .inr ⟨hE24.size, hs5⟩, hp1, .inl hp, fun k hk => .inl (ha k hk), fun k hk => .inl (hq k hk), fun k hk => .inr ⟨Nat.le_trans h2 (HR4.out.2.1.lt k hk).1, Nat.lt_trans (HR4.out.2.1.lt k hk).2 hs5⟩, fun q' hq' k hk => .inr ⟨Nat.le_trans h2 (hlow q' hq' k hk), Nat.lt_trans (hlt q' hq' k hk) hs5⟩, hsto.ext hE25, ⟨?_, zaw (za0 HR4.out.2.1 hE5) (Nat.le_trans hB h2), HWT.out.2, fun q' hq' => ?_, fun q' hq' k hk => Nat.le_trans hB (Nat.le_trans h2 (hlow q' hq' k hk))⟩, ⟨hsto.ok, HWT.out.1⟩⟩
    . show w5.heap[w4.heap.size]? = _
      rw [hx5, HTM.out, HBS.out]
    . exact ((HR4.out.2.2 q' hq').ext hE5).tag fun k hk => Nat.lt_of_lt_of_le (hsto.places.lt k hk).2 h2
theorem Rep.fresh : Page.fromBytes [] = ⟨[], 0, false⟩ := rfl
theorem Rep.fresh_read : Rep.readF (Page.fromBytes []).l = some ⟨[], false⟩ := rfl
def Rep.new (id : Int) (t : Int) : Rep.Rp := ⟨id, t, Page.fromBytes [], ⟨[], false⟩⟩
theorem Rep.new_calm (id t : Int) : Rep.Calm (Rep.new id t) := ⟨⟨Page.fromBytes_ok [], rfl⟩, rfl, rfl⟩
def zni (w : World) (id : Int) (c : Term.C) (e : Ending) (w' : World) : Prop :=
 ((∃ x, May11 id c /\ e = .returned (.tuple #[.pointer (some ⟨x, 0, none⟩), .int .i64 0]) /\ IsRep w' w.heap.size (fun k => w.heap.size <= k) x (Rep.new id c.term)) ∨
  (¬ May11 id c /\ e = .returned (.tuple #[.pointer none, .int .i64 1]))) /\ Ext w w'
theorem IsRep.ext {w w' : World} {B x : Nat} {S : Nat -> Prop} {r : Rep.Rp} (h : IsRep w B S x r) (hE : Ext w w') : IsRep w' B S x r := by
 obtain ⟨p, va, vp, ev, es, h⟩ := h
 exact ⟨p, va, vp, ev, es, h.ext hE⟩
def Has11 (q : Nat) (id : Int) (tm : Int) (x : Nat) (w : World) : Prop := IsRep w q (fun k => q <= k) x (Rep.new id tm)
set_option maxHeartbeats 8000000 in
theorem znn (w : World) (id : Int) (v : Value) (c : Term.C) (hv : IsConf w v c) :
 Calls Tryz.prog 21 #[.int .i64 id, v] w (zni w id c) := by
 have hbx := zc4
 have HV := Hi hv
 obtain ⟨s, d, rfl, hs, hd⟩ := hv
 obtain ⟨a0, n0, k0, rfl⟩ := zan hs
 obtain ⟨a1, n1, k1, rfl⟩ := zbw hd
 unfold confV at HV ⊢
 obtain ⟨tm, htm⟩ : ∃ z, c.term = z := ⟨_, rfl⟩
 rw [htm] at HV ⊢
 obtain ⟨w1, hw1⟩ : ∃ w1, w.alloc (.cells #[.int .i64 tm, .slice a0 n0 k0, .slice a1 n1 k1] 33) = w1 := ⟨_, rfl⟩
 obtain ⟨q, hqq⟩ : ∃ q, w.heap.size = q := ⟨_, rfl⟩
 have hE1 : Ext w w1 := by rw [<- hw1]; exact Ext.alloc _ _
 have hc1 : ConfAt 33 w1 q tm (.slice a0 n0 k0) (.slice a1 n1 k1) := by rw [<- hw1, <- hqq]; exact ConfAt.new _ _ _ _ _
 have HC1 := Hi hc1
 have HE1 := Hi hE1
 have HW1 := Hi (And.intro hw1 hqq)
 have HTM := Hi htm
 clear hs hd hw1 hE1 hc1 hqq htm
 go_enter Tryz.func21, Tryz.ntmps21
 go_upto_region 1 with fail
 rw [HW1.out.1, HW1.out.2]
 have hqw : q <= w1.heap.size := by rw [<- HW1.out.2]; exact HE1.out.size
 have hro : ∀ wy, Ext w1 wy -> ∀ va vp p, w1.heap.size <= p -> IsSto wy p p va vp (Page.fromBytes []) -> Calls Tryz.prog 44 #[.int .i64 id, .agg #[.int .i64 tm, .slice a0 n0 k0, .slice a1 n1 k1], .pointer (some ⟨p, 0, none⟩)] wy (zed q (fun k => q <= k) wy (Page.fromBytes []) id c) := by
  intro wy hl va vp p hp hs
  have hqy : q <= wy.heap.size := Nat.le_trans hqw hl.size
  have hsl := hs.lower (base' := q) (Nat.le_trans hqw hp)
  exact zic hsl hqy (fun k => q <= k) (Nat.le_trans hqw hp) (Nat.le_trans hqw hp) (fun k hk => (hsl.all.lt k hk).1) (fun k hk => (hsl.places.lt k hk).1) id _ c (HV.out.below (HE1.out.trans hl))
 have HRO := Hi hro
 have HQW := Hi hqw
 clear hro hqw
 by_cases hm : May11 id c
 . have hyes : ∀ wy, Ext w1 wy -> ∀ va vp p, w1.heap.size <= p -> IsSto wy p p va vp (Page.fromBytes []) -> Calls Tryz.prog 44 #[.int .i64 id, .agg #[.int .i64 tm, .slice a0 n0 k0, .slice a1 n1 k1], .pointer (some ⟨p, 0, none⟩)] wy fun e w' => ∃ v, e = .returned v /\ Ext wy w' /\ ∃ x, v = .tuple #[.pointer (some ⟨x, 0, none⟩), .int .i64 0] /\ Has11 q id tm x w' := by
    intro wy hl va vp p hp hs
    refine (HRO.out wy hl va vp p hp hs).mono ?_
    rintro e w' ⟨h, hE⟩
    rcases h with ⟨W, x, hm, hW, rfl, hx, p', va', vp', ev, es, hr⟩ | ⟨hn, rfl⟩
    . refine ⟨_, rfl, hE, x, rfl, p', va', vp', ev, es, ?_⟩
      rw [Rep.fresh_read] at hW
      injection hW with hW
      subst hW
      have := hr.wider (S' := fun k => q <= k) (fun k _ h => h.elim (fun e => e) (fun e => Nat.le_trans (Nat.le_trans HQW.out hl.size) e.1))
      rw [HTM.out] at this
      exact this
    . exact absurd ⟨hm, rfl⟩ hn
   have HYES := Hi hyes
   have HM := Hi hm
   clear hyes hm
   refine zat (by kernel_rfl) Ext (fun iop v w => match iop with
    | 0 => v = .int .i64 id
    | 1 => v = .agg #[.int .i64 tm, .slice a0 n0 k0, .slice a1 n1 k1]
    | 2 => ∃ va vp p, v = .pointer (some ⟨p, 0, none⟩) /\ w1.heap.size <= p /\ IsSto w p p va vp (Page.fromBytes [])
    | 3 => ∃ x, v = .tuple #[.pointer (some ⟨x, 0, none⟩), .int .i64 0] /\ Has11 q id tm x w
    | 4 => ∃ x, v = .pointer (some ⟨x, 0, none⟩) /\ Has11 q id tm x w
    | 5 => v = .int .i64 0
    | 6 => ∃ x, v = .pointer (some ⟨x, 0, none⟩) /\ Has11 q id tm x w
    | _ => v = .int .i64 0
    ) (by kernel_rfl) (fun _ _ _ h k => Ext.trans h k) (fun a => Ext.refl a) (Ext.drew _) ?_ ?_ ?_
   . intro iop v wa wb hF hL
     iterate 2 (rcases iop with _ | iop; exact hF)
     iterate 3 (rcases iop with _ | iop; (first | exact hF | (obtain ⟨x, h1, h2⟩ := hF; exact ⟨x, h1, h2.ext hL⟩) | (obtain ⟨va, vp, p, h1, h2, h3⟩ := hF; exact ⟨va, vp, p, h1, h2, h3.ext hL⟩)))
     rcases iop with _ | iop; exact hF
     rcases iop with _ | iop; (first | exact hF | (obtain ⟨x, h1, h2⟩ := hF; exact ⟨x, h1, h2.ext hL⟩) | (obtain ⟨va, vp, p, h1, h2, h3⟩ := hF; exact ⟨va, vp, p, h1, h2, h3.ext hL⟩))
     exact hF
   . refine Obls.cons ?_ (Obls.cons ?_ (Obls.cons ?_ (Obls.cons ?_ (Obls.cons ?_ (Obls.cons ?_ (Obls.cons ?_ (Obls.cons ?_ (Obls.nil))))))))
     . intro ev wy hp hl hk hd
       have e0 : ev _ = .int .i64 id := hk 0 (by decide)
       exact Yield.mv rfl ⟨Ext.refl _, e0⟩
     . intro ev wy hp hl hk hd
       have e3 : ev _ = .pointer (some ⟨q, 0, none⟩) := hk 3 (by decide)
       exact Yield.load rfl e3 (zhj (HC1.out.ext hl)) ⟨Ext.refl _, rfl⟩
     . intro ev wy hp hl hk hd
       refine Yield.call rfl hp Tryz.func45 rfl (by kernel_rfl) ?_
       simp only [List.map_toArray, List.map_cons, List.map_nil, hp.const]
       exact (zlg (.slice none 0 0) [] wy (zbo wy)).mono fun e w' ⟨va, vp, he, hs, hE⟩ => ⟨_, he, hE, va, vp, _, rfl, hl.size, hs⟩
     . intro ev wy hp hl hk hd
       have e6 : ev _ = _ := hk 6 (by decide)
       have e7 : ev _ = _ := hk 7 (by decide)
       have f8 : (fun (v : Value) (w : World) => ∃ va vp p, v = .pointer (some ⟨p, 0, none⟩) /\ w1.heap.size <= p /\ IsSto w p p va vp (Page.fromBytes [])) (ev (.tmp 8)) wy := hk 8 (by decide)
       generalize hx8 : ev (.tmp 8) = x8 at *
       obtain ⟨va, vp, p, hv8, hp1, hs⟩ := f8
       subst hv8
       refine Yield.call rfl hp Tryz.func44 rfl (by kernel_rfl) ?_
       simp only [List.map_toArray, List.map_cons, List.map_nil, hp.const, e6, e7, hx8]
       exact HYES.out wy hl va vp p hp1 hs
     . intro ev wy hp hl hk hd
       have f9 : (fun (v : Value) (w : World) => ∃ x, v = .tuple #[.pointer (some ⟨x, 0, none⟩), .int .i64 0] /\ Has11 q id tm x w) (ev (.tmp 9)) wy := hk 9 (by decide)
       generalize hx9 : ev (.tmp 9) = x9 at *
       obtain ⟨x, hv9, hr⟩ := f9
       subst hv9
       exact Yield.op (w' := wy) (by simp [execOp, go_sem, hx9]) ⟨Ext.refl _, x, rfl, hr⟩
     . intro ev wy hp hl hk hd
       have f9 : (fun (v : Value) (w : World) => ∃ x, v = .tuple #[.pointer (some ⟨x, 0, none⟩), .int .i64 0] /\ Has11 q id tm x w) (ev (.tmp 9)) wy := hk 9 (by decide)
       generalize hx9 : ev (.tmp 9) = x9 at *
       obtain ⟨x, hv9, hr⟩ := f9
       subst hv9
       exact Yield.op (w' := wy) (by simp [execOp, go_sem, hx9]) ⟨Ext.refl _, rfl⟩
     . intro ev wy hp hl hk hd
       have f10 : (fun (v : Value) (w : World) => ∃ x, v = .pointer (some ⟨x, 0, none⟩) /\ Has11 q id tm x w) (ev (.tmp 10)) wy := hk 10 (by decide)
       generalize hx10 : ev (.tmp 10) = x10 at *
       obtain ⟨x, hv10, hr⟩ := f10
       subst hv10
       exact Yield.op (w' := wy) (by simp [execOp, go_sem, hx10]) ⟨Ext.refl _, x, rfl, hr⟩
     . intro ev wy hp hl hk hd
       have e11 : ev _ = _ := hk 11 (by decide)
       exact Yield.as rfl ⟨Ext.refl _, e11⟩
   . intro vals wz hz hv
     have g6 : vals 0 = _ := hv 0 (by decide)
     have g7 : vals 1 = _ := hv 1 (by decide)
     have g8 : (fun (v : Value) (w : World) => ∃ va vp p, v = .pointer (some ⟨p, 0, none⟩) /\ w1.heap.size <= p /\ IsSto w p p va vp (Page.fromBytes [])) (vals 2) wz := hv 2 (by decide)
     have g9 : (fun (v : Value) (w : World) => ∃ x, v = .tuple #[.pointer (some ⟨x, 0, none⟩), .int .i64 0] /\ Has11 q id tm x w) (vals 3) wz := hv 3 (by decide)
     have g10 : (fun (v : Value) (w : World) => ∃ x, v = .pointer (some ⟨x, 0, none⟩) /\ Has11 q id tm x w) (vals 4) wz := hv 4 (by decide)
     have g11 : vals 5 = _ := hv 5 (by decide)
     have g4 : (fun (v : Value) (w : World) => ∃ x, v = .pointer (some ⟨x, 0, none⟩) /\ Has11 q id tm x w) (vals 6) wz := hv 6 (by decide)
     have g5 : vals 7 = _ := hv 7 (by decide)
     clear hv
     simp only [zar, Act.put, List.setIfInBounds_toArray, List.set_cons_zero, List.set_cons_succ, g6, g7, g11, g5]
     clear g6 g7 g11 g5
     generalize vals 2 = v8 at *
     generalize vals 3 = v9 at *
     generalize vals 4 = v10 at *
     generalize vals 6 = v4 at *
     obtain ⟨x, rfl, hr⟩ := g4
     have HR := Hi (And.intro hr hz)
     clear g8 g9 g10 hr hz
     go_wp2_with fail
     go_ret2
     refine ⟨.inl ⟨x, HM.out, rfl, ?_⟩, HE1.out.trans HR.out.2⟩
     rw [HW1.out.2, HTM.out]
     exact HR.out.1
 . have hno : ∀ wy, Ext w1 wy -> ∀ va vp p, w1.heap.size <= p -> IsSto wy p p va vp (Page.fromBytes []) -> Calls Tryz.prog 44 #[.int .i64 id, .agg #[.int .i64 tm, .slice a0 n0 k0, .slice a1 n1 k1], .pointer (some ⟨p, 0, none⟩)] wy fun e w' => ∃ v, e = .returned v /\ Ext wy w' /\ v = .tuple #[.pointer none, .int .i64 1] := by
    intro wy hl va vp p hp hs
    refine (HRO.out wy hl va vp p hp hs).mono ?_
    rintro e w' ⟨h, hE⟩
    rcases h with ⟨W, x, hm2, hW, rfl, hx, p', va', vp', ev, es, hr⟩ | ⟨hn, rfl⟩
    . exact absurd hm2 hm
    . exact ⟨_, rfl, hE, rfl⟩
   have HNO := Hi hno
   have HM := Hi hm
   clear hno hm
   refine zat (by kernel_rfl) Ext (fun iop v w => match iop with
    | 0 => v = .int .i64 id
    | 1 => v = .agg #[.int .i64 tm, .slice a0 n0 k0, .slice a1 n1 k1]
    | 2 => ∃ va vp p, v = .pointer (some ⟨p, 0, none⟩) /\ w1.heap.size <= p /\ IsSto w p p va vp (Page.fromBytes [])
    | 3 => v = .tuple #[.pointer none, .int .i64 1]
    | 4 => v = .pointer none
    | 5 => v = .int .i64 1
    | 6 => v = .pointer none
    | _ => v = .int .i64 1
    ) (by kernel_rfl) (fun _ _ _ h k => Ext.trans h k) (fun a => Ext.refl a) (Ext.drew _) ?_ ?_ ?_
   . intro iop v wa wb hF hL
     iterate 2 (rcases iop with _ | iop; exact hF)
     rcases iop with _ | iop; (first | exact hF | (obtain ⟨va, vp, p, h1, h2, h3⟩ := hF; exact ⟨va, vp, p, h1, h2, h3.ext hL⟩))
     iterate 4 (rcases iop with _ | iop; exact hF)
     exact hF
   . refine Obls.cons ?_ (Obls.cons ?_ (Obls.cons ?_ (Obls.cons ?_ (Obls.cons ?_ (Obls.cons ?_ (Obls.cons ?_ (Obls.cons ?_ (Obls.nil))))))))
     . intro ev wy hp hl hk hd
       have e0 : ev _ = .int .i64 id := hk 0 (by decide)
       exact Yield.mv rfl ⟨Ext.refl _, e0⟩
     . intro ev wy hp hl hk hd
       have e3 : ev _ = .pointer (some ⟨q, 0, none⟩) := hk 3 (by decide)
       exact Yield.load rfl e3 (zhj (HC1.out.ext hl)) ⟨Ext.refl _, rfl⟩
     . intro ev wy hp hl hk hd
       refine Yield.call rfl hp Tryz.func45 rfl (by kernel_rfl) ?_
       simp only [List.map_toArray, List.map_cons, List.map_nil, hp.const]
       exact (zlg (.slice none 0 0) [] wy (zbo wy)).mono fun e w' ⟨va, vp, he, hs, hE⟩ => ⟨_, he, hE, va, vp, _, rfl, hl.size, hs⟩
     . intro ev wy hp hl hk hd
       have e6 : ev _ = _ := hk 6 (by decide)
       have e7 : ev _ = _ := hk 7 (by decide)
       have f8 : (fun (v : Value) (w : World) => ∃ va vp p, v = .pointer (some ⟨p, 0, none⟩) /\ w1.heap.size <= p /\ IsSto w p p va vp (Page.fromBytes [])) (ev (.tmp 8)) wy := hk 8 (by decide)
       generalize hx8 : ev (.tmp 8) = x8 at *
       obtain ⟨va, vp, p, hv8, hp1, hs⟩ := f8
       subst hv8
       refine Yield.call rfl hp Tryz.func44 rfl (by kernel_rfl) ?_
       simp only [List.map_toArray, List.map_cons, List.map_nil, hp.const, e6, e7, hx8]
       exact HNO.out wy hl va vp p hp1 hs
     . intro ev wy hp hl hk hd
       have e9 : ev _ = _ := hk 9 (by decide)
       exact Yield.oq (by simp [execOp, go_sem, e9])
     . intro ev wy hp hl hk hd
       have e9 : ev _ = _ := hk 9 (by decide)
       exact Yield.oq (by simp [execOp, go_sem, e9])
     . intro ev wy hp hl hk hd
       have e10 : ev _ = _ := hk 10 (by decide)
       exact Yield.as rfl ⟨Ext.refl _, e10⟩
     . intro ev wy hp hl hk hd
       have e11 : ev _ = _ := hk 11 (by decide)
       exact Yield.as rfl ⟨Ext.refl _, e11⟩
   . intro vals wz hz hv
     have g6 : vals 0 = _ := hv 0 (by decide)
     have g7 : vals 1 = _ := hv 1 (by decide)
     have g8 : (fun (v : Value) (w : World) => ∃ va vp p, v = .pointer (some ⟨p, 0, none⟩) /\ w1.heap.size <= p /\ IsSto w p p va vp (Page.fromBytes [])) (vals 2) wz := hv 2 (by decide)
     have g9 : vals 3 = _ := hv 3 (by decide)
     have g10 : vals 4 = _ := hv 4 (by decide)
     have g11 : vals 5 = _ := hv 5 (by decide)
     have g4 : vals 6 = _ := hv 6 (by decide)
     have g5 : vals 7 = _ := hv 7 (by decide)
     clear hv
     simp only [zar, Act.put, List.setIfInBounds_toArray, List.set_cons_zero, List.set_cons_succ, g6, g7, g9, g10, g11, g4, g5]
     clear g6 g7 g9 g10 g11 g4 g5
     generalize vals 2 = v8 at *
     have HZ := Hi hz
     clear g8 hz
     go_wp2_with fail
     go_ret2
     exact ⟨.inr ⟨HM.out, rfl⟩, HE1.out.trans HZ.out⟩
theorem ziq {P : Program} {w : World} {o : Oper} {a : Act} {K : Act -> World -> Prop} {Q : Exit -> Act -> World -> Prop} (s x : Operand) {t e : TypeId} {z : Value} {size bytes : Nat} (E : ElemN P t e z size bytes)
 (ho : o.op = .call { callee := .builtin .append, args := #[s, x], argTypes := #[t, t] }) {base : Nat} {v u : Value} {n m : Nat} {xs ys : List Value} (hs : a.eval s = v) (hx : a.eval x = u)
 (hown : w.ownsRow base e size v n xs) (hu : SlN size w u m ys) (hm : 0 < m) (h1 : ∀ y ∈ ys, y.oneCell' = true) (hsz : n + m <= maxLen) (hby : (n + m) * bytes <= 140737488355328) (hb : base <= w.heap.size)
 (h : ∀ v' w', Hid (w'.ownsRow base e size v' (n + m) (xs ++ ys) /\ w.grownBy w' v.ownBlock /\ (∀ k, v'.ownBlock = some k -> v.ownBlock = some k \/ w.heap.size <= k) /\ w'.ownsRow base e size v n xs) -> K (a.put o.dst v') w') : o.wp P a w K Q := by
 obtain ⟨v', w', hr, h2, h3, h4, h5⟩ := zhw (P := P) (ty := o.type) E hown hu hm h1 hsz hby hb
 unfold Oper.wp execOp
 simp only [ho, resolve, invoke, builtin, Sem.run_bind, Sem.run_pure, Result.andThen_ok, List.map_toArray, List.map_cons, List.map_nil, hs, hx, hr]
 exact h v' w' (Hi ⟨h2, h3, h4, h5⟩)
def zdt (B : Nat) (S : Nat -> Prop) (x : Nat) (w : World) (r : Rep.Rp) (err : Int) (e : Ending) (w' : World) : Prop := e = .returned (.int .i64 err) /\ LeavesRep B S x w r w'
theorem Rep.order_is {r : Rep.Rp} {e : Ent.E} {k : Rep.OCase} (h : r.ocase e = k) (hk : k ≠ .next) : r.order e = r := by
 unfold Rep.Rp.order
 rw [h]
 cases k <;> first | rfl | exact absurd rfl hk
def Rep.errAt (r : Rep.Rp) (e : Ent.E) : Rep.OCase -> Int
 | .there => 0
 | .other => 112
 | .shut => 110
 | .gap => 111
 | .next => r.s.appendErr (Ent.enc e)
theorem Rep.orderErr_is {r : Rep.Rp} {e : Ent.E} {k : Rep.OCase} (h : r.ocase e = k) : r.orderErr e = Rep.errAt r e k := by
 unfold Rep.Rp.orderErr
 rw [h]
 rfl
theorem Ent.cut_small {e : Ent.E} (h : Ent.right e = true) : e.cut.length <= 8 := by
 rcases (Ent.right_ok h).2 with ⟨_, hv, _⟩ | ⟨_, hv, _⟩
 . exact (Vec.right_ok hv).2.2
 . rw [hv]; exact Nat.zero_le _
theorem Rep.follows_gap {r : Rep.Rp} {e : Ent.E} (h1 : ¬ e.number <= (r.w.l.length : Int)) (h2 : r.w.sealed = false) (h3 : ¬ (r.w.l.length : Int) + 1 < e.number) : r.ocase e = if Ent.follows r.w.l e = true then .next else .other := by
 unfold Rep.Rp.ocase Rep.Rp.len
 rw [if_neg h1, if_neg (by rw [h2]; simp), if_neg h3]
theorem IsRepS.more {w w1 w2 : World} {B x p : Nat} {S : Nat -> Prop} {va vp va' vp' ev lv u : Value} {es : List (Value × Ent.E)} {r : Rep.Rp} {e : Ent.E} (h : IsRepS w1 B S x p va vp ev es r) (hT : TwS S w w1) (hA : Appended w1 B p va vp r.s (Ent.enc e) w2 va' vp')
 (hc : r.ocase e = .next) (h0 : r.s.appendErr (Ent.enc e) = 0) (hl : w1.ownsRow B 84 6 lv (es ++ [(u, e)]).length (zah (es ++ [(u, e)]))) (hlv : ∀ k, lv.ownBlock = some k -> ev.ownBlock = some k \/ w.heap.size <= k) (hu : RowN w.heap.size w1 u e.cut) (hut : TagI w1 vp u e.cut) (hB : B <= w.heap.size) :
 LeavesRep B S x w (r.order e) (w2.setCell ⟨x, 3, none⟩ lv) := by
 obtain ⟨hs, hf⟩ := Rep.ocase_next hc
 have ho : r.order e = ⟨r.id, r.term, r.s.append (Ent.enc e), ⟨r.w.l ++ [e], r.w.sealed⟩⟩ := by
  unfold Rep.Rp.order
  rw [hc]
  simp only
  rw [if_pos h0]
 have hat := h.at'.app h.sto hA
 have hT2 := hT.trans (h.appended hA)
 have hbx : But x w2 (w2.setCell ⟨x, 3, none⟩ lv) := za2 _ _ _ _
 have hrow := zs4 h.sto hA hl
 have hT3 : TwS S w (w2.setCell ⟨x, 3, none⟩ lv) := hT2.trans (TwS.but hbx h.x2)
 have hx := heap_setCell hat.heap 3 lv
 have hnx : ∀ {k : Nat} {cs : Array Value} {T : TypeId} {fr : Nat × Nat}, w2.heap[k]? = some (.cells cs T fr) -> T ≠ 121 -> (w2.setCell ⟨x, 3, none⟩ lv).heap[k]? = w2.heap[k]? := fun hk hT => hbx.block _ (Array.getElem?_eq_some_iff.1 hk).1 (fun e => by subst e; rw [hat.heap] at hk; injection hk with hk; injection hk with _ e _; exact hT e.symm)
 have hsz := (Nat.le_trans hT.size hA.size)
 have hszx : (w2.setCell ⟨x, 3, none⟩ lv).heap.size = w2.heap.size := by simp
 refine ⟨?_, hT3⟩
 rw [ho]
 refine ⟨p, va', vp', lv, es ++ [(u, e)], h.x1, .inl h.x2, h.p1, .inl h.p2, fun k hk => ?_, fun k hk => ?_, fun k hk => ?_, fun q hq k hk => ?_, ?_, ?_, ?_⟩
 . rcases hA.newA with e | e | e
   . exact .inl (h.ua k (e ▸ hk))
   . exact .inl (h.ua k (e ▸ hk))
   . exact .inr ⟨Nat.le_trans hT.size (e k hk), by rw [hszx]; exact (hA.sto.all.lt k hk).2⟩
 . rcases hA.newP with e | e | e
   . exact .inl (h.up k (e ▸ hk))
   . exact .inl (h.up k (e ▸ hk))
   . exact .inr ⟨Nat.le_trans hT.size (e k hk), by rw [hszx]; exact (hA.sto.places.lt k hk).2⟩
 . rcases hlv k hk with e | e
   . exact .inl (h.ue k e)
   . exact .inr ⟨e, by rw [hszx]; exact (hrow.lt k hk).2⟩
 . rcases List.mem_append.1 hq with hq | hq
   . exact .inl (h.tags q hq k hk)
   . obtain rfl := List.mem_singleton.1 hq
     refine .inr ⟨hu.low (Nat.le_refl _) k hk, ?_⟩
     obtain ⟨cur, hcur⟩ := hu.row.at hk
     rw [hszx]
     exact Nat.lt_of_lt_of_le (Array.getElem?_eq_some_iff.1 hcur).1 hA.size
 . exact ⟨(hnx hA.sto.heap (by decide)).trans hA.sto.heap, za1 hA.sto.all fun k hk => by
    obtain ⟨cur, hcur⟩ := ownAt hA.sto.all hk
    exact hnx hcur (by decide), za1 hA.sto.places fun k hk => by
    obtain ⟨cur, hcur⟩ := ownAt hA.sto.places hk
    exact hnx hcur (by decide), hA.sto.ok⟩
 . have hcutA : ∀ q ∈ es ++ [(u, e)], TagI w2 vp' q.1 q.2.cut := fun q hq => by
    rcases List.mem_append.1 hq with hq | hq
    . exact hat.cuts q hq
    . obtain rfl := List.mem_singleton.1 hq
      refine ⟨hut.1.same fun k hk => ?_, fun k hk e => ?_⟩
      . obtain ⟨cur, hcur⟩ := hut.1.at hk
        refine hA.block k (Array.getElem?_eq_some_iff.1 hcur).1 (fun e => by subst e; rw [h.sto.heap] at hcur; injection hcur with hcur; injection hcur with _ e _; exact absurd e (by decide)) (zaj h.sto.all hcur (by decide)) (fun e => hut.2 k hk e.symm)
      . obtain ⟨cur, hcur⟩ := hut.1.at hk
        have hlt := (Array.getElem?_eq_some_iff.1 hcur).1
        rcases hA.newP with hn | hn | hn
        . rw [hn] at e; exact hut.2 k hk e
        . rw [hn] at e; exact hut.2 k hk e
        . have := hn k e
          omega
   refine ⟨hx, za1 hrow fun k hk => ?_, ?_, fun q hq => ⟨(hcutA q hq).1.same fun k hk => ?_, (hcutA q hq).2⟩, fun q hq k hk => ?_⟩
   . obtain ⟨cur, hcur⟩ := ownAt hrow hk
     exact hnx hcur (by decide)
   . rw [List.map_append, h.at'.ents]
     rfl
   . obtain ⟨cur, hcur⟩ := (hcutA q hq).1.at hk
     exact hnx hcur (by decide)
   . rcases List.mem_append.1 hq with hq | hq
     . exact h.at'.low q hq k hk
     . obtain rfl := List.mem_singleton.1 hq
       exact hu.low hB k hk
 . have := h.ok.order e
   rw [ho] at this
   exact this
set_option maxHeartbeats 16000000 in
theorem zks {w : World} {B x p : Nat} {S : Nat -> Prop} {va vp ev : Value} {es : List (Value × Ent.E)} {r : Rep.Rp} (h : IsRepS w B S x p va vp ev es r) (t : Value) (e : Ent.E) (hr : Ent.right e = true) (hv : ∀ w', TwS S w w' -> Ints w' t e.cut) :
 Calls Tryz.prog 82 #[.pointer (some ⟨x, 0, none⟩), entV t e] w (zdt B S x w (r.order e) (r.orderErr e)) := by
 have hbx := zho
 obtain ⟨ta, tn, tc, rfl⟩ := zan (hv w (TwS.ext (Ext.refl w)))
 have hnum : 1 <= e.number /\ e.number <= 1099511627776 := (Ent.right_ok hr).1
 obtain ⟨i, hi⟩ : ∃ i : Nat, e.number = (i : Int) + 1 := ⟨(e.number - 1).toNat, by omega⟩
 have hi40 : i <= 1099511627776 := by omega
 have hlen : r.w.l.length <= 13107 := by
  have h1 := Rep.readF_len h.ok.is
  have h2 := Page.count_le r.s.l
  have h3 := h.ok.sto.max
  omega
 obtain ⟨n, hn⟩ : ∃ n, r.w.l.length = n := ⟨_, rfl⟩
 rw [hn] at hlen
 obtain ⟨w1, hw1⟩ : ∃ z, w.alloc (.cells #[.int .i64 ((i : Int) + 1), .int .i64 e.kind, .slice ta tn tc, .int .i64 e.tag, .int .i64 e.term, .int .i64 e.pos] 84) = z := ⟨_, rfl⟩
 obtain ⟨q, hq⟩ : ∃ z, w.heap.size = z := ⟨_, rfl⟩
 have hE1 : Ext w w1 := by rw [<- hw1]; exact Ext.alloc _ _
 have hx1 : w1.heap[q]? = some (.cells #[.int .i64 ((i : Int) + 1), .int .i64 e.kind, .slice ta tn tc, .int .i64 e.tag, .int .i64 e.term, .int .i64 e.pos] 84 (0, 0)) := by rw [<- hw1, <- hq]; exact heap_alloc_new _ _
 have HR1 := Hi (h.ext hE1)
 have HV := Hi (fun w' ht => (⟨_, by unfold entV; rw [hi], hv w' ht⟩ : IsEnt w' (.agg #[.int .i64 ((i : Int) + 1), .int .i64 e.kind, .slice ta tn tc, .int .i64 e.tag, .int .i64 e.term, .int .i64 e.pos]) e))
 have HR := Hi hr
 have HNI := Hi (And.intro hn hi)
 have HW1 := Hi (And.intro hw1 hq)
 have HX1 := Hi hx1
 have HE1 := Hi hE1
 have HCI := Hi hv
 have HLT := Hi (And.intro (fun k (hk : ev.ownBlock = some k) => (h.at'.row.lt k hk).2) (And.intro (fun k (hk : vp.ownBlock = some k) => (h.sto.places.lt k hk).2) h.base))
 unfold entV
 rw [hi]
 obtain ⟨f1, hf1⟩ : ∃ z, e.kind = z := ⟨_, rfl⟩
 obtain ⟨f3, hf3⟩ : ∃ z, e.tag = z := ⟨_, rfl⟩
 obtain ⟨f4, hf4⟩ : ∃ z, e.term = z := ⟨_, rfl⟩
 obtain ⟨f5, hf5⟩ : ∃ z, e.pos = z := ⟨_, rfl⟩
 rw [hf1, hf3, hf4, hf5] at HV HX1 HW1 hx1 ⊢
 have HFF := Hi (And.intro hf1 (And.intro hf3 (And.intro hf4 hf5)))
 have c0 : w1.cell? ⟨q, 0, none⟩ = some (.int .i64 ((i : Int) + 1)) := zaa hx1 0
 clear hv hr hnum hn hi hw1 hq hx1 hE1 h hf1 hf3 hf4 hf5
 go_enter Tryz.func82, Tryz.ntmps82
 go_wp2_with fail
 rw [HW1.out.1, HW1.out.2]
 refine (zij HR1.out.at').mono ?_
 rintro e' w2 ⟨rfl, rfl⟩
 rw [HNI.out.1]
 by_cases hle : i + 1 <= n
 . have hcase : r.ocase e = if Ent.alike (r.w.l.getD i Msg.ent0) e = true then .there else .other := by
    unfold Rep.Rp.ocase Rep.Rp.len
    rw [HNI.out.1, HNI.out.2, if_pos (by omega), show ((i : Int) + 1 - 1).toNat = i by omega]
   have hil : i < r.w.l.length := by rw [HNI.out.1]; omega
   have hel : r.w.l.getD i Msg.ent0 = r.w.l[i] := by rw [List.getD_eq_getElem?_getD, List.getElem?_eq_getElem hil]; rfl
   rw [hel] at hcase
   obtain ⟨_, cap, e1, hc1, hc2, _, hc⟩ := HR1.out.at'.entsAt
   obtain ⟨b, off, rfl, t0, p0, p1, p2, p3, p4, p5, ht0⟩ := hc i hil
   subst e1
   obtain ⟨a0, n0, k0, rfl⟩ := zan ht0
   rw [HNI.out.1] at hc1
   have h3 : w1.cell? ⟨x, 3, none⟩ = some (.slice (some ⟨b, off, none⟩) n cap) := by
    have := zaa HR1.out.at'.heap 3
    rw [<- HNI.out.1]
    exact this
   generalize hE0 : r.w.l[i] = E0 at hcase p0 p1 p2 p3 p4 p5 ht0
   obtain ⟨ab, hab⟩ : ∃ z, Ent.alike E0 e = z := ⟨_, rfl⟩
   rw [hab] at hcase
   obtain ⟨g0, hg0⟩ : ∃ z, E0.number = z := ⟨_, rfl⟩
   obtain ⟨g1, hg1⟩ : ∃ z, E0.kind = z := ⟨_, rfl⟩
   obtain ⟨g3, hg3⟩ : ∃ z, E0.tag = z := ⟨_, rfl⟩
   obtain ⟨g4, hg4⟩ : ∃ z, E0.term = z := ⟨_, rfl⟩
   obtain ⟨g5, hg5⟩ : ∃ z, E0.pos = z := ⟨_, rfl⟩
   rw [hg0] at p0
   rw [hg1] at p1
   rw [hg3] at p3
   rw [hg4] at p4
   rw [hg5] at p5
   have hsame : ∀ wy, Ext w1 wy -> Calls Tryz.prog 52 #[.agg #[.int .i64 g0, .int .i64 g1, .slice a0 n0 k0, .int .i64 g3, .int .i64 g4, .int .i64 g5], .agg #[.int .i64 ((i : Int) + 1), .int .i64 f1, .slice ta tn tc, .int .i64 f3, .int .i64 f4, .int .i64 f5]] wy fun x w' => x = .returned (.bool ab) /\ Ext wy w' := by
    intro wy hl
    have h1 : IsEnt wy (.agg #[.int .i64 g0, .int .i64 g1, .slice a0 n0 k0, .int .i64 g3, .int .i64 g4, .int .i64 g5]) E0 := ⟨_, by unfold entV; rw [hg0, hg1, hg3, hg4, hg5], ht0.below hl⟩
    have := zfm _ _ E0 e wy h1 (HV.out wy (TwS.ext (HE1.out.trans hl)))
    rw [hab] at this
    exact this
   have HSAME := Hi hsame
   have HCASE := Hi hcase
   have HX3 := Hi (And.intro h3 (And.intro p0 (And.intro p1 (And.intro p2 (And.intro p3 (And.intro p4 p5))))))
   have hl : decide (((i : Int) + 1) <= (n : Int)) = true := by simp; omega
   have hl2 : (i : Int) + 1 <= (n : Int) := by omega
   have HWI := Hi (show IntKind.i64.wrap (i : Int) = (i : Int) from IntWalk.i64_in _ (by omega))
   clear hcase hsame hg0 hg1 hg3 hg4 hg5 hab hE0 h3 p0 p1 p2 p3 p4 p5 ht0 hc hel
   go_wp2_with fail
   refine zat (by kernel_rfl) Ext (fun iop v w => match iop with
    | 0 => v = .pointer (some ⟨x, 0, none⟩)
    | 1 => v = .pointer (some ⟨x, 0, none⟩)
    | 2 => v = .pointer (some ⟨x, 3, none⟩)
    | 3 => v = .slice (some ⟨b, off, none⟩) n cap
    | 4 => v = .pointer (some ⟨q, 0, none⟩)
    | 5 => v = .int .i64 ((i : Int) + 1)
    | 6 => v = .int .i64 (i : Int)
    | 7 => v = .pointer (some ⟨b, off + i * 6, none⟩)
    | 8 => v = .agg #[.int .i64 g0, .int .i64 g1, .slice a0 n0 k0, .int .i64 g3, .int .i64 g4, .int .i64 g5]
    | 9 => v = .agg #[.int .i64 ((i : Int) + 1), .int .i64 f1, .slice ta tn tc, .int .i64 f3, .int .i64 f4, .int .i64 f5]
    | 10 => v = .bool ab
    | _ => v = .bool (!ab)
    ) (by kernel_rfl) (fun _ _ _ h k => Ext.trans h k) (fun a => Ext.refl a) (Ext.drew _) ?_ ?_ ?_
   . intro iop v wa wb hF hL
     iterate 11 (rcases iop with _ | iop; exact hF)
     exact hF
   . refine Obls.cons ?_ (Obls.cons ?_ (Obls.cons ?_ (Obls.cons ?_ (Obls.cons ?_ (Obls.cons ?_ (Obls.cons ?_ (Obls.cons ?_ (Obls.cons ?_ (Obls.cons ?_ (Obls.cons ?_ (Obls.cons ?_ (Obls.nil))))))))))))
     . intro ev wy hp hl hk hd
       have e0 : ev _ = .pointer (some ⟨x, 0, none⟩) := hk 0 (by decide)
       exact Yield.mv rfl ⟨Ext.refl _, e0⟩
     . intro ev wy hp hl hk hd
       have e18 : ev _ = _ := hk 18 (by decide)
       exact Yield.oq (by simp [execOp, go_sem, e18])
     . intro ev wy hp hl hk hd
       have e19 : ev _ = _ := hk 19 (by decide)
       exact Yield.oq (by simp [execOp, go_sem, e19])
     . intro ev wy hp hl hk hd
       have e20 : ev _ = _ := hk 20 (by decide)
       exact Yield.load rfl e20 (by simp [go_sem, zbh hl HX3.out.1]) ⟨Ext.refl _, rfl⟩
     . intro ev wy hp hl hk hd
       have e3 : ev _ = .pointer (some ⟨q, 0, none⟩) := hk 3 (by decide)
       exact Yield.oq (by simp [execOp, go_sem, e3])
     . intro ev wy hp hl hk hd
       have e22 : ev _ = _ := hk 22 (by decide)
       exact Yield.load rfl e22 (by simp [go_sem, zaa (zad HX1.out hl) 0]) ⟨Ext.refl _, rfl⟩
     . intro ev wy hp hl hk hd
       have e23 : ev _ = _ := hk 23 (by decide)
       exact Yield.op (w' := wy) (by simp [execOp, go_sem, hp.const, e23, HWI.out]) ⟨Ext.refl _, rfl⟩
     . intro ev wy hp hl hk hd
       have e21 : ev _ = _ := hk 21 (by decide)
       have e24 : ev _ = _ := hk 24 (by decide)
       exact Yield.op (w' := wy) (by simp [execOp, go_sem, e21, e24]; omega) ⟨Ext.refl _, rfl⟩
     . intro ev wy hp hl hk hd
       have e25 : ev _ = _ := hk 25 (by decide)
       exact Yield.load rfl e25 (by simp [go_sem, zbh hl HX3.out.2.1, zbh hl HX3.out.2.2.1, zbh hl HX3.out.2.2.2.1, zbh hl HX3.out.2.2.2.2.1, zbh hl HX3.out.2.2.2.2.2.1, zbh hl HX3.out.2.2.2.2.2.2]) ⟨Ext.refl _, rfl⟩
     . intro ev wy hp hl hk hd
       have e3 : ev _ = .pointer (some ⟨q, 0, none⟩) := hk 3 (by decide)
       have hxy := zad HX1.out hl
       exact Yield.load rfl e3 (by simp [go_sem, zaa hxy 0, zaa hxy 1, zaa hxy 2, zaa hxy 3, zaa hxy 4, zaa hxy 5]) ⟨Ext.refl _, rfl⟩
     . intro ev wy hp hl hk hd
       have e26 : ev _ = _ := hk 26 (by decide)
       have e27 : ev _ = _ := hk 27 (by decide)
       refine Yield.call rfl hp Tryz.func52 rfl (by kernel_rfl) ?_
       simp only [List.map_toArray, List.map_cons, List.map_nil, e26, e27]
       exact ((HSAME.out wy hl)).mono fun _ _ ⟨he, hb⟩ => ⟨_, he, hb, by first | rfl | simp⟩
     . intro ev wy hp hl hk hd
       have e28 : ev _ = _ := hk 28 (by decide)
       exact Yield.oq (by simp [execOp, go_sem, e28])
   . intro vals wz hz hv
     have g18 : vals 0 = _ := hv 0 (by decide)
     have g19 : vals 1 = _ := hv 1 (by decide)
     have g20 : vals 2 = _ := hv 2 (by decide)
     have g21 : vals 3 = _ := hv 3 (by decide)
     have g22 : vals 4 = _ := hv 4 (by decide)
     have g23 : vals 5 = _ := hv 5 (by decide)
     have g24 : vals 6 = _ := hv 6 (by decide)
     have g25 : vals 7 = _ := hv 7 (by decide)
     have g26 : vals 8 = _ := hv 8 (by decide)
     have g27 : vals 9 = _ := hv 9 (by decide)
     have g28 : vals 10 = _ := hv 10 (by decide)
     have g29 : vals 11 = _ := hv 11 (by decide)
     clear hv
     simp only [zar, Act.put, List.setIfInBounds_toArray, List.set_cons_zero, List.set_cons_succ, g18, g19, g20, g21, g22, g23, g24, g25, g26, g27, g28, g29]
     clear g18 g19 g20 g21 g22 g23 g24 g25 g26 g27 g28 g29
     have HZ := Hi (HE1.out.trans hz)
     have HLV := Hi (LeavesRep.refl HR1.out hz)
     clear hz c0
     cases ab with
     | true =>
      go_wp2_with fail
      go_ret
      have hc : r.ocase e = .there := by simpa using HCASE.out
      refine ⟨by rw [Rep.orderErr_is hc]; rfl, ?_⟩
      rw [Rep.order_is hc (by simp)]
      exact LeavesRep.since HE1.out HLV.out
     | false =>
      go_wp2_with fail
      go_ret
      have hc : r.ocase e = .other := by simpa using HCASE.out
      refine ⟨by rw [Rep.orderErr_is hc]; rfl, ?_⟩
      rw [Rep.order_is hc (by simp)]
      exact LeavesRep.since HE1.out HLV.out
 . have hl : decide (((i : Int) + 1) <= (n : Int)) = false := by simp; omega
   have hl2 : ¬ (i : Int) + 1 <= (n : Int) := by omega
   have h4 : w1.cell? ⟨x, 4, none⟩ = some (.bool r.w.sealed) := zaa HR1.out.at'.heap 4
   obtain ⟨sb, hsb⟩ : ∃ z, r.w.sealed = z := ⟨_, rfl⟩
   rw [hsb] at h4
   have HSB := Hi hsb
   have hnle : ¬ e.number <= (r.w.l.length : Int) := by rw [HNI.out.1, HNI.out.2]; omega
   have HNLE := Hi hnle
   clear hsb hnle
   cases sb with
   | true =>
    have hc : r.ocase e = .shut := by
     unfold Rep.Rp.ocase Rep.Rp.len
     rw [if_neg HNLE.out, if_pos HSB.out]
    have HC := Hi hc
    clear hc
    go_wp2_with fail
    go_ret
    refine ⟨by rw [Rep.orderErr_is HC.out]; rfl, ?_⟩
    rw [Rep.order_is HC.out (by simp)]
    exact LeavesRep.since HE1.out (LeavesRep.refl HR1.out (Ext.refl _))
   | false =>
    by_cases hgap : n + 1 < i + 1
    . have hc : r.ocase e = .gap := by
       unfold Rep.Rp.ocase Rep.Rp.len
       rw [if_neg HNLE.out, if_neg (by rw [HSB.out]; simp), if_pos (by rw [HNI.out.1, HNI.out.2]; omega)]
      have HC := Hi hc
      have hg1 : decide ((n : Int) + 1 < (i : Int) + 1) = true := by simp; omega
      have hg2 : (n : Int) + 1 < (i : Int) + 1 := by omega
      clear hc
      go_wp2_with fail
      go_ret
      refine ⟨by rw [Rep.orderErr_is HC.out]; rfl, ?_⟩
      rw [Rep.order_is HC.out (by simp)]
      exact LeavesRep.since HE1.out (LeavesRep.refl HR1.out (Ext.refl _))
    . obtain rfl : i = n := by omega
      have hg1 : decide ((i : Int) + 1 < (i : Int) + 1) = false := by simp
      have hEd := Ext.drew w1
      have hxd := zad HX1.out hEd
      have x0 : w1.drew.cell? ⟨q, 0, none⟩ = some (.int .i64 ((i : Int) + 1)) := zaa hxd 0
      have x1 : w1.drew.cell? ⟨q, 1, none⟩ = some (.int .i64 f1) := zaa hxd 1
      have x2 : w1.drew.cell? ⟨q, 2, none⟩ = some (.slice ta tn tc) := zaa hxd 2
      have x3 : w1.drew.cell? ⟨q, 3, none⟩ = some (.int .i64 f3) := zaa hxd 3
      have x4 : w1.drew.cell? ⟨q, 4, none⟩ = some (.int .i64 f4) := zaa hxd 4
      have x5 : w1.drew.cell? ⟨q, 5, none⟩ = some (.int .i64 f5) := zaa hxd 5
      obtain ⟨la, lc, hev, hlc, hlm, _⟩ := HR1.out.at'.open
      have hesl : es.length = i := by rw [HR1.out.lenR]; exact HNI.out.1
      rw [hesl] at hev hlc
      subst hev
      have hcell : ∀ w9, Ext w1 w9 -> w9.cell? ⟨x, 3, none⟩ = some (.slice la i lc) := fun w9 hE => zaa (zad HR1.out.at'.heap hE) 3
      have k3a := hcell w1.drew hEd
      have hown : Calls Tryz.prog 54 #[.agg #[.int .i64 ((i : Int) + 1), .int .i64 f1, .slice ta tn tc, .int .i64 f3, .int .i64 f4, .int .i64 f5]] w1.drew fun e' w' => ∃ a9 n9 c9, e' = .returned (.agg #[.int .i64 ((i : Int) + 1), .int .i64 f1, .slice a9 n9 c9, .int .i64 f3, .int .i64 f4, .int .i64 f5]) /\ RowN w1.heap.size w' (.slice a9 n9 c9) e.cut /\ Ext w1 w' := by
       have h1 := zjc (.slice ta tn tc) e w1.drew (HCI.out w1.drew (TwS.ext (HE1.out.trans hEd))) (Nat.le_trans (Ent.cut_small HR.out) (by omega))
       unfold entV at h1
       rw [HNI.out.2, HFF.out.1, HFF.out.2.1, HFF.out.2.2.1, HFF.out.2.2.2] at h1
       refine h1.mono ?_
       rintro e' w' ⟨t9, rfl, hf, hE⟩
       obtain ⟨a9, n9, c9, rfl⟩ := zao hf.choose_spec.choose_spec.2
       exact ⟨a9, n9, c9, rfl, hf, hEd.trans hE⟩
      have hn1 : i + 1 <= maxLen := by unfold maxLen; omega
      have hn2 : (i + 1) * 64 <= 140737488355328 := by omega
      have hrow9 : ∀ w9, Ext w1 w9 -> w9.ownsRow B 84 6 (.slice la i lc) i (zah es) := fun w9 hE => by have := za0 HR1.out.at'.row hE; rw [hesl] at this; exact this
      have hB1 : B <= w1.heap.size := HR1.out.base
      have h1y : ∀ a n c, ∀ y ∈ [Value.int .i64 ((i : Int) + 1), .int .i64 f1, .slice a n c, .int .i64 f3, .int .i64 f4, .int .i64 f5], y.oneCell' = true := fun a n c => by simp [Value.oneCell']
      have HOWN := Hi hown
      have HROW := Hi hrow9
      have HONE := Hi h1y
      have HCELL := Hi hcell
      have HESL := Hi hesl
      have te := tE
      clear hown hrow9 h1y hcell hxd hesl hEd hi40
      go_wp2_with fail
      go_region_law (first
       | (go_simp; go_at_call 54; refine HOWN.out.mono ?_; rintro e' w9 ⟨a9, n9, c9, rfl, hf9, hE9⟩; have hEa : Ext w1 (w9.alloc (.cells #[.int .i64 ((i : Int) + 1), .int .i64 f1, .slice a9 n9 c9, .int .i64 f3, .int .i64 f4, .int .i64 f5] 84)) := hE9.trans (Ext.alloc _ _); have k3b := HCELL.out w9 hE9; have k3c := HCELL.out _ hEa; have hr9 := Hi (HROW.out _ hEa); have hs9 := Hi (SlN.one6 (T := 84) w9 (.slice a9 n9 c9) ⟨(i : Int) + 1, f1, [], f3, f4, f5⟩); have hb9 := Nat.le_trans hB1 hEa.size; have hEA := Hi hEa; clear hEa)
       | (rw [if_pos (by rfl)]; refine ziq (.tmp 44) (.tmp 47) te rfl rfl rfl hr9.out hs9.out (by omega) (HONE.out _ _ _) hn1 hn2 hb9 ?_; intro v10 w10 h10; obtain ⟨a10, n10, c10, rfl⟩ := zao h10.out.1))
      all_goals
       have h11 : w10.ownsRow B 84 6 (.slice a10 n10 c10) (i + 1) (zah es ++ zah [(.slice a9 n9 c9, ⟨(i : Int) + 1, f1, [], f3, f4, f5⟩)]) /\ (w9.alloc (.cells #[.int .i64 ((i : Int) + 1), .int .i64 f1, .slice a9 n9 c9, .int .i64 f3, .int .i64 f4, .int .i64 f5] 84)).grownBy w10 (Value.slice la i lc).ownBlock /\ (∀ k, (Value.slice a10 n10 c10).ownBlock = some k -> (Value.slice la i lc).ownBlock = some k \/ (w9.alloc (.cells #[.int .i64 ((i : Int) + 1), .int .i64 f1, .slice a9 n9 c9, .int .i64 f3, .int .i64 f4, .int .i64 f5] 84)).heap.size <= k) /\ w10.ownsRow B 84 6 (.slice la i lc) i (zah es) := h10.out
       have hI10 := (HR1.out.ext hEA.out).grown h11.2.1 (by rw [HESL.out]; exact h11.2.2.2)
       have hE01 := HE1.out.trans hEA.out
       have hT10 : TwS S w w10 := (TwS.ext hE01).trans (TwS.grown h11.2.1 (fun k e => HR1.out.ue k e))
       have hcut : RowN w.heap.size w10 (.slice a9 n9 c9) e.cut := ((hf9.ext (Ext.alloc _ _)).grown h11.2.1 hr9.out).lower HE1.out.size
       have htag : TagI w10 vp (.slice a9 n9 c9) e.cut := hcut.tag HLT.out.2.1
       have hflat : zah es ++ zah [(.slice a9 n9 c9, ⟨(i : Int) + 1, f1, [], f3, f4, f5⟩)] = zah (es ++ [(.slice a9 n9 c9, e)]) := by
        rw [zbm]
        unfold zah
        simp [HNI.out.2, HFF.out.1, HFF.out.2.1, HFF.out.2.2.1, HFF.out.2.2.2]
       have hlong : w10.ownsRow B 84 6 (.slice a10 n10 c10) (es ++ [(Value.slice a9 n9 c9, e)]).length (zah (es ++ [(Value.slice a9 n9 c9, e)])) := by
        rw [<- hflat, List.length_append, HESL.out]
        exact h11.1
       have hents : Ents w10 (.slice a10 n10 c10) (r.w.l ++ [e]) := by
        have := zbb (ps := es ++ [(Value.slice a9 n9 c9, e)]) (fun q hq => by
         rcases List.mem_append.1 hq with hq | hq
         . exact hI10.at'.ints q hq
         . obtain rfl := List.mem_singleton.1 hq
           exact hcut.row.ints) (SlN.ofOwn hlong)
        rw [List.map_append, hI10.at'.ents] at this
        exact this
       have hn10 : n10 = i + 1 := by have := zcv h11.1; exact this
       subst hn10
       have hnew : ∀ k, (Value.slice a10 (i + 1) c10).ownBlock = some k -> (Value.slice la i lc).ownBlock = some k \/ w.heap.size <= k := fun k hk => (h11.2.2.1 k hk).elim .inl (fun e => .inr (Nat.le_trans hE01.size e))
       have hq10 : w10.heap[q]? = some (.cells #[.int .i64 ((i : Int) + 1), .int .i64 f1, .slice ta tn tc, .int .i64 f3, .int .i64 f4, .int .i64 f5] 84 (0, 0)) := by
        have hxa := zad HX1.out hEA.out
        exact (h11.2.1.block q (Array.getElem?_eq_some_iff.1 hxa).1 (fun e => by have := HLT.out.1 q e.symm; rw [HW1.out.2] at this; omega)).trans hxa
       have HI10 := Hi (And.intro hI10 hT10)
       have HNEW := Hi (And.intro hlong (And.intro hnew (And.intro hcut htag)))
       have HQ10 := Hi hq10
       have HCH := Hi (ze0 _ _ w10 hents)
       have hch : Ent.chain (r.w.l ++ [e]) = if Ent.follows r.w.l e = true then i + 1 else i := by
        have h1 : Ent.chain r.w.l = r.w.l.length := hI10.ok.chain
        rw [Ent.chain_snoc, if_pos h1, HNI.out.1]
       have hcase := Rep.follows_gap (r := r) (e := e) (fun h => by have := HNLE.out; omega) HSB.out (by rw [HNI.out.1, HNI.out.2]; omega)
       have HCASE := Hi hcase
       have HCHN := Hi hch
       clear h10 h11 hI10 hE01 hT10 hcut htag hflat hlong hents hnew hq10 hch hcase x0 x1 x2 x3 x4 x5 k3a k3b k3c hr9 hs9 hf9 hE9 hEA hb9
       go_wp2_with fail
       refine HCH.out.mono ?_
       rintro e' w11 ⟨rfl, hE11⟩
       rw [HCHN.out]
       have HI11 := Hi (And.intro (HI10.out.1.ext hE11) (HI10.out.2.trans (TwS.ext hE11)))
       have HQ11 := Hi (zad HQ10.out hE11)
       have HN11 := Hi (And.intro (za0 HNEW.out.1 hE11) (And.intro (HNEW.out.2.2.1.ext hE11) (HNEW.out.2.2.2.ext hE11)))
       have HLR11 := Hi (show LeavesRep B S x w r w11 from ⟨⟨p, va, vp, _, es, HI11.out.1.wider fun k _ hk => .inl hk⟩, HI11.out.2⟩)
       clear hE11
       cases hfo : Ent.follows r.w.l e with
       | false =>
        have hc : r.ocase e = .other := by rw [HCASE.out, hfo]; rfl
        have HC := Hi hc
        clear hc hfo
        go_wp2_with fail
        go_ret
        refine ⟨by rw [Rep.orderErr_is HC.out]; rfl, ?_⟩
        rw [Rep.order_is HC.out (by simp)]
        exact HLR11.out
       | true =>
        have hc : r.ocase e = .next := by rw [HCASE.out, hfo]; rfl
        have HC := Hi hc
        have x0 := zaa HQ11.out 0
        have x1 := zaa HQ11.out 1
        have x2 := zaa HQ11.out 2
        have x3 := zaa HQ11.out 3
        have x4 := zaa HQ11.out 4
        have x5 := zaa HQ11.out 5
        simp at x0 x1 x2 x3 x4 x5
        have HEN := Hi (zjv _ e w11 (HV.out w11 HI11.out.2) HR.out)
        clear hc hfo
        go_wp2_with fail
        refine HEN.out.mono ?_
        rintro e' w12 ⟨u, rfl, ho12, hE12⟩
        obtain ⟨ua, un, uc, rfl⟩ := zao ho12
        have HI12 := Hi (And.intro (HI11.out.1.ext hE12) (HI11.out.2.trans (TwS.ext hE12)))
        have HN12 := Hi (And.intro (za0 HN11.out.1 hE12) (And.intro (HN11.out.2.1.ext hE12) (HN11.out.2.2.ext hE12)))
        have hp2 : w12.cell? ⟨x, 2, none⟩ = some (.pointer (some ⟨p, 0, none⟩)) := zaa HI12.out.1.at'.heap 2
        have hbs : Bytes w12 (.slice ua un uc) (Ent.enc e) := Sl.ofOwn ho12
        have HAP := Hi (zfv HI12.out.1.sto HI12.out.1.base _ (Ent.enc e) hbs (Nat.le_trans (Ent.enc_le HR.out) (by omega)))
        clear x0 x1 x2 x3 x4 x5 hE12 ho12 hbs
        go_wp2_with fail
        refine HAP.out.mono ?_
        unfold zd8
        rintro e' w13 ⟨rfl, va', vp', hA⟩
        obtain ⟨y, hy⟩ : ∃ z, r.s.appendErr (Ent.enc e) = z := ⟨_, rfl⟩
        rw [hy]
        have HA := Hi hA
        have HY := Hi hy
        have herr : r.orderErr e = y := by rw [Rep.orderErr_is HC.out]; exact hy
        have HERR := Hi herr
        obtain ⟨aw, haw⟩ : ∃ z : Int, ((r.s.appendAt (Ent.enc e) : Nat) : Int) = z := ⟨_, rfl⟩
        rw [haw]
        clear hA hy herr hp2 haw
        by_cases hy0 : y = 0
        . subst hy0
          have hat := HI12.out.1.at'.app HI12.out.1.sto HA.out
          have g3 := zaa hat.heap 3
          have fr3 := zac hat.heap 3
          have HFIN := Hi (HI12.out.1.more HI12.out.2 HA.out HC.out HY.out HN12.out.1 HNEW.out.2.1 HN12.out.2.1 HN12.out.2.2 HLT.out.2.2)
          clear hat
          go_wp2_with fail
          go_ret
          exact ⟨by rw [HERR.out]; rfl, HFIN.out⟩
        . have hsame : r.s.append (Ent.enc e) = r.s := Seg.same_w (by rw [HY.out]; exact hy0)
          have hyb : (y == 0) = false := by simpa using hy0
          have hr0 : r.order e = r := by
           unfold Rep.Rp.order
           rw [HC.out]
           simp only
           rw [if_neg (by rw [HY.out]; exact hy0)]
          have hsto := HA.out.sto
          rw [hsame] at hsto
          have hat := HI12.out.1.at'.app HI12.out.1.sto HA.out
          have hT13 := HI12.out.2.trans (HI12.out.1.appended HA.out)
          have HFIN := Hi (show LeavesRep B S x w (r.order e) w13 by
           rw [hr0]
           have h := HI12.out.1
           refine ⟨⟨p, va', vp', _, es, h.x1, .inl h.x2, h.p1, .inl h.p2, fun k hk => ?_, fun k hk => ?_, fun k hk => .inl (h.ue k hk), fun q hq k hk => .inl (h.tags q hq k hk), hsto, hat, h.ok⟩, hT13⟩
           . rcases HA.out.newA with e | e | e
             . exact .inl (h.ua k (e ▸ hk))
             . exact .inl (h.ua k (e ▸ hk))
             . exact .inr ⟨Nat.le_trans HI12.out.2.size (e k hk), (HA.out.sto.all.lt k hk).2⟩
           . rcases HA.out.newP with e | e | e
             . exact .inl (h.up k (e ▸ hk))
             . exact .inl (h.up k (e ▸ hk))
             . exact .inr ⟨Nat.le_trans HI12.out.2.size (e k hk), (HA.out.sto.places.lt k hk).2⟩)
          clear hsame hr0 hsto hat hT13
          go_wp2_with fail
          go_ret
          exact ⟨by rw [HERR.out]; rfl, HFIN.out⟩
theorem IsRepS.shut {w w1 w2 : World} {B x p : Nat} {S : Nat -> Prop} {va vp va' vp' ev : Value} {es : List (Value × Ent.E)} {r : Rep.Rp} (h : IsRepS w1 B S x p va vp ev es r) (hT : TwS S w w1) (hA : Appended w1 B p va vp r.s [0] w2 va' vp')
 (hs : r.w.sealed = false) (b : Bool) (hb : b = decide (r.s.appendErr [0] = 0)) : LeavesRep B S x w r.shut (w2.setCell ⟨x, 4, none⟩ (.bool b)) := by
 have hat := h.at'.app h.sto hA
 have hbx : But x w2 (w2.setCell ⟨x, 4, none⟩ (.bool b)) := za2 _ _ _ _
 have hT3 : TwS S w (w2.setCell ⟨x, 4, none⟩ (.bool b)) := (hT.trans (h.appended hA)).trans (TwS.but hbx h.x2)
 have hx := heap_setCell hat.heap 4 (.bool b)
 have hnx : ∀ {k : Nat} {cs : Array Value} {T : TypeId} {fr : Nat × Nat}, w2.heap[k]? = some (.cells cs T fr) -> T ≠ 121 -> (w2.setCell ⟨x, 4, none⟩ (.bool b)).heap[k]? = w2.heap[k]? := fun hk hT => hbx.block _ (Array.getElem?_eq_some_iff.1 hk).1 (fun e => by subst e; rw [hat.heap] at hk; injection hk with hk; injection hk with _ e _; exact hT e.symm)
 have hszx : (w2.setCell ⟨x, 4, none⟩ (.bool b)).heap.size = w2.heap.size := by simp
 have hS' : ∀ (v v' : Value), (∀ k, v.ownBlock = some k -> S k) -> (v' = v \/ v'.ownBlock = v.ownBlock \/ ∀ k, v'.ownBlock = some k -> w1.heap.size <= k) -> (∀ k, v'.ownBlock = some k -> k < w2.heap.size) -> ∀ k, v'.ownBlock = some k -> Later S w (w2.setCell ⟨x, 4, none⟩ (.bool b)) k := fun v v' hv hn hlt k hk => by
  rcases hn with e | e | e
  . exact .inl (hv k (e ▸ hk))
  . exact .inl (hv k (e ▸ hk))
  . exact .inr ⟨Nat.le_trans hT.size (e k hk), by rw [hszx]; exact hlt k hk⟩
 have hsto : IsSto (w2.setCell ⟨x, 4, none⟩ (.bool b)) B p va' vp' (r.s.append [0]) := ⟨(hnx hA.sto.heap (by decide)).trans hA.sto.heap, za1 hA.sto.all fun k hk => by
  obtain ⟨cur, hcur⟩ := ownAt hA.sto.all hk
  exact hnx hcur (by decide), za1 hA.sto.places fun k hk => by
  obtain ⟨cur, hcur⟩ := ownAt hA.sto.places hk
  exact hnx hcur (by decide), hA.sto.ok⟩
 have hrep : RepAt (w2.setCell ⟨x, 4, none⟩ (.bool b)) B x p vp' ev es r.id r.term ⟨r.w.l, b⟩ := ⟨hx, za1 hat.row fun k hk => by
  obtain ⟨cur, hcur⟩ := ownAt hat.row hk
  exact hnx hcur (by decide), hat.ents, fun q hq => ⟨(hat.cuts q hq).1.same fun k hk => by
  obtain ⟨cur, hcur⟩ := (hat.cuts q hq).1.at hk
  exact hnx hcur (by decide), (hat.cuts q hq).2⟩, hat.low⟩
 have hok := h.ok.shut
 have hw : r.shut = ⟨r.id, r.term, r.s.append [0], ⟨r.w.l, b⟩⟩ := by
  unfold Rep.Rp.shut
  rw [if_neg (by rw [hs]; simp)]
  by_cases h0 : r.s.appendErr [0] = 0
  . rw [if_pos h0, hb, decide_eq_true h0]
  . rw [if_neg h0, hb, decide_eq_false h0, Seg.same_w h0, <- hs]
 rw [hw] at hok ⊢
 exact ⟨⟨p, va', vp', ev, es, h.x1, .inl h.x2, h.p1, .inl h.p2, hS' va va' h.ua hA.newA (fun k hk => (hA.sto.all.lt k hk).2), hS' vp vp' h.up hA.newP (fun k hk => (hA.sto.places.lt k hk).2), fun k hk => .inl (h.ue k hk), fun q hq k hk => .inl (h.tags q hq k hk), hsto, hrep, hok⟩, hT3⟩
set_option maxHeartbeats 8000000 in
theorem zly {w : World} {B x p : Nat} {S : Nat -> Prop} {va vp ev : Value} {es : List (Value × Ent.E)} {r : Rep.Rp} (h : IsRepS w B S x p va vp ev es r) :
 Calls Tryz.prog 83 #[.pointer (some ⟨x, 0, none⟩)] w (zdt B S x w r.shut r.shutErr) := by
 have c4 : w.cell? ⟨x, 4, none⟩ = some (.bool r.w.sealed) := zaa h.at'.heap 4
 have c2 : w.cell? ⟨x, 2, none⟩ = some (.pointer (some ⟨p, 0, none⟩)) := zaa h.at'.heap 2
 obtain ⟨sb, hsb⟩ : ∃ z, r.w.sealed = z := ⟨_, rfl⟩
 rw [hsb] at c4
 have HSB := Hi hsb
 have H := Hi h
 clear h hsb
 cases sb with
 | true =>
  go_enter Tryz.func83, Tryz.ntmps83
  go_wp2_with fail
  go_ret
  refine ⟨?_, ?_⟩
  . unfold Rep.Rp.shutErr
    rw [if_pos HSB.out]
    rfl
  . unfold Rep.Rp.shut
    rw [if_pos HSB.out]
    exact LeavesRep.refl H.out (Ext.refl _)
 | false =>
  have kc := fun (w : World) (C : Array Value) (n c : Nat) => Lib.run_convert_bytes_const (P := Tryz.prog) w 141 5 C n c Tryz.underlying141 Tryz.underlying5
  have hal := Ext.alloc w (.cells #[.int .u8 0] 5 (1, 2))
  have hbs : Bytes (w.alloc (.cells #[.int .u8 0] 5 (1, 2))) (.slice (some ⟨w.heap.size, 0, none⟩) 1 1) [0] := Sl.made w (u8s [0]) 5 1 (by simp) (by simp [maxLen]) (fr := (1, 2))
  have H1 := Hi (H.out.ext hal)
  have HT1 := Hi (TwS.ext (S := S) hal)
  have HAP := Hi (zfv H1.out.sto H1.out.base _ [0] hbs (by simp))
  clear hal hbs
  go_enter Tryz.func83, Tryz.ntmps83
  go_wp2_with fail
  refine HAP.out.mono ?_
  unfold zd8
  rintro e' w2 ⟨rfl, va', vp', hA⟩
  obtain ⟨y, hy⟩ : ∃ z, r.s.appendErr [0] = z := ⟨_, rfl⟩
  rw [hy]
  have HFIN := Hi (fun b hb => H1.out.shut HT1.out hA HSB.out b hb)
  rw [hy] at HFIN
  have HERR := Hi (show r.shutErr = y by
   unfold Rep.Rp.shutErr
   rw [if_neg (by rw [HSB.out]; simp), hy])
  obtain ⟨aw, haw⟩ : ∃ z : Int, ((r.s.appendAt [0] : Nat) : Int) = z := ⟨_, rfl⟩
  rw [haw]
  have hat := H1.out.at'.app H1.out.sto hA
  have g4 : w2.cell? ⟨x, 4, none⟩ = some (.bool r.w.sealed) := zaa hat.heap 4
  have fr4 := zac hat.heap 4
  clear hA hy haw hat c2 c4
  by_cases hy0 : y = 0
  . subst hy0
    have HF := Hi (HFIN.out true (by simp))
    go_wp2_with fail
    go_ret
    exact ⟨by rw [HERR.out]; rfl, HF.out⟩
  . have HF := Hi (HFIN.out false (by simp [hy0]))
    have hyb : (y == 0) = false := by simpa using hy0
    go_wp2_with fail
    go_ret
    exact ⟨by rw [HERR.out]; rfl, HF.out⟩
theorem IsSto.butT {w w' : World} {B p q : Nat} {va vp : Value} {St : Page.St} {cs : Array Value} {t : TypeId} {fr : Nat × Nat} (h : IsSto w B p va vp St) (hq : w.heap[q]? = some (.cells cs t fr)) (h1 : t ≠ 143) (h2 : t ≠ 5) (h3 : t ≠ 3) (hb : But q w w') : IsSto w' B p va vp St :=
 ⟨(hb.block p h.lt (fun e => by subst e; rw [h.heap] at hq; injection hq with hq; injection hq with _ e _; exact h1 e.symm)).trans h.heap, zbe h.all (zaj h.all hq h2) hb, zbe h.places (zaj h.places hq h3) hb, h.ok⟩
set_option maxHeartbeats 8000000 in
theorem zkf {w : World} {B x p : Nat} {S : Nat -> Prop} {va vp ev : Value} {es : List (Value × Ent.E)} {r : Rep.Rp} (h : IsRepS w B S x p va vp ev es r) (keep : Int) (hk : -9223372036854775808 <= keep /\ keep <= 9223372036854775807) :
 Calls Tryz.prog 46 #[.pointer (some ⟨x, 0, none⟩), .int .i64 keep] w fun e w' => e = .returned (.tuple #[]) /\ LeavesRep B S x w (r.crash keep) w' := by
 have c2 : w.cell? ⟨x, 2, none⟩ = some (.pointer (some ⟨p, 0, none⟩)) := zaa h.at'.heap 2
 have HCR := Hi (zlt h.sto keep hk)
 have H := Hi h
 have hxp : x ≠ p := fun e => by
  have h1 := h.at'.heap
  rw [e, h.sto.heap] at h1
  injection h1 with h1
  injection h1 with _ e _
  exact absurd e (by decide)
 have HXP := Hi hxp
 clear h hxp
 go_enter Tryz.func46, Tryz.ntmps46
 go_wp2_with fail
 refine HCR.out.mono ?_
 unfold zgq
 rintro e w2 ⟨rfl, hb2, va2, vp2, hs2⟩
 have hx2 := (hb2.block x H.out.at'.lt HXP.out).trans H.out.at'.heap
 have d2 : w2.cell? ⟨x, 2, none⟩ = some (.pointer (some ⟨p, 0, none⟩)) := zaa hx2 2
 have HS2 := Hi (And.intro hs2 hb2)
 have HX2 := Hi hx2
 clear hb2 hs2 hx2 c2 HCR
 go_wp2_with fail
 refine (zg3 HS2.out.1).mono ?_
 rintro e w3 ⟨u, es3, sl, is, rfl, hE3, ho3, hq3, his, hW⟩
 have hok := H.out.ok.crash keep
 have hV : Rep.readF (r.s.crash keep).l = some (r.crash keep).w := hok.is
 obtain ⟨hes, hsl⟩ := hW _ hV
 have hit : is = true := by rw [his, hV]; rfl
 subst hit hsl
 obtain ⟨ua, un, uc, rfl⟩ := zao ho3
 have hx3 := zad HX2.out hE3
 have g3 : w3.cell? ⟨x, 3, none⟩ = some ev := zaa hx3 3
 have g4 : w3.cell? ⟨x, 4, none⟩ = some (.bool r.w.sealed) := zaa hx3 4
 have z3 := zac hx3 3
 have z4 := zac hx3 4
 obtain ⟨sb, hsb⟩ : ∃ z, (r.crash keep).w.sealed = z := ⟨_, rfl⟩
 rw [hsb]
 have HSB := Hi hsb
 have HX3 := Hi hx3
 have H3 := Hi (And.intro hE3 (And.intro ho3 (And.intro hq3 (And.intro hes hok))))
 clear hok hV hes his hW hE3 ho3 hq3 hx3 hsb d2
 go_wp2_with fail
 go_end0
 obtain ⟨w4, hw4⟩ : ∃ z, w3.setCell ⟨x, 3, none⟩ (.slice ua un uc) = z := ⟨_, rfl⟩
 obtain ⟨w5, hw5⟩ : ∃ z, w4.setCell ⟨x, 4, none⟩ (.bool sb) = z := ⟨_, rfl⟩
 have hb4 : But x w3 w4 := by rw [<- hw4]; exact za2 _ _ _ _
 have hb5 : But x w4 w5 := by rw [<- hw5]; exact za2 _ _ _ _
 have hx4 := heap_setCell HX3.out 3 (.slice ua un uc)
 rw [hw4] at hx4 ⊢
 have hx5 := heap_setCell hx4 4 (.bool sb)
 rw [hw5] at hx5 ⊢
 have hb : But x w3 w5 := hb4.trans hb5
 obtain ⟨hE3, ho3, hq3, hes, hok⟩ := H3.out
 have hsz2 := HS2.out.2.size
 have hsz3 := hE3.size
 have hsz5 := hb.size
 have hs3 := (HS2.out.1.ext hE3).butT HX3.out (by decide) (by decide) (by decide) hb
 have hrn : ∀ q ∈ es3, RowN w2.heap.size w5 q.1 q.2.cut := fun q hq => by
  obtain ⟨b, m, hb', ho⟩ := hq3 q hq
  exact ⟨b, m, hb', zbe ho (zaj ho HX3.out (by decide)) hb⟩
 have hro : w5.ownsRow w2.heap.size 84 6 (.slice ua un uc) es3.length (zah es3) := zbe ho3 (zaj ho3 HX3.out (by decide)) hb
 have hBw := H.out.base
 refine ⟨rfl, ⟨p, va2, vp2, .slice ua un uc, es3, H.out.x1, .inl H.out.x2, H.out.p1, .inl H.out.p2, fun k hk => .inr ⟨(hs3.all.lt k hk).1, (hs3.all.lt k hk).2⟩, fun k hk => .inr ⟨(hs3.places.lt k hk).1, (hs3.places.lt k hk).2⟩, fun k hk => .inr ⟨Nat.le_trans hsz2 (hro.lt k hk).1, (hro.lt k hk).2⟩, fun q hq k hk => .inr ⟨Nat.le_trans hsz2 ((hrn q hq).low (Nat.le_refl _) k hk), ?_⟩, hs3.lower hBw, ⟨?_, zaw hro (Nat.le_trans hBw hsz2), hes, fun q hq => (hrn q hq).tag fun k hk => (HS2.out.1.places.lt k hk).2, fun q hq k hk => Nat.le_trans hBw (Nat.le_trans hsz2 ((hrn q hq).low (Nat.le_refl _) k hk))⟩, hok⟩, ?_⟩
 . obtain ⟨cur, hc⟩ := (hrn q hq).row.at hk
   exact (Array.getElem?_eq_some_iff.1 hc).1
 . rw [hx5, <- HSB.out]
   rfl
 . exact (TwS.but HS2.out.2 H.out.p2).trans ((TwS.ext hE3).trans (TwS.but hb H.out.x2))
theorem IsRepS.synced {w w' : World} {B x p : Nat} {S : Nat -> Prop} {va vp ev : Value} {es : List (Value × Ent.E)} {r : Rep.Rp} (h : IsRepS w B S x p va vp ev es r) (hb : But p w w') (hs : IsSto w' B p va vp r.s.sync) : IsRepS w' B S x p va vp ev es r.sync :=
 ⟨h.x1, h.x2, h.p1, h.p2, h.ua, h.up, h.ue, h.tags, hs, h.at'.butT h.sto.heap (by decide) (by decide) (by decide) hb, h.ok.sync⟩
theorem zmf (w : World) (k a b c : Int) (n : Int) (i : Bool) : (Instr.build 89 #[(0, .int .i64 k), (1, .int .i64 a), (2, .int .i64 b), (3, .int .i64 c), (5, .int .i64 n), (6, .bool i)]).run Tryz.prog w = .ok (.agg (zag ⟨k, a, b, c, 0, n, i, Msg.rec0, Msg.ent0, 0, 0, Msg.conf0⟩ (.slice none 0 0) (.slice none 0 0) (.slice none 0 0) (.slice none 0 0))) w := by kernel_rfl
def zcl (B : Nat) (S : Nat -> Prop) (x : Nat) (w : World) (t : Rep.Rp × Msg.M × Int) (e : Ending) (w' : World) : Prop :=
 e = .returned (.tuple #[.agg (zag t.2.1 (.slice none 0 0) (.slice none 0 0) (.slice none 0 0) (.slice none 0 0)), .int .i64 t.2.2]) /\ LeavesRep B S x w t.1 w'
set_option maxHeartbeats 16000000 in
theorem zgm {w : World} {B x p q0 q1 : Nat} {S : Nat -> Prop} {va vp ev rt et sv dv : Value} {es : List (Value × Ent.E)} {r : Rep.Rp} {m : Msg.M} (h : IsRepS w B S x p va vp ev es r) (k err : Int) (h0 : w.heap[q0]? = some (.cells #[.pointer (some ⟨x, 0, none⟩)] 69 (0, 0))) (h1 : MsgAt 89 w q1 m rt et sv dv) (hq1 : ¬ S q1) (hq0 : ¬ S q0) (hsl : ∀ k, S k -> k < w.heap.size) :
 Calls Tryz.prog 79 #[.int .i64 k, .int .i64 err, .pointer (some ⟨q0, 0, none⟩), .pointer (some ⟨q1, 0, none⟩)] w (zcl B S x w (Rep.tell r k m err)) := by
 have hb0 := zgn
 have H := Hi h
 have H0 := Hi h0
 have H1 := Hi h1
 have HQ := Hi (And.intro hq0 hq1)
 clear h h0 h1 hq0 hq1
 go_enter Tryz.func79, Tryz.ntmps79
 go_upto_region 1 with (refine zgk (by rfl) rfl ?_; intro W1 q hat1 hE1 hq)
 by_cases he : err = 0
 . subst he
   have HR1 := Hi (H.out.ext hE1.out)
   have b0 : W1.cell? ⟨q0, 0, none⟩ = some (.pointer (some ⟨x, 0, none⟩)) := zaa (zad H0.out hE1.out) 0
   have c2 : W1.cell? ⟨x, 2, none⟩ = some (.pointer (some ⟨p, 0, none⟩)) := zaa HR1.out.at'.heap 2
   have HSY := Hi (zpr HR1.out.sto)
   go_wp2_with fail
   refine HSY.out.mono ?_
   rintro e w2 ⟨rfl, hb2, hs2⟩
   have HR2 := Hi (HR1.out.synced hb2 hs2)
   have hsp : ∀ k, ¬ S k -> k ≠ p := fun k hk e => hk (e ▸ HR1.out.p2)
   have HM2 := Hi (show MsgAt 89 w2 q1 m rt et sv dv from (hb2.block q1 (Nat.lt_of_lt_of_le H1.out.lt hE1.out.size) (hsp q1 HQ.out.2)).trans (H1.out.ext hE1.out))
   have HB2 := Hi (show w2.heap[q0]? = _ from (hb2.block q0 (Array.getElem?_eq_some_iff.1 (zad H0.out hE1.out)).1 (hsp q0 HQ.out.1)).trans (zad H0.out hE1.out))
   have hqn : ¬ S q := fun hq' => by have := hsl q hq'; have := hq.out; omega
   have hat2 := Hi (show MsgAt 89 w2 q Msg.none0 (.slice none 0 0) (.slice none 0 0) (.slice none 0 0) (.slice none 0 0) from (hb2.block q hat1.out.lt (hsp q hqn)).trans hat1.out)
   have HT2 := Hi (show TwS S w w2 from (TwS.ext hE1.out).trans (TwS.but hb2 HR1.out.p2))
   obtain ⟨sr, hsr⟩ : ∃ z, m.src = z := ⟨_, rfl⟩
   obtain ⟨ri, hri⟩ : ∃ z, r.id = z := ⟨_, rfl⟩
   obtain ⟨tm, htm⟩ : ∃ z, r.term = z := ⟨_, rfl⟩
   obtain ⟨sb, hsb⟩ : ∃ z, r.w.sealed = z := ⟨_, rfl⟩
   obtain ⟨n, hn⟩ : ∃ z, r.w.l.length = z := ⟨_, rfl⟩
   have hxh : w2.heap[x]? = some (.cells #[.int .i64 ri, .int .i64 tm, .pointer (some ⟨p, 0, none⟩), ev, .bool sb] 121 (0, 0)) := by
    have := HR2.out.at'.heap
    rw [<- hri, <- htm, <- hsb]
    exact this
   have HXH := Hi hxh
   have hlen := fun wy (hl : Ext w2 wy) => zij (HR2.out.at'.ext hl)
   have HLEN := Hi (fun wy (hl : Ext w2 wy) => ((hlen wy hl).mono fun e w' (h : _ /\ wy = w') => (⟨h.1, h.2 ▸ Ext.refl _⟩ : _ /\ Ext wy w')))
   have hrl : r.sync.w.l.length = n := hn
   rw [hrl] at HLEN
   have HTOLD := Hi (show Rep.tell r k m 0 = (r.sync, ⟨k, ri, sr, tm, 0, (n : Int), sb, Msg.rec0, Msg.ent0, 0, 0, Msg.conf0⟩, 0) by
    unfold Rep.tell Rep.told Rep.Rp.len
    rw [if_pos rfl, hsr, hri, htm, hsb, hn])
   have HSR := Hi hsr
   have hbt := zmf
   clear hb2 hs2 hsp hqn b0 c2 hsr hri htm hsb hn hxh hlen hrl
   go_wp2_with fail
   refine zbf (by kernel_rfl) 18 Ext (fun iop v w => match iop with
    | 0 => v = .int .i64 k
    | 1 => v = .pointer (some ⟨x, 0, none⟩)
    | 2 => v = .pointer (some ⟨x, 0, none⟩)
    | 3 => v = .pointer (some ⟨x, 0, none⟩)
    | 4 => v = .int .i64 ri
    | 5 => v = .pointer (some ⟨q1, 1, none⟩)
    | 6 => v = .int .i64 sr
    | 7 => v = .pointer (some ⟨x, 0, none⟩)
    | 8 => v = .pointer (some ⟨x, 0, none⟩)
    | 9 => v = .pointer (some ⟨x, 1, none⟩)
    | 10 => v = .int .i64 tm
    | 11 => v = .pointer (some ⟨x, 0, none⟩)
    | 12 => v = .int .i64 (n : Nat)
    | 13 => v = .pointer (some ⟨x, 0, none⟩)
    | 14 => v = .pointer (some ⟨x, 0, none⟩)
    | 15 => v = .pointer (some ⟨x, 4, none⟩)
    | 16 => v = .bool sb
    | _ => v = .agg (zag ⟨k, ri, sr, tm, 0, (n : Int), sb, Msg.rec0, Msg.ent0, 0, 0, Msg.conf0⟩ (.slice none 0 0) (.slice none 0 0) (.slice none 0 0) (.slice none 0 0))
    ) (by kernel_rfl) (by kernel_rfl) (by decide) (fun _ _ _ h k => Ext.trans h k) (fun a => Ext.refl a) (Ext.drew _) ?_ ?_ ?_
   . intro iop v wa wb hF hL
     iterate 17 (rcases iop with _ | iop; exact hF)
     exact hF
   . refine Obls.cons ?_ (Obls.cons ?_ (Obls.cons ?_ (Obls.cons ?_ (Obls.cons ?_ (Obls.cons ?_ (Obls.cons ?_ (Obls.cons ?_ (Obls.cons ?_ (Obls.cons ?_ (Obls.cons ?_ (Obls.cons ?_ (Obls.cons ?_ (Obls.cons ?_ (Obls.cons ?_ (Obls.cons ?_ (Obls.cons ?_ (Obls.cons ?_ (Obls.nil))))))))))))))))))
     . intro ev wy hp hl hk hd
       have e0 : ev _ = .int .i64 k := hk 0 (by decide)
       exact Yield.mv rfl ⟨Ext.refl _, e0⟩
     . intro ev wy hp hl hk hd
       have e2 : ev _ = .pointer (some ⟨q0, 0, none⟩) := hk 2 (by decide)
       exact Yield.load rfl e2 (by simp [go_sem, zaa (zad HB2.out hl) 0]) ⟨Ext.refl _, rfl⟩
     . intro ev wy hp hl hk hd
       have e18 : ev _ = _ := hk 18 (by decide)
       exact Yield.oq (by simp [execOp, go_sem, e18])
     . intro ev wy hp hl hk hd
       have e19 : ev _ = _ := hk 19 (by decide)
       exact Yield.oq (by simp [execOp, go_sem, e19])
     . intro ev wy hp hl hk hd
       have e20 : ev _ = _ := hk 20 (by decide)
       exact Yield.load rfl e20 (by simp [go_sem, zaa (zad HXH.out hl) 0]) ⟨Ext.refl _, rfl⟩
     . intro ev wy hp hl hk hd
       have e3 : ev _ = .pointer (some ⟨q1, 0, none⟩) := hk 3 (by decide)
       exact Yield.oq (by simp [execOp, go_sem, e3])
     . intro ev wy hp hl hk hd
       have e22 : ev _ = _ := hk 22 (by decide)
       have hmh := (HM2.out.ext hl).head.2.1
       rw [HSR.out] at hmh
       exact Yield.load rfl e22 (by simp [go_sem, hmh]) ⟨Ext.refl _, rfl⟩
     . intro ev wy hp hl hk hd
       have e2 : ev _ = .pointer (some ⟨q0, 0, none⟩) := hk 2 (by decide)
       exact Yield.load rfl e2 (by simp [go_sem, zaa (zad HB2.out hl) 0]) ⟨Ext.refl _, rfl⟩
     . intro ev wy hp hl hk hd
       have e24 : ev _ = _ := hk 24 (by decide)
       exact Yield.oq (by simp [execOp, go_sem, e24])
     . intro ev wy hp hl hk hd
       have e25 : ev _ = _ := hk 25 (by decide)
       exact Yield.oq (by simp [execOp, go_sem, e25])
     . intro ev wy hp hl hk hd
       have e26 : ev _ = _ := hk 26 (by decide)
       exact Yield.load rfl e26 (by simp [go_sem, zaa (zad HXH.out hl) 1]) ⟨Ext.refl _, rfl⟩
     . intro ev wy hp hl hk hd
       have e2 : ev _ = .pointer (some ⟨q0, 0, none⟩) := hk 2 (by decide)
       exact Yield.load rfl e2 (by simp [go_sem, zaa (zad HB2.out hl) 0]) ⟨Ext.refl _, rfl⟩
     . intro ev wy hp hl hk hd
       have e28 : ev _ = _ := hk 28 (by decide)
       refine Yield.call rfl hp Tryz.func81 rfl (by kernel_rfl) ?_
       simp only [List.map_toArray, List.map_cons, List.map_nil, e28]
       exact ((HLEN.out wy hl)).mono fun _ _ ⟨he, hb⟩ => ⟨_, he, hb, by first | rfl | simp⟩
     . intro ev wy hp hl hk hd
       have e2 : ev _ = .pointer (some ⟨q0, 0, none⟩) := hk 2 (by decide)
       exact Yield.load rfl e2 (by simp [go_sem, zaa (zad HB2.out hl) 0]) ⟨Ext.refl _, rfl⟩
     . intro ev wy hp hl hk hd
       have e30 : ev _ = _ := hk 30 (by decide)
       exact Yield.oq (by simp [execOp, go_sem, e30])
     . intro ev wy hp hl hk hd
       have e31 : ev _ = _ := hk 31 (by decide)
       exact Yield.oq (by simp [execOp, go_sem, e31])
     . intro ev wy hp hl hk hd
       have e32 : ev _ = _ := hk 32 (by decide)
       exact Yield.load rfl e32 (by simp [go_sem, zaa (zad HXH.out hl) 4]) ⟨Ext.refl _, rfl⟩
     . intro ev wy hp hl hk hd
       have e17 : ev _ = _ := hk 17 (by decide)
       have e21 : ev _ = _ := hk 21 (by decide)
       have e23 : ev _ = _ := hk 23 (by decide)
       have e27 : ev _ = _ := hk 27 (by decide)
       have e29 : ev _ = _ := hk 29 (by decide)
       have e33 : ev _ = _ := hk 33 (by decide)
       exact Yield.op (w' := wy) (by simp [execOp, go_sem, hp.const, e17, e21, e23, e27, e29, e33, hbt]; rfl) ⟨Ext.refl _, rfl⟩
   . intro vals wz hz hv
     have g17 : vals 0 = _ := hv 0 (by decide)
     have g18 : vals 1 = _ := hv 1 (by decide)
     have g19 : vals 2 = _ := hv 2 (by decide)
     have g20 : vals 3 = _ := hv 3 (by decide)
     have g21 : vals 4 = _ := hv 4 (by decide)
     have g22 : vals 5 = _ := hv 5 (by decide)
     have g23 : vals 6 = _ := hv 6 (by decide)
     have g24 : vals 7 = _ := hv 7 (by decide)
     have g25 : vals 8 = _ := hv 8 (by decide)
     have g26 : vals 9 = _ := hv 9 (by decide)
     have g27 : vals 10 = _ := hv 10 (by decide)
     have g28 : vals 11 = _ := hv 11 (by decide)
     have g29 : vals 12 = _ := hv 12 (by decide)
     have g30 : vals 13 = _ := hv 13 (by decide)
     have g31 : vals 14 = _ := hv 14 (by decide)
     have g32 : vals 15 = _ := hv 15 (by decide)
     have g33 : vals 16 = _ := hv 16 (by decide)
     have g34 : vals 17 = _ := hv 17 (by decide)
     clear hv
     simp only [List.take_succ_cons, List.take_zero, List.drop_succ_cons, List.drop_zero]
     simp only [zar, Act.put, List.setIfInBounds_toArray, List.set_cons_zero, List.set_cons_succ, g17, g18, g19, g20, g21, g22, g23, g24, g25, g26, g27, g28, g29, g30, g31, g32, g33, g34]
     clear g17 g18 g19 g20 g21 g22 g23 g24 g25 g26 g27 g28 g29 g30 g31 g32 g33 g34
     have hat3 := Hi (hat2.out.ext hz)
     have HZ := Hi hz
     clear hz hat2
     go_wp2_with (refine putM (m2 := ⟨k, ri, sr, tm, 0, (n : Int), sb, Msg.rec0, Msg.ent0, 0, 0, Msg.conf0⟩) (r2 := .slice none 0 0) (e2 := .slice none 0 0) (s2 := .slice none 0 0) (d2 := .slice none 0 0) (by rfl) _ _ rfl rfl rfl hat3.out zap zap zap zap ?_; intro W9 hat9 hB9)
     have hld := run_loadVar_mid (P := Tryz.prog) W9 q 0 89 _ _ (MsgAt.range hat9.out) Tryz.underlying89 rfl (by kernel_rfl)
     refine bodyPost_ret (v := .tuple #[.agg (zag ⟨k, ri, sr, tm, 0, (n : Int), sb, Msg.rec0, Msg.ent0, 0, 0, Msg.conf0⟩ (.slice none 0 0) (.slice none 0 0) (.slice none 0 0) (.slice none 0 0)), .int .i64 0]) (by simp [results, Tryz.results79, hld, asAddr, Act.put]) rfl ?_
     rw [HTOLD.out]
     refine ⟨rfl, ?_, ?_⟩
     . refine ⟨p, va, vp, ev, es, ((HR2.out.ext HZ.out).keep fun k hk hs => hB9.out.block k hk (fun e => ?_)).wider fun k _ hk => .inl hk⟩
       have := hsl k hs
       have := hq.out
       omega
     . exact (HT2.out.trans (TwS.ext HZ.out)).andThen (TwS.but (S := fun k => k = q) hB9.out rfl) fun i hi e => by have := hq.out; omega
 . have heb : (err != 0) = true := by simpa using he
   have HTOLD := Hi (show Rep.tell r k m err = (r, Msg.none0, err) by unfold Rep.tell; rw [if_neg he])
   go_wp2_with (refine putM (m2 := Msg.none0) (r2 := .slice none 0 0) (e2 := .slice none 0 0) (s2 := .slice none 0 0) (d2 := .slice none 0 0) (by rfl) _ _ rfl rfl rfl hat1.out zap zap zap zap ?_; intro W9 hat9 hB9)
   have hld := run_loadVar_mid (P := Tryz.prog) W9 q 0 89 _ _ (MsgAt.range hat9.out) Tryz.underlying89 rfl (by kernel_rfl)
   refine bodyPost_ret (v := .tuple #[.agg (zag Msg.none0 (.slice none 0 0) (.slice none 0 0) (.slice none 0 0) (.slice none 0 0)), .int .i64 err]) (by simp [results, Tryz.results79, hld, asAddr, Act.put]) rfl ?_
   rw [HTOLD.out]
   exact ⟨rfl, LeavesRep.refl H.out (Ext.newQ11 hE1.out (Nat.le_of_eq hq.out.symm) hB9.out)⟩
theorem Msg.right_ent {m : Msg.M} (h : Msg.right m = true) (hk : m.kind = 3) : Ent.right m.ent = true := by
 unfold Msg.right Msg.kindOk at h
 rw [if_neg (by omega), if_neg (by omega), if_pos hk] at h
 simp only [Bool.and_eq_true] at h
 exact h.2.2.2.2.2
theorem Rep.take_bad {r : Rep.Rp} {m : Msg.M} (h : m.dst ≠ r.id \/ m.term ≠ r.term \/ Msg.right m = false) : r.take m = (r, Msg.none0, 1) := by
 unfold Rep.Rp.take
 rw [if_pos h]
theorem Rep.take_order {r : Rep.Rp} {m : Msg.M} (h : ¬(m.dst ≠ r.id \/ m.term ≠ r.term \/ Msg.right m = false)) (hk : m.kind = 3) : r.take m = Rep.tell (r.order m.ent) 4 m (r.orderErr m.ent) := by
 unfold Rep.Rp.take
 rw [if_neg h, if_pos hk]
theorem Rep.take_shut {r : Rep.Rp} {m : Msg.M} (h : ¬(m.dst ≠ r.id \/ m.term ≠ r.term \/ Msg.right m = false)) (hk : m.kind = 5) : r.take m = Rep.tell r.shut 6 m r.shutErr := by
 unfold Rep.Rp.take
 rw [if_neg h, if_neg (by omega), if_pos hk]
theorem Rep.take_none {r : Rep.Rp} {m : Msg.M} (h : ¬(m.dst ≠ r.id \/ m.term ≠ r.term \/ Msg.right m = false)) (h3 : m.kind ≠ 3) (h5 : m.kind ≠ 5) : r.take m = (r, Msg.none0, 1) := by
 unfold Rep.Rp.take
 rw [if_neg h, if_neg h3, if_neg h5]
theorem LeavesRep.fill {B x q : Nat} {S : Nat -> Prop} {w W1 w3 W9 : World} {r : Rep.Rp} (hE : Ext w W1) (h : LeavesRep B S x W1 r w3) (hq : w.heap.size <= q) (hq1 : q < W1.heap.size) (hS : ¬ S q) (hb : But q w3 W9) : LeavesRep B S x w r W9 := by
 obtain ⟨⟨p, va, vp, ev, es, h1⟩, h2⟩ := h
 refine ⟨⟨p, va, vp, ev, es, (h1.keep fun k hk hs => hb.block k hk fun e => ?_).wider fun k hk hs => ?_⟩, ?_⟩
 . subst e
   rcases hs with hs | hs
   . exact hS hs
   . omega
 . rcases hs with hs | hs
   . exact .inl hs
   . exact .inr ⟨Nat.le_trans hE.size hs.1, hk⟩
 . exact ((TwS.ext hE).trans h2).andThen (TwS.but (S := fun k => k = q) hb rfl) fun i hi e => by omega
theorem IsMsg.cells11 {w : World} {m : Msg.M} {rt et sv dv : Value} (h : IsMsg w (.agg (zag m rt et sv dv)) m) : Ints w rt m.reco.tags /\ Ints w et m.ent.cut /\ Ints w sv m.conf.seqs /\ IRows w dv m.conf.shards := by
 obtain ⟨a, b, c, d, e, h1, h2, h3, h4⟩ := h
 injection e with e
 simp [zag] at e
 obtain ⟨rfl, rfl, rfl, rfl⟩ := e
 exact ⟨h1, h2, h3, h4⟩
set_option maxHeartbeats 40000000 in
theorem zez {w : World} {B x p : Nat} {S : Nat -> Prop} {va vp ev : Value} {es : List (Value × Ent.E)} {r : Rep.Rp} (h : IsRepS w B S x p va vp ev es r) (hsl : ∀ k, S k -> k < w.heap.size) (v : Value) (m : Msg.M) (hv : ∀ w', TwS S w w' -> IsMsg w' v m) :
 Calls Tryz.prog 47 #[.pointer (some ⟨x, 0, none⟩), v] w (zcl B S x w (r.take m)) := by
 have hbx := zhi
 have hbd0 := zgn
 obtain ⟨a0, n0, k0, a1, n1, k1, a2, n2, k2, a3, n3, k3, rfl, _⟩ := (hv w (TwS.ext (Ext.refl w))).opened
 have HN := Hi h
 have HV := Hi hv
 have HSL := Hi hsl
 obtain ⟨id, hid⟩ : ∃ i, r.id = i := ⟨_, rfl⟩
 obtain ⟨tr, htr⟩ : ∃ i, r.term = i := ⟨_, rfl⟩
 have hxh := h.at'.heap
 rw [hid, htr] at hxh
 have HX := Hi hxh
 have HID := Hi (And.intro hid htr)
 obtain ⟨wa, hwa⟩ : ∃ z, w.alloc (.cells #[.pointer (some ⟨x, 0, none⟩)] 69) = z := ⟨_, rfl⟩
 obtain ⟨q, hq⟩ : ∃ z, w.heap.size = z := ⟨_, rfl⟩
 have hEa : Ext w wa := by rw [<- hwa]; exact Ext.alloc _ _
 have hza : wa.heap.size = q + 1 := by rw [<- hwa, World.size_alloc, hq]
 have hb0 : wa.heap[q]? = some (.cells #[.pointer (some ⟨x, 0, none⟩)] 69 (0, 0)) := by rw [<- hwa, <- hq]; exact heap_alloc_new _ _
 have HWA := Hi (And.intro hwa hq)
 have HEA := Hi (And.intro hEa (And.intro hza hb0))
 clear h hv hsl hid htr hxh hwa hq hEa hza hb0
 go_enter Tryz.func47, Tryz.ntmps47
 go_upto_region 1 with (refine zgk (by rfl) rfl ?_; intro W1 q2 hat1 hE1 hq2)
 have e1 := hE1.out
 have s2 := hq2.out
 rw [HWA.out.1] at e1 s2
 rw [World.size_alloc, HEA.out.2.1] at s2
 have hEw : Ext wa (wa.alloc (.cells (zag m (.slice a0 n0 k0) (.slice a1 n1 k1) (.slice a2 n2 k2) (.slice a3 n3 k3)) 89)) := Ext.alloc _ _
 have hm1 : MsgAt 89 W1 (q + 1) m (.slice a0 n0 k0) (.slice a1 n1 k1) (.slice a2 n2 k2) (.slice a3 n3 k3) := by
  rw [<- HEA.out.2.1]
  exact (MsgAt.new 89 wa m (.slice a0 n0 k0) (.slice a1 n1 k1) (.slice a2 n2 k2) (.slice a3 n3 k3)).ext e1
 subst s2
 have hE01 := (HEA.out.1.trans hEw).trans e1
 have HE1 := Hi hE01
 have HM1 := Hi hm1
 have HB1 := Hi (zad HEA.out.2.2 (hEw.trans e1))
 have HX1 := Hi (zad HX.out hE01)
 have HN1 := Hi (HN.out.ext hE01)
 have HAT := Hi hat1.out
 obtain ⟨ds, hds⟩ : ∃ z, m.dst = z := ⟨_, rfl⟩
 obtain ⟨tm, htm⟩ : ∃ z, m.term = z := ⟨_, rfl⟩
 have hcc := fun w' (h : Ext W1 w') => (HM1.out.ext h).head
 rw [hds, htm] at hcc
 have HC := Hi hcc
 have HDT := Hi (And.intro hds htm)
 rw [HWA.out.2]
 clear e1 hEw hm1 hE01 hE1 hq2 hat1 hcc hds htm hbx
 by_cases hd : ds = id
 case neg =>
  have hb1 : (ds == id) = false := by simpa using hd
  have hb2 : (ds != id) = true := by simpa using hd
  obtain ⟨c0, c1, c2, c3, c4, c5, c6⟩ := HC.out W1.drew (Ext.drew _)
  have b0 : W1.drew.cell? ⟨q, 0, none⟩ = some (.pointer (some ⟨x, 0, none⟩)) := zaa (zad HB1.out (Ext.drew _)) 0
  have x0 : W1.drew.cell? ⟨x, 0, none⟩ = some (.int .i64 id) := zaa (zad HX1.out (Ext.drew _)) 0
  have HT := Hi (Rep.take_bad (r := r) (m := m) (.inl (by rw [HDT.out.1, HID.out.1]; exact hd)))
  go_region
  clear c0 c1 c2 c3 c4 c5 c6 b0 x0
  have hat2 := Hi (HAT.out.ext (Ext.drew W1))
  go_wp2_with (refine putM (m2 := Msg.none0) (r2 := .slice none 0 0) (e2 := .slice none 0 0) (s2 := .slice none 0 0) (d2 := .slice none 0 0) (by rfl) _ _ rfl rfl rfl hat2.out zap zap zap zap ?_; intro W9 hat9 hB9)
  have hld := run_loadVar_mid (P := Tryz.prog) W9 (q + 1 + 1) 0 89 _ _ (MsgAt.range hat9.out) Tryz.underlying89 rfl (by kernel_rfl)
  refine bodyPost_ret (v := .tuple #[.agg (zag Msg.none0 (.slice none 0 0) (.slice none 0 0) (.slice none 0 0) (.slice none 0 0)), .int .i64 1]) (by simp [results, Tryz.results47, hld, asAddr, Act.put]) rfl ?_
  rw [HT.out]
  exact ⟨rfl, LeavesRep.refl HN.out (Ext.newQ11 (HE1.out.trans (Ext.drew _)) (by have := HWA.out.2; omega) hB9.out)⟩
 subst hd
 by_cases ht : tm = tr
 case neg =>
  have hb1 : (tm == tr) = false := by simpa using ht
  have hb2 : (tm != tr) = true := by simpa using ht
  obtain ⟨c0, c1, c2, c3, c4, c5, c6⟩ := HC.out W1.drew (Ext.drew _)
  have b0 : W1.drew.cell? ⟨q, 0, none⟩ = some (.pointer (some ⟨x, 0, none⟩)) := zaa (zad HB1.out (Ext.drew _)) 0
  have x0 : W1.drew.cell? ⟨x, 0, none⟩ = some (.int .i64 ds) := zaa (zad HX1.out (Ext.drew _)) 0
  have x1 : W1.drew.cell? ⟨x, 1, none⟩ = some (.int .i64 tr) := zaa (zad HX1.out (Ext.drew _)) 1
  have HT := Hi (Rep.take_bad (r := r) (m := m) (.inr (.inl (by rw [HDT.out.2, HID.out.2]; exact ht))))
  go_region
  clear c0 c1 c2 c3 c4 c5 c6 b0 x0 x1
  have hat2 := Hi (HAT.out.ext (Ext.drew W1))
  go_wp2_with (refine putM (m2 := Msg.none0) (r2 := .slice none 0 0) (e2 := .slice none 0 0) (s2 := .slice none 0 0) (d2 := .slice none 0 0) (by rfl) _ _ rfl rfl rfl hat2.out zap zap zap zap ?_; intro W9 hat9 hB9)
  have hld := run_loadVar_mid (P := Tryz.prog) W9 (q + 1 + 1) 0 89 _ _ (MsgAt.range hat9.out) Tryz.underlying89 rfl (by kernel_rfl)
  refine bodyPost_ret (v := .tuple #[.agg (zag Msg.none0 (.slice none 0 0) (.slice none 0 0) (.slice none 0 0) (.slice none 0 0)), .int .i64 1]) (by simp [results, Tryz.results47, hld, asAddr, Act.put]) rfl ?_
  rw [HT.out]
  exact ⟨rfl, LeavesRep.refl HN.out (Ext.newQ11 (HE1.out.trans (Ext.drew _)) (by have := HWA.out.2; omega) hB9.out)⟩
 subst ht
 have hrc := fun wy (h : Ext W1 wy) => zgy (.agg (zag m (.slice a0 n0 k0) (.slice a1 n1 k1) (.slice a2 n2 k2) (.slice a3 n3 k3))) m wy (HV.out wy (TwS.ext (HE1.out.trans h)))
 obtain ⟨rb, hrb⟩ : ∃ z, Msg.right m = z := ⟨_, rfl⟩
 rw [hrb] at hrc
 have HRC := Hi hrc
 have HRB := Hi hrb
 clear hrc hrb
 have h7 := fun wy (h : Ext W1 wy) => (by
  have h1 := (HV.out wy (TwS.ext (HE1.out.trans h))).cells11
  exact (⟨HM1.out.ext h, h1.1, h1.2.1, h1.2.2.1, h1.2.2.2⟩ : Msg7 89 wy (q + 1) m (.slice a0 n0 k0) (.slice a1 n1 k1) (.slice a2 n2 k2) (.slice a3 n3 k3)))
 have H7 := Hi h7
 clear h7
 refine zat (by kernel_rfl) Ext (fun iop v w => match iop with
  | 0 => v = .pointer (some ⟨q + 1, 2, none⟩)
  | 1 => v = .int .i64 ds
  | 2 => v = .pointer (some ⟨x, 0, none⟩)
  | 3 => v = .pointer (some ⟨x, 0, none⟩)
  | 4 => v = .pointer (some ⟨x, 0, none⟩)
  | 5 => v = .int .i64 ds
  | 6 => v = .bool false
  | 7 => v = .bool false
  | 8 => v = .pointer (some ⟨q + 1, 3, none⟩)
  | 9 => v = .int .i64 tm
  | 10 => v = .pointer (some ⟨x, 0, none⟩)
  | 11 => v = .pointer (some ⟨x, 0, none⟩)
  | 12 => v = .pointer (some ⟨x, 1, none⟩)
  | 13 => v = .int .i64 tm
  | 14 => v = .bool false
  | 15 => v = .bool false
  | 16 => v = .bool false
  | 17 => v = .agg (zag m (.slice a0 n0 k0) (.slice a1 n1 k1) (.slice a2 n2 k2) (.slice a3 n3 k3))
  | 18 => v = .bool rb
  | 19 => v = .bool (!rb)
  | _ => v = .bool (!rb)
  ) (by kernel_rfl) (fun _ _ _ h k => Ext.trans h k) (fun a => Ext.refl a) (Ext.drew _) ?_ ?_ ?_
 . intro iop v wa wb hF hL
   iterate 20 (rcases iop with _ | iop; exact hF)
   exact hF
 . refine Obls.cons ?_ (Obls.cons ?_ (Obls.cons ?_ (Obls.cons ?_ (Obls.cons ?_ (Obls.cons ?_ (Obls.cons ?_ (Obls.cons ?_ (Obls.cons ?_ (Obls.cons ?_ (Obls.cons ?_ (Obls.cons ?_ (Obls.cons ?_ (Obls.cons ?_ (Obls.cons ?_ (Obls.cons ?_ (Obls.cons ?_ (Obls.cons ?_ (Obls.cons ?_ (Obls.cons ?_ (Obls.cons ?_ (Obls.nil)))))))))))))))))))))
   . intro ev wy hp hl hk hd
     have e3 : ev _ = .pointer (some ⟨q + 1, 0, none⟩) := hk 3 (by decide)
     exact Yield.oq (by simp [execOp, go_sem, e3])
   . intro ev wy hp hl hk hd
     have e7 : ev _ = _ := hk 7 (by decide)
     exact Yield.load rfl e7 (by simp [go_sem, (HC.out wy hl).2.2.1]) ⟨Ext.refl _, rfl⟩
   . intro ev wy hp hl hk hd
     have e2 : ev _ = .pointer (some ⟨q, 0, none⟩) := hk 2 (by decide)
     exact Yield.load rfl e2 (by simp [go_sem, zaa (zad HB1.out hl) 0]) ⟨Ext.refl _, rfl⟩
   . intro ev wy hp hl hk hd
     have e9 : ev _ = _ := hk 9 (by decide)
     exact Yield.oq (by simp [execOp, go_sem, e9])
   . intro ev wy hp hl hk hd
     have e10 : ev _ = _ := hk 10 (by decide)
     exact Yield.oq (by simp [execOp, go_sem, e10])
   . intro ev wy hp hl hk hd
     have e11 : ev _ = _ := hk 11 (by decide)
     exact Yield.load rfl e11 (by simp [go_sem, zaa (zad HX1.out hl) 0]) ⟨Ext.refl _, rfl⟩
   . intro ev wy hp hl hk hd
     have e8 : ev _ = _ := hk 8 (by decide)
     have e12 : ev _ = _ := hk 12 (by decide)
     exact Yield.oq (by simp [execOp, go_sem, e8, e12])
   . intro ev wy hp hl hk hd
     have e13 : ev _ = _ := hk 13 (by decide)
     exact Yield.mv rfl ⟨Ext.refl _, e13⟩
   . intro ev wy hp hl hk hd
     have e3 : ev _ = .pointer (some ⟨q + 1, 0, none⟩) := hk 3 (by decide)
     refine ⟨fun _ _ _ => ?_, fun _ hx hne => absurd hx hne⟩
     exact Yield.op (v := .pointer (some ⟨q + 1, 3, none⟩)) (w' := wy) (by simp [execOp, go_sem, e3]) ⟨Ext.refl _, rfl⟩
   . intro ev wy hp hl hk hd
     have e15 : ev _ = _ := hk 15 (by decide)
     refine ⟨fun _ _ _ => ?_, fun _ hx hne => absurd hx hne⟩
     exact Yield.load rfl e15 (by simp [go_sem, (HC.out wy hl).2.2.2.1]) ⟨Ext.refl _, rfl⟩
   . intro ev wy hp hl hk hd
     have e2 : ev _ = .pointer (some ⟨q, 0, none⟩) := hk 2 (by decide)
     refine ⟨fun _ _ _ => ?_, fun _ hx hne => absurd hx hne⟩
     exact Yield.load rfl e2 (by simp [go_sem, zaa (zad HB1.out hl) 0]) ⟨Ext.refl _, rfl⟩
   . intro ev wy hp hl hk hd
     have e17 : ev _ = _ := hk 17 (by decide)
     refine ⟨fun _ _ _ => ?_, fun _ hx hne => absurd hx hne⟩
     exact Yield.op (v := .pointer (some ⟨x, 0, none⟩)) (w' := wy) (by simp [execOp, go_sem, e17]) ⟨Ext.refl _, rfl⟩
   . intro ev wy hp hl hk hd
     have e18 : ev _ = _ := hk 18 (by decide)
     refine ⟨fun _ _ _ => ?_, fun _ hx hne => absurd hx hne⟩
     exact Yield.op (v := .pointer (some ⟨x, 1, none⟩)) (w' := wy) (by simp [execOp, go_sem, e18]) ⟨Ext.refl _, rfl⟩
   . intro ev wy hp hl hk hd
     have e19 : ev _ = _ := hk 19 (by decide)
     refine ⟨fun _ _ _ => ?_, fun _ hx hne => absurd hx hne⟩
     exact Yield.load rfl e19 (by simp [go_sem, zaa (zad HX1.out hl) 1]) ⟨Ext.refl _, rfl⟩
   . intro ev wy hp hl hk hd
     have e16 : ev _ = _ := hk 16 (by decide)
     have e20 : ev _ = _ := hk 20 (by decide)
     refine ⟨fun _ _ _ => ?_, fun _ hx hne => absurd hx hne⟩
     exact Yield.op (v := .bool false) (w' := wy) (by simp [execOp, go_sem, e16, e20]) ⟨Ext.refl _, rfl⟩
   . intro ev wy hp hl hk hd
     have e14 : ev _ = _ := hk 14 (by decide)
     have e21 : ev _ = _ := hk 21 (by decide)
     exact Yield.pick (t := false) rfl e14 ⟨Ext.refl _, e21⟩
   . intro ev wy hp hl hk hd
     have e22 : ev _ = _ := hk 22 (by decide)
     exact Yield.mv rfl ⟨Ext.refl _, e22⟩
   . intro ev wy hp hl hk hd
     have e3 : ev _ = .pointer (some ⟨q + 1, 0, none⟩) := hk 3 (by decide)
     refine ⟨fun _ _ _ => ?_, fun _ hx hne => absurd hx hne⟩
     exact Yield.load rfl e3 ((H7.out wy hl).ld) ⟨Ext.refl _, rfl⟩
   . intro ev wy hp hl hk hd
     have e24 : ev _ = _ := hk 24 (by decide)
     refine ⟨fun _ _ _ => ?_, fun _ hx hne => absurd hx hne⟩
     refine Yield.call rfl hp Tryz.func61 rfl (by kernel_rfl) ?_
     simp only [List.map_toArray, List.map_cons, List.map_nil, e24]
     exact ((HRC.out wy hl)).mono fun _ _ ⟨he, hb⟩ => ⟨_, he, hb, by first | rfl | simp⟩
   . intro ev wy hp hl hk hd
     have e25 : ev _ = _ := hk 25 (by decide)
     refine ⟨fun _ _ _ => ?_, fun _ hx hne => absurd hx hne⟩
     exact Yield.op (v := .bool (!rb)) (w' := wy) (by simp [execOp, go_sem, e25]) ⟨Ext.refl _, rfl⟩
   . intro ev wy hp hl hk hd
     have e23 : ev _ = _ := hk 23 (by decide)
     have e26 : ev _ = _ := hk 26 (by decide)
     exact Yield.pick (t := false) rfl e23 ⟨Ext.refl _, e26⟩
 . intro vals wz hz hv
   have g7 : vals 0 = _ := hv 0 (by decide)
   have g8 : vals 1 = _ := hv 1 (by decide)
   have g9 : vals 2 = _ := hv 2 (by decide)
   have g10 : vals 3 = _ := hv 3 (by decide)
   have g11 : vals 4 = _ := hv 4 (by decide)
   have g12 : vals 5 = _ := hv 5 (by decide)
   have g13 : vals 6 = _ := hv 6 (by decide)
   have g14 : vals 7 = _ := hv 7 (by decide)
   have g15 : vals 8 = _ := hv 8 (by decide)
   have g16 : vals 9 = _ := hv 9 (by decide)
   have g17 : vals 10 = _ := hv 10 (by decide)
   have g18 : vals 11 = _ := hv 11 (by decide)
   have g19 : vals 12 = _ := hv 12 (by decide)
   have g20 : vals 13 = _ := hv 13 (by decide)
   have g21 : vals 14 = _ := hv 14 (by decide)
   have g22 : vals 15 = _ := hv 15 (by decide)
   have g23 : vals 16 = _ := hv 16 (by decide)
   have g24 : vals 17 = _ := hv 17 (by decide)
   have g25 : vals 18 = _ := hv 18 (by decide)
   have g26 : vals 19 = _ := hv 19 (by decide)
   have g27 : vals 20 = _ := hv 20 (by decide)
   clear hv
   simp only [zar, Act.put, List.setIfInBounds_toArray, List.set_cons_zero, List.set_cons_succ, g7, g8, g9, g10, g11, g12, g13, g14, g15, g16, g17, g18, g19, g20, g21, g22, g23, g24, g25, g26, g27]
   clear g7 g8 g9 g10 g11 g12 g13 g14 g15 g16 g17 g18 g19 g20 g21 g22 g23 g24 g25 g26 g27
   have HE2 := Hi (HE1.out.trans hz)
   have HM2 := Hi (HM1.out.ext hz)
   have HB2 := Hi (zad HB1.out hz)
   have HN2 := Hi (HN1.out.ext hz)
   have HAT2 := Hi (HAT.out.ext hz)
   have H72 := Hi (H7.out wz hz)
   clear hz
   cases rb with
   | false =>
    have HT := Hi (Rep.take_bad (r := r) (m := m) (.inr (.inr HRB.out)))
    have hat9a := HAT2
    go_wp2_with (refine putM (m2 := Msg.none0) (r2 := .slice none 0 0) (e2 := .slice none 0 0) (s2 := .slice none 0 0) (d2 := .slice none 0 0) (by rfl) _ _ rfl rfl rfl hat9a.out zap zap zap zap ?_; intro W9 hat9 hB9)
    have hld := run_loadVar_mid (P := Tryz.prog) W9 (q + 1 + 1) 0 89 _ _ (MsgAt.range hat9.out) Tryz.underlying89 rfl (by kernel_rfl)
    refine bodyPost_ret (v := .tuple #[.agg (zag Msg.none0 (.slice none 0 0) (.slice none 0 0) (.slice none 0 0) (.slice none 0 0)), .int .i64 1]) (by simp [results, Tryz.results47, hld, asAddr, Act.put]) rfl ?_
    rw [HT.out]
    exact ⟨rfl, LeavesRep.refl HN.out (Ext.newQ11 HE2.out (by have := HWA.out.2; omega) hB9.out)⟩
   | true =>
    have HRT := Hi (show ¬(m.dst ≠ r.id \/ m.term ≠ r.term \/ Msg.right m = false) by rw [HDT.out.1, HDT.out.2, HID.out.1, HID.out.2, HRB.out]; simp)
    obtain ⟨kd, hkd⟩ : ∃ z, m.kind = z := ⟨_, rfl⟩
    have c0 : wz.cell? ⟨q + 1, 0, none⟩ = some (.int .i64 kd) := by rw [<- hkd]; exact HM2.out.head.1
    have b0 : wz.cell? ⟨q, 0, none⟩ = some (.pointer (some ⟨x, 0, none⟩)) := zaa HB2.out 0
    have HKD := Hi hkd
    clear hkd
    by_cases hk3 : kd = 3
    . subst hk3
      have hle := H72.out.ldEnt 84 (.inl rfl)
      have hord := zks HN2.out (.slice a1 n1 k1) m.ent (Msg.right_ent HRB.out HKD.out) (fun w' ht => (HV.out w' ((TwS.ext HE2.out).trans ht)).cells11.2.1)
      unfold entV at hord
      have HORD := Hi hord
      obtain ⟨eo, heo⟩ : ∃ z : Value, .agg #[.int .i64 m.ent.number, .int .i64 m.ent.kind, .slice a1 n1 k1, .int .i64 m.ent.tag, .int .i64 m.ent.term, .int .i64 m.ent.pos] = z := ⟨_, rfl⟩
      rw [heo] at hle HORD
      clear hord heo
      go_wp2_with (refine ldAny (by rfl) _ rfl rfl hle ?_)
      refine HORD.out.mono ?_
      unfold zdt
      rintro e' w3 ⟨rfl, hLV⟩
      obtain ⟨⟨p3, va3, vp3, ev3, es3, hr3⟩, hT3⟩ := hLV
      have hns : ∀ j, False \/ (q <= j /\ j < wz.heap.size) -> ¬ S j := fun j hj hs => by
       have h1 := HSL.out j hs
       have h2 := HWA.out.2
       have h3 := HE2.out.size
       rcases hj with h | h <;> omega
      have hb3 : w3.heap[q]? = some (.cells #[.pointer (some ⟨x, 0, none⟩)] 69 (0, 0)) := (hT3.block q (Array.getElem?_eq_some_iff.1 HB2.out).1 (hns q (.inr ⟨Nat.le_refl _, (Array.getElem?_eq_some_iff.1 HB2.out).1⟩))).trans HB2.out
      have hm3 : MsgAt 89 w3 (q + 1) m (.slice a0 n0 k0) (.slice a1 n1 k1) (.slice a2 n2 k2) (.slice a3 n3 k3) := (hT3.block (q + 1) HM2.out.lt (hns _ (.inr ⟨by omega, HM2.out.lt⟩))).trans HM2.out
      have ha3 : MsgAt 89 w3 (q + 1 + 1) Msg.none0 (.slice none 0 0) (.slice none 0 0) (.slice none 0 0) (.slice none 0 0) := (hT3.block (q + 1 + 1) HAT2.out.lt (hns _ (.inr ⟨by omega, HAT2.out.lt⟩))).trans HAT2.out
      have hnl : ∀ j, q <= j -> j < wz.heap.size -> ¬ Later S wz w3 j := fun j h1 h2 h => h.elim (hns j (.inr ⟨h1, h2⟩)) (fun e => by omega)
      have htl := zgm (S := Later S wz w3) (m := m) hr3 4 (r.orderErr m.ent) hb3 hm3 (hnl _ (by omega) HM2.out.lt) (hnl _ (Nat.le_refl _) (Array.getElem?_eq_some_iff.1 HB2.out).1) (fun j hj => hj.elim (fun h => by have h1 := HSL.out j h; have h2 := HE2.out.size; have h3 := hT3.size; omega) (fun e => e.2))
      have HTL := Hi htl
      have HT3 := Hi hT3
      have HA3 := Hi ha3
      have HLV := Hi (show LeavesRep B S x wz (r.order m.ent) w3 from ⟨⟨p3, va3, vp3, ev3, es3, hr3⟩, hT3⟩)
      have HNL := Hi hnl
      have HNS := Hi hns
      obtain ⟨er, her⟩ : ∃ z, (r.orderErr m.ent) = z := ⟨_, rfl⟩
      rw [her] at HTL
      have HER := Hi her
      rw [her]
      clear hr3 hT3 hb3 hm3 ha3 hnl hns htl her
      go_wp2_with fail
      refine HTL.out.mono ?_
      unfold zcl
      rintro e' w4 ⟨rfl, hl4⟩
      have hTK := Rep.take_order HRT.out HKD.out
      rw [HER.out] at hTK
      rw [<- hTK] at hl4 ⊢
      have HL4 := Hi (HLV.out.then hl4)
      have hat9a := Hi (show MsgAt 89 w4 (q + 1 + 1) Msg.none0 (.slice none 0 0) (.slice none 0 0) (.slice none 0 0) (.slice none 0 0) from (hl4.2.block (q + 1 + 1) HA3.out.lt (HNL.out _ (by omega) HAT2.out.lt)).trans HA3.out)
      obtain ⟨mr, hmr⟩ : ∃ z, (r.take m).2.1 = z := ⟨_, rfl⟩
      obtain ⟨ee, hee⟩ : ∃ z, (r.take m).2.2 = z := ⟨_, rfl⟩
      rw [hmr, hee]
      have HMR := Hi (And.intro hmr hee)
      clear hl4 hTK hmr hee
      go_wp2_with (refine putM (m2 := mr) (r2 := .slice none 0 0) (e2 := .slice none 0 0) (s2 := .slice none 0 0) (d2 := .slice none 0 0) (by rfl) _ _ rfl rfl rfl hat9a.out zap zap zap zap ?_; intro W9 hat9 hB9)
      have hld := run_loadVar_mid (P := Tryz.prog) W9 (q + 1 + 1) 0 89 _ _ (MsgAt.range hat9.out) Tryz.underlying89 rfl (by kernel_rfl)
      refine bodyPost_ret (v := .tuple #[.agg (zag mr (.slice none 0 0) (.slice none 0 0) (.slice none 0 0) (.slice none 0 0)), .int .i64 ee]) (by simp [results, Tryz.results47, hld, asAddr, Act.put]) rfl ?_
      refine ⟨by rw [HMR.out.1, HMR.out.2], ?_⟩
      exact LeavesRep.fill HE2.out HL4.out (by have := HWA.out.2; omega) HAT2.out.lt (HNS.out _ (.inr ⟨by omega, HAT2.out.lt⟩)) hB9.out
    by_cases hk5 : kd = 5
    . subst hk5
      have HSH := Hi (zly HN2.out)
      go_wp2_with fail
      refine HSH.out.mono ?_
      unfold zdt
      rintro e' w3 ⟨rfl, hLV⟩
      obtain ⟨⟨p3, va3, vp3, ev3, es3, hr3⟩, hT3⟩ := hLV
      have hns : ∀ j, False \/ (q <= j /\ j < wz.heap.size) -> ¬ S j := fun j hj hs => by
       have h1 := HSL.out j hs
       have h2 := HWA.out.2
       have h3 := HE2.out.size
       rcases hj with h | h <;> omega
      have hb3 : w3.heap[q]? = some (.cells #[.pointer (some ⟨x, 0, none⟩)] 69 (0, 0)) := (hT3.block q (Array.getElem?_eq_some_iff.1 HB2.out).1 (hns q (.inr ⟨Nat.le_refl _, (Array.getElem?_eq_some_iff.1 HB2.out).1⟩))).trans HB2.out
      have hm3 : MsgAt 89 w3 (q + 1) m (.slice a0 n0 k0) (.slice a1 n1 k1) (.slice a2 n2 k2) (.slice a3 n3 k3) := (hT3.block (q + 1) HM2.out.lt (hns _ (.inr ⟨by omega, HM2.out.lt⟩))).trans HM2.out
      have ha3 : MsgAt 89 w3 (q + 1 + 1) Msg.none0 (.slice none 0 0) (.slice none 0 0) (.slice none 0 0) (.slice none 0 0) := (hT3.block (q + 1 + 1) HAT2.out.lt (hns _ (.inr ⟨by omega, HAT2.out.lt⟩))).trans HAT2.out
      have hnl : ∀ j, q <= j -> j < wz.heap.size -> ¬ Later S wz w3 j := fun j h1 h2 h => h.elim (hns j (.inr ⟨h1, h2⟩)) (fun e => by omega)
      have htl := zgm (S := Later S wz w3) (m := m) hr3 6 r.shutErr hb3 hm3 (hnl _ (by omega) HM2.out.lt) (hnl _ (Nat.le_refl _) (Array.getElem?_eq_some_iff.1 HB2.out).1) (fun j hj => hj.elim (fun h => by have h1 := HSL.out j h; have h2 := HE2.out.size; have h3 := hT3.size; omega) (fun e => e.2))
      have HTL := Hi htl
      have HT3 := Hi hT3
      have HA3 := Hi ha3
      have HLV := Hi (show LeavesRep B S x wz r.shut w3 from ⟨⟨p3, va3, vp3, ev3, es3, hr3⟩, hT3⟩)
      have HNL := Hi hnl
      have HNS := Hi hns
      obtain ⟨er, her⟩ : ∃ z, r.shutErr = z := ⟨_, rfl⟩
      rw [her] at HTL
      have HER := Hi her
      rw [her]
      clear hr3 hT3 hb3 hm3 ha3 hnl hns htl her
      go_wp2_with fail
      refine HTL.out.mono ?_
      unfold zcl
      rintro e' w4 ⟨rfl, hl4⟩
      have hTK := Rep.take_shut HRT.out HKD.out
      rw [HER.out] at hTK
      rw [<- hTK] at hl4 ⊢
      have HL4 := Hi (HLV.out.then hl4)
      have hat9a := Hi (show MsgAt 89 w4 (q + 1 + 1) Msg.none0 (.slice none 0 0) (.slice none 0 0) (.slice none 0 0) (.slice none 0 0) from (hl4.2.block (q + 1 + 1) HA3.out.lt (HNL.out _ (by omega) HAT2.out.lt)).trans HA3.out)
      obtain ⟨mr, hmr⟩ : ∃ z, (r.take m).2.1 = z := ⟨_, rfl⟩
      obtain ⟨ee, hee⟩ : ∃ z, (r.take m).2.2 = z := ⟨_, rfl⟩
      rw [hmr, hee]
      have HMR := Hi (And.intro hmr hee)
      clear hl4 hTK hmr hee
      go_wp2_with (refine putM (m2 := mr) (r2 := .slice none 0 0) (e2 := .slice none 0 0) (s2 := .slice none 0 0) (d2 := .slice none 0 0) (by rfl) _ _ rfl rfl rfl hat9a.out zap zap zap zap ?_; intro W9 hat9 hB9)
      have hld := run_loadVar_mid (P := Tryz.prog) W9 (q + 1 + 1) 0 89 _ _ (MsgAt.range hat9.out) Tryz.underlying89 rfl (by kernel_rfl)
      refine bodyPost_ret (v := .tuple #[.agg (zag mr (.slice none 0 0) (.slice none 0 0) (.slice none 0 0) (.slice none 0 0)), .int .i64 ee]) (by simp [results, Tryz.results47, hld, asAddr, Act.put]) rfl ?_
      refine ⟨by rw [HMR.out.1, HMR.out.2], ?_⟩
      exact LeavesRep.fill HE2.out HL4.out (by have := HWA.out.2; omega) HAT2.out.lt (HNS.out _ (.inr ⟨by omega, HAT2.out.lt⟩)) hB9.out
    have HT := Hi (Rep.take_none HRT.out (by rw [HKD.out]; exact hk3) (by rw [HKD.out]; exact hk5))
    have hat9a := HAT2
    go_wp2_with (refine putM (m2 := Msg.none0) (r2 := .slice none 0 0) (e2 := .slice none 0 0) (s2 := .slice none 0 0) (d2 := .slice none 0 0) (by rfl) _ _ rfl rfl rfl hat9a.out zap zap zap zap ?_; intro W9 hat9 hB9)
    have hld := run_loadVar_mid (P := Tryz.prog) W9 (q + 1 + 1) 0 89 _ _ (MsgAt.range hat9.out) Tryz.underlying89 rfl (by kernel_rfl)
    refine bodyPost_ret (v := .tuple #[.agg (zag Msg.none0 (.slice none 0 0) (.slice none 0 0) (.slice none 0 0) (.slice none 0 0)), .int .i64 1]) (by simp [results, Tryz.results47, hld, asAddr, Act.put]) rfl ?_
    rw [HT.out]
    exact ⟨rfl, LeavesRep.refl HN.out (Ext.newQ11 HE2.out (by have := HWA.out.2; omega) hB9.out)⟩
theorem zko (u : Value) (e : Ent.E) : ∀ (ps : List (Value × Ent.E)) (k : Nat), k < ps.length -> ((((((zah ps).set (k * 6) (.int .i64 e.number)).set (k * 6 + 1) (.int .i64 e.kind)).set (k * 6 + 2) u).set (k * 6 + 3) (.int .i64 e.tag)).set (k * 6 + 4) (.int .i64 e.term)).set (k * 6 + 5) (.int .i64 e.pos) = zah (ps.set k (u, e)) := by
 intro ps
 induction ps with
 | nil => intro k hk; exact absurd hk (by simp)
 | cons p ps ih =>
  intro k hk
  cases k with
  | zero => rfl
  | succ k =>
   have h1 := ih k (by simpa using hk)
   show _ = (_ : List Value)
   have e0 : ∀ j, (k + 1) * 6 + j = (k * 6 + j) + 1 + 1 + 1 + 1 + 1 + 1 := fun j => by omega
   have e1 : (k + 1) * 6 = k * 6 + 1 + 1 + 1 + 1 + 1 + 1 := by omega
   rw [e0 1, e0 2, e0 3, e0 4, e0 5, e1]
   show _ = [Value.int .i64 p.2.number, .int .i64 p.2.kind, p.1, .int .i64 p.2.tag, .int .i64 p.2.term, .int .i64 p.2.pos] ++ zah (ps.set k (u, e))
   rw [<- h1]
   rfl
theorem zns {w : World} {base g n cap k : Nat} {ps : List (Value × Ent.E)} (h : w.ownsRow base 84 6 (.slice (some ⟨g, 0, none⟩) n cap) ps.length (zah ps)) (hk : k < ps.length) (u : Value) (e : Ent.E) :
 ∃ w', (((((w.setCell ⟨g, k * 6, none⟩ (.int .i64 e.number)).setCell ⟨g, k * 6 + 1, none⟩ (.int .i64 e.kind)).setCell ⟨g, k * 6 + 2, none⟩ u).setCell ⟨g, k * 6 + 3, none⟩ (.int .i64 e.tag)).setCell ⟨g, k * 6 + 4, none⟩ (.int .i64 e.term)).setCell ⟨g, k * 6 + 5, none⟩ (.int .i64 e.pos) = w' ∧
  w'.ownsRow base 84 6 (.slice (some ⟨g, 0, none⟩) n cap) ps.length (zah (ps.set k (u, e))) /\ But g w w' := by
 obtain rfl := zcv h
 refine ⟨_, rfl, ?_, ?_⟩
 . have h1 := (h.stored (k * 6) (.int .i64 e.number)).1
   have h2 := (h1.stored (k * 6 + 1) (.int .i64 e.kind)).1
   have h3 := (h2.stored (k * 6 + 2) u).1
   have h4 := (h3.stored (k * 6 + 3) (.int .i64 e.tag)).1
   have h5 := (h4.stored (k * 6 + 4) (.int .i64 e.term)).1
   have h6 := (h5.stored (k * 6 + 5) (.int .i64 e.pos)).1
   rw [zko u e ps k hk] at h6
   exact h6
 . exact (((((za2 w g _ _).trans (za2 _ g _ _)).trans (za2 _ g _ _)).trans (za2 _ g _ _)).trans (za2 _ g _ _)).trans (za2 _ g _ _)
structure Mine11 (w : World) (es ps : List (Value × Ent.E)) (k : Nat) (lv : Value) (wr : World) : Prop where
 ext : Ext w wr
 row : wr.ownsRow w.heap.size 84 6 lv ps.length (zah ps)
 ents : ps.map (·.2) = es.map (·.2)
 mine : ∀ i (h : i < ps.length), i < k -> RowN w.heap.size wr ps[i].1 ps[i].2.cut
 rest : ∀ i, k <= i -> ps[i]? = es[i]?
theorem Mine11.later {w wr w' : World} {es ps : List (Value × Ent.E)} {k : Nat} {lv : Value} (h : Mine11 w es ps k lv wr) (hE : Ext wr w') : Mine11 w es ps k lv w' := ⟨h.ext.trans hE, za0 h.row hE, h.ents, fun i hi hk => (h.mine i hi hk).ext hE, h.rest⟩
theorem Mine11.len {w wr : World} {es ps : List (Value × Ent.E)} {k : Nat} {lv : Value} (h : Mine11 w es ps k lv wr) : ps.length = es.length := by
 have := congrArg List.length h.ents
 simpa using this
theorem Mine11.next {w wr w' : World} {es ps : List (Value × Ent.E)} {k g n c : Nat} (h : Mine11 w es ps k (.slice (some ⟨g, 0, none⟩) n c) wr) (hk : k < ps.length) (u : Value) (e : Ent.E) (he : ps[k].2 = e) (hu : RowN w.heap.size wr u e.cut) (hrow : w'.ownsRow w.heap.size 84 6 (.slice (some ⟨g, 0, none⟩) n c) ps.length (zah (ps.set k (u, e)))) (hb : But g wr w') : Mine11 w es (ps.set k (u, e)) (k + 1) (.slice (some ⟨g, 0, none⟩) n c) w' := by
 have hg := h.row.lt g rfl
 obtain ⟨cur, hcur⟩ := ownAt h.row (show (Value.slice (some ⟨g, 0, none⟩) n c).ownBlock = some g from rfl)
 have hrn : ∀ {v : Value} {l : List Int}, RowN w.heap.size wr v l -> RowN w.heap.size w' v l := fun hv => by
  obtain ⟨b, m, hb', ho⟩ := hv
  exact ⟨b, m, hb', zbe ho (zaj ho hcur (by decide)) hb⟩
 refine ⟨Ext.newQ11 h.ext hg.1 hb, by simpa using hrow, ?_, fun i hi hik => ?_, fun i hi => ?_⟩
 . rw [<- h.ents, List.map_set]
   apply List.ext_getElem (by simp)
   intro j h1 h2
   rw [List.getElem_set]
   split
   . next e' => subst e'; simp [he]
   . rfl
 . have hi' : i < ps.length := by simpa using hi
   simp only [List.getElem_set]
   split
   . exact hrn hu
   . next hne => exact hrn (h.mine i hi' (by omega))
 . rw [List.getElem?_set_ne (by omega)]
   exact h.rest i (by omega)
set_option maxHeartbeats 8000000 in
theorem zhr {w : World} {B x p : Nat} {vp ev : Value} {es : List (Value × Ent.E)} {id term : Int} {W : Rep.What} (h : RepAt w B x p vp ev es id term W) (hl : es.length <= 13107) (hc : ∀ q ∈ es, q.2.cut.length <= 1000000) :
 Calls Tryz.prog 26 #[.pointer (some ⟨x, 0, none⟩)] w fun e w' => ∃ u ps, e = .returned u /\ Ext w w' /\ w'.ownsRow w.heap.size 84 6 u ps.length (zah ps) /\ ps.map (·.2) = W.l /\ ∀ q ∈ ps, RowN w.heap.size w' q.1 q.2.cut := by
 have c3 : w.cell? ⟨x, 3, none⟩ = some ev := zaa h.heap 3
 obtain ⟨a, c, rfl, hnc, hcm, _⟩ := h.open
 have HCL := Hi (zgl _ es w (SlN.ofOwn h.row) h.one (by omega))
 have HIN := Hi h.ints
 have HC := Hi hc
 have HES := Hi h.ents
 obtain ⟨n, hn⟩ : ∃ n, es.length = n := ⟨_, rfl⟩
 rw [hn] at HCL c3 hl
 have HN := Hi hn
 clear h hc hn hnc hcm
 go_enter Tryz.func26, Tryz.ntmps26
 go_wp2_with fail
 refine HCL.out.mono ?_
 rintro e w2 ⟨u, rfl, hrow, hE2⟩
 obtain ⟨ua, un, uc, rfl⟩ := zao hrow
 obtain rfl := zcv hrow
 have HI0 := Hi (show Mine11 w es es 0 (.slice ua un uc) w2 from ⟨hE2, by rw [HN.out]; exact hrow, rfl, fun i hi hk => absurd hk (by omega), fun i _ => rfl⟩)
 clear hrow hE2 c3 HCL
 go_wp2_with fail
 go_loopw [13] (fun i wr => ∃ (k : Nat) (ps : List (Value × Ent.E)), k <= un /\ i = .int .i64 k /\ Hid (Mine11 w es ps k (.slice ua un uc) wr)) (fun i _ => un - (intOf i).toNat)
 case atStart => exact ⟨0, es, by omega, rfl, HI0⟩
 case round =>
  obtain ⟨k, ps, hk, rfl, hI⟩ := hrel
  by_cases hlt : k < un
  . have hkp : k < ps.length := by rw [hI.out.len, HN.out]; exact hlt
    have hke : k < es.length := by rw [HN.out]; exact hlt
    have hpk : ps[k] = es[k] := by
     have := hI.out.rest k (Nat.le_refl _)
     rw [List.getElem?_eq_getElem hkp, List.getElem?_eq_getElem hke] at this
     injection this
    obtain ⟨te, hte⟩ : ∃ z, ps[k].1 = z := ⟨_, rfl⟩
    obtain ⟨E, hE⟩ : ∃ z, ps[k].2 = z := ⟨_, rfl⟩
    have hmem : es[k] ∈ es := List.getElem_mem hke
    have hti : ∀ w', Ext w w' -> Ints w' te E.cut := fun w' hE' => by
     have := HIN.out _ hmem
     rw [<- hpk, hte, hE] at this
     exact this.below hE'
    have hcl : E.cut.length <= 1000000 := by
     have := HC.out _ hmem
     rw [<- hpk, hE] at this
     exact this
    obtain ⟨ta, tn, tc, rfl⟩ := zan (hti wr hI.out.ext)
    have hlen : ps.length = un := by rw [hI.out.len]; exact HN.out
    have hrow := hI.out.row
    rw [hlen] at hrow
    have hg : ∃ g, ua = some ⟨g, 0, none⟩ /\ un <= uc /\ uc <= maxLen := by
     rcases hrow.2 with ⟨e, e2⟩ | ⟨g, cap, cur, e, _, _, h1, h2, _⟩
     . omega
     . injection e with e3 e4 e5
       exact ⟨g, e3, by omega, by omega⟩
    obtain ⟨g, rfl, huc, hum⟩ := hg
    unfold maxLen at hum
    have hat : ∀ j, j < 6 -> wr.cell? ⟨g, k * 6 + j, none⟩ = [Value.int .i64 E.number, .int .i64 E.kind, .slice ta tn tc, .int .i64 E.tag, .int .i64 E.term, .int .i64 E.pos][j]? := fun j hj => by
     have h1 := hrow.cellAt (k * 6 + j) (by omega)
     rw [h1, zcf ps k j hkp hj, hte, hE]
    obtain ⟨e0, e1, e2, e3, e4, e5⟩ := E
    have p0 : wr.cell? ⟨g, k * 6, none⟩ = some (.int .i64 e0) := hat 0 (by omega)
    have p1 : wr.cell? ⟨g, k * 6 + 1, none⟩ = some (.int .i64 e1) := hat 1 (by omega)
    have p2 : wr.cell? ⟨g, k * 6 + 2, none⟩ = some (.slice ta tn tc) := hat 2 (by omega)
    have p3 : wr.cell? ⟨g, k * 6 + 3, none⟩ = some (.int .i64 e3) := hat 3 (by omega)
    have p4 : wr.cell? ⟨g, k * 6 + 4, none⟩ = some (.int .i64 e4) := hat 4 (by omega)
    have p5 : wr.cell? ⟨g, k * 6 + 5, none⟩ = some (.int .i64 e5) := hat 5 (by omega)
    have hEa : Ext wr (wr.alloc (.cells #[.int .i64 e0, .int .i64 e1, .slice ta tn tc, .int .i64 e3, .int .i64 e4, .int .i64 e5] 84)) := Ext.alloc _ _
    have HOWN := Hi (zjc (.slice ta tn tc) ⟨e0, e1, e2, e3, e4, e5⟩ (wr.alloc (.cells #[.int .i64 e0, .int .i64 e1, .slice ta tn tc, .int .i64 e3, .int .i64 e4, .int .i64 e5] 84)) (hti _ (hI.out.ext.trans hEa)) hcl)
    have HI1 := Hi (hI.out.later hEa)
    have HE := Hi hE
    have HLEN := Hi (And.intro hkp (show ps.length = un by rw [hI.out.len]; exact HN.out))
    clear hat hrow hti hcl hte hE hpk hmem hke hEa hlen
    go_wp2_with fail
    refine HOWN.out.mono ?_
    unfold entV
    rintro e' w4 ⟨u, rfl, hu, hE4⟩
    obtain ⟨xa, xn, xc, rfl⟩ := zao hu.choose_spec.choose_spec.2
    have hI4 := HI1.out.later hE4
    have hrow4' := hI4.row
    have hrow4 := hI4.row
    rw [HLEN.out.2] at hrow4
    obtain ⟨w5, hw5, hr5, hb5⟩ := zns hrow4' HLEN.out.1 (.slice xa xn xc) ⟨e0, e1, e2, e3, e4, e5⟩
    have HW5 := Hi hw5
    have HI5 := Hi (hI4.next HLEN.out.1 (.slice xa xn xc) ⟨e0, e1, e2, e3, e4, e5⟩ HE.out (hu.lower HI1.out.ext.size) hr5 hb5)
    have ct : ∀ j, j < 6 -> ∃ v, w4.cell? ⟨g, k * 6 + j, none⟩ = some v := fun j hj => by
     have h1 := hrow4.cellAt (k * 6 + j) (by omega)
     rw [zcf ps k j HLEN.out.1 hj] at h1
     match j, hj with
     | 0, _ => exact ⟨_, h1⟩
     | 1, _ => exact ⟨_, h1⟩
     | 2, _ => exact ⟨_, h1⟩
     | 3, _ => exact ⟨_, h1⟩
     | 4, _ => exact ⟨_, h1⟩
     | 5, _ => exact ⟨_, h1⟩
    obtain ⟨v0, q0⟩ := ct 0 (by omega)
    obtain ⟨v1, q1⟩ := ct 1 (by omega)
    obtain ⟨v2, q2⟩ := ct 2 (by omega)
    obtain ⟨v3, q3⟩ := ct 3 (by omega)
    obtain ⟨v4, q4⟩ := ct 4 (by omega)
    obtain ⟨v5, q5⟩ := ct 5 (by omega)
    simp only [Nat.add_zero] at q0
    have z0 := hrow4.frozenAt (k * 6)
    have z1 := hrow4.frozenAt (k * 6 + 1)
    have z2 := hrow4.frozenAt (k * 6 + 2)
    have z3 := hrow4.frozenAt (k * 6 + 3)
    have z4 := hrow4.frozenAt (k * 6 + 4)
    have z5 := hrow4.frozenAt (k * 6 + 5)
    clear hI4 hrow4 hrow4' hw5 hr5 hb5 hu hE4 ct p0 p1 p2 p3 p4 p5
    go_wp2_with fail
    rw [HW5.out]
    go_roundw
    case rel => exact ⟨k + 1, _, by omega, by go_num, HI5⟩
    case measure => simp [intOf]; omega
  . obtain rfl : k = un := by omega
    go_wp2_with fail
    go_ret
    refine ⟨_, ps, rfl, hI.out.ext, hI.out.row, by rw [hI.out.ents]; exact HES.out, fun q hq => ?_⟩
    obtain ⟨i, hi, rfl⟩ := List.getElem_of_mem hq
    exact hI.out.mine i hi (by have := hI.out.len; have := HN.out; omega)
end Go.Proofs.YtnoeconcpgdjlaaGreat
