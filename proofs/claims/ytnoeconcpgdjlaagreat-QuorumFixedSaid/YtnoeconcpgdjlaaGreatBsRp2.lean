import Derived.Test.YtnoeconcpgdjlaaGreatBsMath2
import Derived.Test.YtnoeconcpgdjlaaGreatBsMsg
import Derived.Test.YtnoeconcpgdjlaaGreatBsRp
import Derived.Test.YtnoeconcpgdjlaaGreatBsSg
namespace Go.Proofs.YtnoeconcpgdjlaaGreat
set_option linter.unusedSimpArgs false
set_option linter.unusedVariables false
set_option maxRecDepth 100000
open Go.RowKit
namespace Rep
structure Op where
 kind : Int
 n : Int
 m : Msg.M
 is : Bool
end Rep
structure Seat11 (W : World) (S : Nat -> Prop) (x : Nat) (r : Rep.Rp) (w : World) : Prop where
 rep : IsRep w W.heap.size S x r
 ext : Ext W w
 low : ∀ k, S k -> W.heap.size <= k /\ k < w.heap.size
section
variable {W w w' : World} {S : Nat -> Prop} {x : Nat} {r r' : Rep.Rp}
theorem Seat11.extend (h : Seat11 W S x r w) (hE : Ext w w') : Seat11 W S x r w' := ⟨h.rep.ext hE, h.ext.trans hE, fun k hk => ⟨(h.low k hk).1, Nat.lt_of_lt_of_le (h.low k hk).2 hE.size⟩⟩
theorem Seat11.but {q : Nat} (h : Seat11 W S x r w) (hb : But q w w') (hq : ¬ S q) (hW : W.heap.size <= q) : Seat11 W S x r w' := by
 obtain ⟨p, va, vp, ev, es, hr⟩ := h.rep
 exact ⟨⟨p, va, vp, ev, es, hr.keep fun k hk hs => hb.block k hk (fun e => hq (e ▸ hs))⟩, Ext.newQ11 h.ext hW hb, fun k hk => ⟨(h.low k hk).1, Nat.lt_of_lt_of_le (h.low k hk).2 hb.size⟩⟩
theorem Seat11.new {q : Nat} (h : Seat11 W S x r w) (hq : w.heap.size <= q) : ¬ S q /\ W.heap.size <= q := ⟨fun hs => by have := (h.low q hs).2; omega, Nat.le_trans h.ext.size hq⟩
def Steps11 (W : World) (S : Nat -> Prop) (w : World) (x' : Nat) (r' : Rep.Rp) (w' : World) : Prop := ∃ S', Seat11 W S' x' r' w' /\ TwS S w w' /\ ∀ k, k < w.heap.size -> S' k -> S k
theorem Seat11.step (h : Seat11 W S x r w) (hl : LeavesRep W.heap.size S x w r' w') : Steps11 W S w x r' w' := by
 obtain ⟨h1, h2⟩ := hl
 refine ⟨Later S w w', ⟨h1, ⟨h2.os.trans h.ext.os, h2.tape.trans h.ext.tape, h2.output.trans h.ext.output, Nat.le_trans h.ext.size h2.size, fun k hk => (h2.block k (Nat.lt_of_lt_of_le hk h.ext.size) (fun hs => by have := (h.low k hs).1; omega)).trans (h.ext.block k hk)⟩, fun k hk => ?_⟩, h2, fun k hk hs => hs.elim id (fun e => by omega)⟩
 rcases hk with hk | hk
 . exact ⟨(h.low k hk).1, Nat.lt_of_lt_of_le (h.low k hk).2 h2.size⟩
 . exact ⟨Nat.le_trans h.ext.size hk.1, hk.2⟩
theorem Steps11.refl (h : Seat11 W S x r w) (hE : Ext w w') : Steps11 W S w x r w' := ⟨S, h.extend hE, TwS.ext hE, fun _ _ h => h⟩
theorem Steps11.since {w1 : World} {x' : Nat} (h : Steps11 W S w1 x' r' w') (hE : Ext w w1) : Steps11 W S w x' r' w' := by
 obtain ⟨S', h1, h2, h3⟩ := h
 exact ⟨S', h1, (TwS.ext hE).trans h2, fun k hk => h3 k (Nat.lt_of_lt_of_le hk hE.size)⟩
theorem Steps11.fill {w1 w9 : World} {q x' : Nat} (h : Steps11 W S w1 x' r' w') (hE : Ext w w1) (hq : w.heap.size <= q) (hq1 : q < w1.heap.size) (hW : W.heap.size <= q) (hS : ¬ S q) (hb : But q w' w9) : Steps11 W S w x' r' w9 := by
 obtain ⟨S', h1, h2, h3⟩ := h
 exact ⟨S', h1.but hb (fun hs => hS (h3 q hq1 hs)) hW, ((TwS.ext hE).trans h2).andThen (TwS.but (S := fun k => k = q) hb rfl) fun i hi e => by omega, fun k hk => h3 k (Nat.lt_of_lt_of_le hk hE.size)⟩
end
def zqe (o : Rep.Op) (rt et sv dv : Value) : Array Value := #[.int .i64 o.kind, .int .i64 o.n, .int .i64 o.m.kind, .int .i64 o.m.src, .int .i64 o.m.dst, .int .i64 o.m.term, .int .i64 o.m.shard, .int .i64 o.m.number, .bool o.m.is, .int .i64 o.m.reco.client, .int .i64 o.m.reco.number, rt, .string ⟨o.m.reco.data.toArray⟩, .int .i64 o.m.ent.number, .int .i64 o.m.ent.kind, et, .int .i64 o.m.ent.tag, .int .i64 o.m.ent.term, .int .i64 o.m.ent.pos, .int .i64 o.m.ballot, .int .i64 o.m.old, .int .i64 o.m.conf.term, sv, dv, .bool o.is]
structure IsOp11 (w : World) (o : Rep.Op) (rt et sv dv : Value) : Prop where
 hrt : Ints w rt o.m.reco.tags
 het : Ints w et o.m.ent.cut
 hsv : Ints w sv o.m.conf.seqs
 hdv : IRows w dv o.m.conf.shards
theorem IsOp11.below {w w' : World} {o : Rep.Op} {rt et sv dv : Value} (h : IsOp11 w o rt et sv dv) (hb : Below w.heap.size w w') : IsOp11 w' o rt et sv dv := ⟨h.hrt.below hb, h.het.below hb, h.hsv.below hb, h.hdv.below hb⟩
theorem IsOp11.slices {w : World} {o : Rep.Op} {rt et sv dv : Value} (h : IsOp11 w o rt et sv dv) : (∃ a n c, rt = .slice a n c) /\ (∃ a n c, et = .slice a n c) /\ (∃ a n c, sv = .slice a n c) /\ (∃ a n c, dv = .slice a n c) := ⟨zan h.hrt, zan h.het, zan h.hsv, zbw h.hdv⟩
theorem Rep.take_plain (r : Rep.Rp) (m : Msg.M) (w : World) : IsMsg w (.agg (zag (r.take m).2.1 (.slice none 0 0) (.slice none 0 0) (.slice none 0 0) (.slice none 0 0))) (r.take m).2.1 := by
 have h0 : IsMsg w (.agg (zag Msg.none0 (.slice none 0 0) (.slice none 0 0) (.slice none 0 0) (.slice none 0 0))) Msg.none0 := ⟨_, _, _, _, rfl, ints0 w, ints0 w, ints0 w, zjl w⟩
 have h1 : ∀ q k, IsMsg w (.agg (zag (Rep.told q k m) (.slice none 0 0) (.slice none 0 0) (.slice none 0 0) (.slice none 0 0))) (Rep.told q k m) := fun q k => ⟨_, _, _, _, rfl, ints0 w, ints0 w, ints0 w, zjl w⟩
 have h2 : ∀ q k err, IsMsg w (.agg (zag (Rep.tell q k m err).2.1 (.slice none 0 0) (.slice none 0 0) (.slice none 0 0) (.slice none 0 0))) (Rep.tell q k m err).2.1 := fun q k err => by
  unfold Rep.tell
  split
  . exact h1 q k
  . exact h0
 unfold Rep.Rp.take
 split
 . exact h0
 . split
   . exact h2 _ _ _
   . split
     . exact h2 _ _ _
     . exact h0
theorem MsgAt.ldFree11 {w : World} {q : Nat} {m : Msg.M} (h : MsgAt 89 w q m (.slice none 0 0) (.slice none 0 0) (.slice none 0 0) (.slice none 0 0)) : (Instr.loadAt 89 (.pointer (some ⟨q, 0, none⟩))).run Tryz.prog w = .ok (.agg (zag m (.slice none 0 0) (.slice none 0 0) (.slice none 0 0) (.slice none 0 0))) w :=
 run_loadAt_mid w q 0 89 _ _ (MsgAt.range h) Tryz.underlying89 rfl (by kernel_rfl)
end Go.Proofs.YtnoeconcpgdjlaaGreat
namespace Go.Proofs.YtnoeconcpgdjlaaGreat
set_option linter.unusedSimpArgs false
set_option linter.unusedVariables false
set_option maxRecDepth 100000
open Go.ChangeShapes Go.WideShapes Go.ChangeAt Go.RowKit
def OpHere11 (w : World) (b off : Nat) (o : Rep.Op) : Prop := ∃ rt et sv dv, w.rangeAt b off (zqe o rt et sv dv).toList /\ IsOp11 w o rt et sv dv
theorem OpHere11.below {w w' : World} {b off : Nat} {o : Rep.Op} (h : OpHere11 w b off o) (hb : Below w.heap.size w w') : OpHere11 w' b off o := by
 obtain ⟨rt, et, sv, dv, h1, h2⟩ := h
 exact ⟨rt, et, sv, dv, fun j v hj => (hb.cell (p := ⟨b, off + j, none⟩) (World.block_lt_of_cell? w _ (h1 j v hj))).trans (h1 j v hj), h2.below hb⟩
def Ops11 (w : World) (v : Value) (l : List Rep.Op) : Prop :=
 ∃ (a : Option Addr) (cap : Nat), v = .slice a l.length cap /\ l.length <= cap /\ cap <= maxLen /\ (a = none -> cap = 0) /\ ∀ i (h : i < l.length), ∃ b off, a = some ⟨b, off, none⟩ /\ OpHere11 w b (off + i * 25) l[i]
theorem Ops11.below {w w' : World} {v : Value} {l : List Rep.Op} (h : Ops11 w v l) (hb : Below w.heap.size w w') : Ops11 w' v l := by
 obtain ⟨a, cap, rfl, h1, h2, h4, h3⟩ := h
 refine ⟨a, cap, rfl, h1, h2, h4, fun i hi => ?_⟩
 obtain ⟨b, off, e, hc⟩ := h3 i hi
 exact ⟨b, off, e, hc.below hb⟩
theorem Ops11.len {w : World} {a : Option Addr} {n c : Nat} {l : List Rep.Op} (h : Ops11 w (.slice a n c) l) : n = l.length /\ n <= c /\ c <= 9223372036854775807 := by
 obtain ⟨_, _, e, h1, h2, _⟩ := h
 injection e with e1 e2 e3
 subst e3
 unfold maxLen at h2
 omega
section
variable {H : Type} {enc : TypeId × Value -> H} {w : World} {base : Nat} {spare : Nat -> Bool} {held : Bool}
end
section
variable {ops : Array Oper} {rest : List Oper} {op : Oper} {a : Act} {w : World} {Q : Exit -> Act -> World -> Prop}
end
end Go.Proofs.YtnoeconcpgdjlaaGreat
namespace Go.Proofs.YtnoeconcpgdjlaaGreat
set_option linter.unusedSimpArgs false
set_option linter.unusedVariables false
set_option maxRecDepth 100000
open Go.RowKit
theorem zhq (w : World) (cs : List Value) (e : TypeId) (hm : cs.length <= maxLen) : (w.alloc (.cells cs.toArray e)).ownsRow w.heap.size e 1 (.slice (some ⟨w.heap.size, 0, none⟩) cs.length cs.length) cs.length cs :=
 ⟨by simp, .inr ⟨_, cs.length, cs.toArray, rfl, Nat.le_refl _, heap_alloc_new w _, Nat.le_refl _, hm, by simp, by simp⟩⟩
def al11 (w : World) : World := ((w.alloc (.cells #[.int .i64 0, .int .i64 1, .int .i64 2] 3)).alloc (.cells #[.int .i64 3] 3)).alloc (.cells #[.slice (some ⟨w.heap.size + 1, 0, none⟩) 1 1] 22)
def alC11 : Term.C := ⟨1, [0, 1, 2], [[3]]⟩
theorem zpf (w : World) : IsConf (al11 w) (confV 1 (.slice (some ⟨w.heap.size, 0, none⟩) 3 3) (.slice (some ⟨w.heap.size + 1 + 1, 0, none⟩) 1 1)) alC11 := by
 have h1 := zhq w [.int .i64 0, .int .i64 1, .int .i64 2] 3 (by simp [maxLen])
 have h2 := zhq (w.alloc (.cells #[.int .i64 0, .int .i64 1, .int .i64 2] 3)) [.int .i64 3] 3 (by simp [maxLen])
 have h3 := zhq ((w.alloc (.cells #[.int .i64 0, .int .i64 1, .int .i64 2] 3)).alloc (.cells #[.int .i64 3] 3)) [.slice (some ⟨w.heap.size + 1, 0, none⟩) 1 1] 22 (by simp [maxLen])
 simp only [World.size_alloc, List.length_cons, List.length_nil] at h1 h2 h3
 refine ⟨_, _, rfl, (show OwnI (al11 w) w.heap.size _ [0, 1, 2] from za0 h1 ((Ext.alloc _ _).trans (Ext.alloc _ _))).ints, (show OwnRR (al11 w) w.heap.size (.slice (some ⟨w.heap.size + 1 + 1, 0, none⟩) 1 1) [[3]] from ⟨[.slice (some ⟨w.heap.size + 1, 0, none⟩) 1 1], zaw h3 (by omega), rfl, fun i h h' => ?_⟩).rows⟩
 match i, h with
 | 0, _ => exact zaw (za0 h2 (Ext.alloc _ _)) (by omega)
theorem MsgAt.tws {T : TypeId} {w w' : World} {q : Nat} {S : Nat -> Prop} {m : Msg.M} {rt et sv dv : Value} (h : MsgAt T w q m rt et sv dv) (ht : TwS S w w') (hq : ¬ S q) : MsgAt T w' q m rt et sv dv := (ht.block q h.lt hq).trans h
theorem IsRepS.bounds {w : World} {B x p : Nat} {S : Nat -> Prop} {va vp ev : Value} {es : List (Value × Ent.E)} {r : Rep.Rp} (h : IsRepS w B S x p va vp ev es r) : es.length <= 13107 /\ ∀ q ∈ es, q.2.cut.length <= 1000000 := by
 refine ⟨?_, fun q hq => ?_⟩
 . have h1 := Rep.readF_len h.ok.is
   have h2 := Page.count_le r.s.l
   have h3 := h.ok.sto.max
   have h4 := h.lenR
   omega
 . have hm : q.2 ∈ r.w.l := by rw [<- h.at'.ents]; exact List.mem_map.2 ⟨q, hq, rfl⟩
   have hr := (Ent.right_ok (Ent.isChain_right _ _ rfl h.ok.chain _ hm)).2
   rcases hr with ⟨_, hv, _⟩ | ⟨_, hv, _⟩
   . have := (Vec.right_ok hv).2.2
     omega
   . rw [hv]; simp
theorem Seat11.since {W w w' : World} {S : Nat -> Prop} {x : Nat} {r : Rep.Rp} (h : Seat11 W S x r w) (ht : TwS S w w') : Below W.heap.size W w' :=
 Below.trans (B := W.heap.size) h.ext ⟨ht.os, ht.tape, ht.output, ht.size, fun k hk => ht.block k (Nat.lt_of_lt_of_le hk h.ext.size) (fun hs => by have := (h.low k hs).1; omega)⟩
def OwnE11 (B : Nat) (w : World) (u : Value) (l : List Ent.E) : Prop := ∃ ps, w.ownsRow B 46 6 u ps.length (zah ps) /\ (∀ q ∈ ps, RowN B w q.1 q.2.cut) /\ ps.map (·.2) = l
section
variable {B : Nat} {w w' : World} {u : Value} {l : List Ent.E}
theorem OwnE11.ents (h : OwnE11 B w u l) : Ents w u l := by
 obtain ⟨ps, h1, h2, h3⟩ := h
 rw [<- h3]
 exact zbb (fun q hq => (h2 q hq).row.ints) (SlN.ofOwn h1)
theorem OwnE11.blocks (h : OwnE11 B w u l) (hs : ∀ k, B <= k -> k < w.heap.size -> w'.heap[k]? = w.heap[k]?) : OwnE11 B w' u l := by
 obtain ⟨ps, h1, h2, h3⟩ := h
 exact ⟨ps, za1 h1 fun g hg => hs g (h1.lt g hg).1 (h1.lt g hg).2, fun q hq => (h2 q hq).blocks fun g hg => hs g ((h2 q hq).lt g hg).1 ((h2 q hq).lt g hg).2, h3⟩
theorem OwnE11.ext (h : OwnE11 B w u l) (hE : Ext w w') : OwnE11 B w' u l := h.blocks fun k _ hk => hE.block k hk
theorem OwnE11.tws {S : Nat -> Prop} (h : OwnE11 B w u l) (ht : TwS S w w') (hS : ∀ k, k < w.heap.size -> S k -> k < B) : OwnE11 B w' u l := h.blocks fun k hk hk2 => ht.block k hk2 fun hs => by have := hS k hk2 hs; omega
theorem OwnE11.open (h : OwnE11 B w u l) : ∃ a n c, u = .slice a n c /\ n = l.length := by
 obtain ⟨ps, h1, h2, h3⟩ := h
 obtain ⟨a, n, c, rfl⟩ := zao h1
 exact ⟨a, n, c, rfl, by rw [<- h3, List.length_map]; exact zcv h1⟩
end
def Own11 (w : World) (r : Rep.Rp) (e : Ending) (w' : World) : Prop := ∃ u ps, e = .returned u /\ Ext w w' /\ w'.ownsRow w.heap.size 84 6 u ps.length (zah ps) /\ (∀ q ∈ ps, RowN w.heap.size w' q.1 q.2.cut) /\ ps.map (·.2) = r.w.l /\ ps.length <= 13107
theorem zmt {w : World} {B x : Nat} {S : Nat -> Prop} {r : Rep.Rp} (h : IsRep w B S x r) :
 Calls Tryz.prog 26 #[.pointer (some ⟨x, 0, none⟩)] w (Own11 w r) := by
 obtain ⟨p, va, vp, ev, es, h⟩ := h
 refine (zhr h.at' h.bounds.1 h.bounds.2).mono ?_
 rintro e w' ⟨u, ps, rfl, hE, hrow, hps, hq⟩
 refine ⟨u, ps, rfl, hE, hrow, hq, hps, ?_⟩
 have h1 := congrArg List.length hps
 have h2 := h.lenR
 have h3 := h.bounds.1
 simp at h1
 omega
end Go.Proofs.YtnoeconcpgdjlaaGreat
