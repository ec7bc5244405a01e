import Derived.StillTailTactics
import Derived.Test.YtnoeconcpgdjlaaGreatBsEnt
import Derived.Test.YtnoeconcpgdjlaaGreatBsLib
import Derived.Test.YtnoeconcpgdjlaaGreatBsMath2
import Derived.Test.YtnoeconcpgdjlaaGreatBsMsg
import Derived.Test.YtnoeconcpgdjlaaGreatBsTerm
import Derived.Test.YtnoeconcpgdjlaaGreatBsVec
namespace Go.Proofs.YtnoeconcpgdjlaaGreat
set_option linter.unusedSimpArgs false
set_option linter.unusedVariables false
set_option maxRecDepth 100000
open Go.RowKit
theorem zbv : Maps.Keyed Tryz.prog 3 := Maps.int_keyed Tryz.underlying3
theorem zej {x : Int} (hx : (Lit.int .i64 x).wf = true) : keyOf Tryz.prog 3 (.int .i64 x) = some (.int .i64 x) := Maps.keyOf_int_mk Tryz.underlying3 hx
def za4 (l : List Int) (f : Int -> Int) : List (Value × Value) := l.map fun n => (.int .i64 n, .int .i64 (f n))
theorem zia (l : List Int) (f : Int -> Int) : (za4 l f).map (·.1) = l.map (Value.int .i64) := by simp [za4]
theorem zk2 {l : List Int} {f : Int -> Int} {n : Int} (h : n ∈ l) : (Value.int .i64 n, Value.int .i64 (f n)) ∈ za4 l f := List.mem_map.2 ⟨n, h, rfl⟩
theorem zf4 {l : List Int} {f : Int -> Int} {n : Int} (h : n ∉ l) : Value.int .i64 n ∉ (za4 l f).map (·.1) := fun hm => by
 rw [zia] at hm
 obtain ⟨x, hx, he⟩ := List.mem_map.1 hm
 injection he with _ he
 exact h (he ▸ hx)
theorem zjt {l : List Int} (hn : l.Nodup) {f : Int -> Int} {n k : Int} (h : n ∈ l) : ∃ m1 m2, za4 l f = m1 ++ (.int .i64 n, .int .i64 (f n)) :: m2 /\ za4 l (Quo.upd f n k) = m1 ++ (.int .i64 n, .int .i64 (max (f n) k)) :: m2 := by
 obtain ⟨l1, l2, rfl⟩ := List.append_of_mem h
 have h1 := List.nodup_append.1 hn
 have h2 := List.nodup_cons.1 h1.2.1
 refine ⟨za4 l1 f, za4 l2 f, by simp [za4], ?_⟩
 have e : ∀ l' : List Int, n ∉ l' -> za4 l' (Quo.upd f n k) = za4 l' f := fun l' hl => by
  unfold za4
  refine List.map_congr_left fun x hx => ?_
  have hne : x ≠ n := fun e => hl (by rw [<- e]; exact hx)
  simp [Quo.upd, hne]
 have e1 := e l1 (fun hx => h1.2.2 n hx n (by simp) rfl)
 have e2 := e l2 h2.1
 unfold za4 at e1 e2 ⊢
 rw [List.map_append, List.map_cons, e1, e2]
 unfold Quo.upd
 rw [if_pos rfl]
structure PrAt (w : World) (B x kb : Nat) (ev : Value) (es : List (Value × Ent.E)) (p : Quo.Pr) : Prop where
 heap : w.heap[x]? = some (.cells #[.int .i64 p.c.term, .int .i64 (p.c.shards.length : Nat), .int .i64 (Term.majority p.c : Nat), ev, .map (some kb), .bool p.is] 94 (0, 0))
 row : w.ownsRow B 84 6 ev es.length (zah es)
 ents : es.map (·.2) = p.l
 cuts : ∀ q ∈ es, RowN B w q.1 q.2.cut
 map : MapB Tryz.prog 3 w kb (za4 p.c.seqs p.f)
section
variable {w w' : World} {B x kb : Nat} {ev : Value} {es : List (Value × Ent.E)} {p : Quo.Pr}
theorem PrAt.lt (h : PrAt w B x kb ev es p) : x < w.heap.size := (Array.getElem?_eq_some_iff.1 h.heap).1
theorem PrAt.blocks (h : PrAt w B x kb ev es p) (h1 : w'.heap[x]? = w.heap[x]?) (h2 : w'.heap[kb]? = w.heap[kb]?) (h3 : ∀ k, ev.ownBlock = some k -> w'.heap[k]? = w.heap[k]?) (h4 : ∀ q ∈ es, ∀ k, q.1.ownBlock = some k -> w'.heap[k]? = w.heap[k]?) : PrAt w' B x kb ev es p :=
 ⟨h1.trans h.heap, za1 h.row h3, h.ents, fun q hq => (h.cuts q hq).blocks (h4 q hq), h.map.block h2⟩
theorem PrAt.ext (h : PrAt w B x kb ev es p) (hE : Ext w w') : PrAt w' B x kb ev es p :=
 h.blocks (hE.block _ h.lt) (hE.block _ h.map.lt) (fun k hk => hE.block k (h.row.lt k hk).2) (fun q hq k hk => hE.block k ((h.cuts q hq).lt k hk).2)
theorem PrAt.lower {B' : Nat} (h : PrAt w B x kb ev es p) (hB : B' <= B) : PrAt w B' x kb ev es p := ⟨h.heap, zaw h.row hB, h.ents, fun q hq => (h.cuts q hq).lower hB, h.map⟩
theorem PrAt.len (h : PrAt w B x kb ev es p) : es.length = p.l.length := by
 have := congrArg List.length h.ents
 simpa using this
theorem PrAt.open (h : PrAt w B x kb ev es p) : ∃ a c, ev = .slice a es.length c /\ es.length <= c /\ c <= maxLen /\ (a = none -> c = 0) := by
 obtain ⟨a, c, e, h1, h2, h3, _⟩ := SlN.ofOwn h.row
 exact ⟨a, c, e, h1, h2, h3⟩
theorem PrAt.ints (h : PrAt w B x kb ev es p) : ∀ q ∈ es, Ints w q.1 q.2.cut := fun q hq => (h.cuts q hq).row.ints
theorem PrAt.entsAt (h : PrAt w B x kb ev es p) : Ents w ev p.l := by
 have := zbb h.ints (SlN.ofOwn h.row)
 rw [h.ents] at this
 exact this
end
def own12 (x kb : Nat) (ev : Value) (k : Nat) : Prop := k = x \/ k = kb \/ ev.ownBlock = some k
def zr9 (es : List (Value × Ent.E)) (k : Nat) : Prop := ∃ q ∈ es, q.1.ownBlock = some k
structure IsPrS (w : World) (B : Nat) (S K : Nat -> Prop) (x kb : Nat) (ev : Value) (es : List (Value × Ent.E)) (p : Quo.Pr) : Prop where
 x1 : B <= x
 k1 : B <= kb
 s : ∀ k, S k ↔ own12 x kb ev k
 kk : ∀ k, K k ↔ zr9 es k
 at' : PrAt w B x kb ev es p
 ok : p.Ok
def IsPr (w : World) (B : Nat) (S K : Nat -> Prop) (x : Nat) (p : Quo.Pr) : Prop := ∃ kb ev es, IsPrS w B S K x kb ev es p
section
variable {w w1 w' : World} {B x kb : Nat} {S K : Nat -> Prop} {ev : Value} {es : List (Value × Ent.E)} {p p' : Quo.Pr}
theorem IsPrS.ext (h : IsPrS w B S K x kb ev es p) (hE : Ext w w') : IsPrS w' B S K x kb ev es p := ⟨h.x1, h.k1, h.s, h.kk, h.at'.ext hE, h.ok⟩
theorem IsPrS.lower {B' : Nat} (h : IsPrS w B S K x kb ev es p) (hB : B' <= B) : IsPrS w B' S K x kb ev es p := ⟨Nat.le_trans hB h.x1, Nat.le_trans hB h.k1, h.s, h.kk, h.at'.lower hB, h.ok⟩
theorem IsPrS.base (h : IsPrS w B S K x kb ev es p) : B <= w.heap.size := Nat.le_trans h.x1 (Nat.le_of_lt h.at'.lt)
theorem IsPrS.lenR (h : IsPrS w B S K x kb ev es p) : es.length = p.l.length := h.at'.len
theorem IsPrS.sx (h : IsPrS w B S K x kb ev es p) : S x := (h.s x).2 (.inl rfl)
theorem IsPrS.sk (h : IsPrS w B S K x kb ev es p) : S kb := (h.s kb).2 (.inr (.inl rfl))
theorem IsPrS.sr (h : IsPrS w B S K x kb ev es p) {k : Nat} (hk : ev.ownBlock = some k) : S k := (h.s k).2 (.inr (.inr hk))
theorem IsPrS.lt (h : IsPrS w B S K x kb ev es p) {k : Nat} (hk : S k) : B <= k /\ k < w.heap.size := by
 rcases (h.s k).1 hk with rfl | rfl | e
 . exact ⟨h.x1, h.at'.lt⟩
 . exact ⟨h.k1, h.at'.map.lt⟩
 . exact h.at'.row.lt k e
theorem IsPrS.ltK (h : IsPrS w B S K x kb ev es p) {k : Nat} (hk : K k) : B <= k /\ k < w.heap.size := by
 obtain ⟨q, hq, e⟩ := (h.kk k).1 hk
 exact (h.at'.cuts q hq).lt k e
theorem IsPrS.ints (h : IsPrS w B S K x kb ev es p) {k : Nat} {cs : Array Value} {fr : Nat × Nat} (hk : w.heap[k]? = some (.cells cs 3 fr)) : ¬ S k := fun hs => by
 rcases (h.s k).1 hs with rfl | rfl | e
 . rw [h.at'.heap] at hk
   injection hk with hk
   injection hk with _ e _
   exact absurd e (by decide)
 . exact h.at'.map.no_cells hk
 . obtain ⟨cur, hc⟩ := ownAt h.at'.row e
   rw [hc] at hk
   injection hk with hk
   injection hk with _ e _
   exact absurd e (by decide)
theorem IsPrS.keep (h : IsPrS w B S K x kb ev es p) (hb : ∀ k, k < w.heap.size -> S k \/ K k -> w'.heap[k]? = w.heap[k]?) : IsPrS w' B S K x kb ev es p :=
 ⟨h.x1, h.k1, h.s, h.kk, h.at'.blocks (hb _ h.at'.lt (.inl h.sx)) (hb _ h.at'.map.lt (.inl h.sk)) (fun k hk => hb k (h.at'.row.lt k hk).2 (.inl (h.sr hk))) (fun q hq k hk => hb k ((h.at'.cuts q hq).lt k hk).2 (.inr ((h.kk k).2 ⟨q, hq, hk⟩))), h.ok⟩
theorem IsPr.ext (h : IsPr w B S K x p) (hE : Ext w w') : IsPr w' B S K x p := by
 obtain ⟨kb, ev, es, h⟩ := h
 exact ⟨kb, ev, es, h.ext hE⟩
theorem IsPr.keep (h : IsPr w B S K x p) (hb : ∀ k, k < w.heap.size -> S k \/ K k -> w'.heap[k]? = w.heap[k]?) : IsPr w' B S K x p := by
 obtain ⟨kb, ev, es, h⟩ := h
 exact ⟨kb, ev, es, h.keep hb⟩
theorem IsPr.ok (h : IsPr w B S K x p) : p.Ok := by
 obtain ⟨kb, ev, es, h⟩ := h
 exact h.ok
theorem IsPr.lt (h : IsPr w B S K x p) {k : Nat} (hk : S k) : B <= k /\ k < w.heap.size := by
 obtain ⟨kb, ev, es, h⟩ := h
 exact h.lt hk
theorem IsPr.ltK (h : IsPr w B S K x p) {k : Nat} (hk : K k) : B <= k /\ k < w.heap.size := by
 obtain ⟨kb, ev, es, h⟩ := h
 exact h.ltK hk
theorem IsPr.ints (h : IsPr w B S K x p) {k : Nat} {cs : Array Value} {fr : Nat × Nat} (hk : w.heap[k]? = some (.cells cs 3 fr)) : ¬ S k := by
 obtain ⟨kb, ev, es, h⟩ := h
 exact h.ints hk
end
def LeavesPr (B : Nat) (S K : Nat -> Prop) (x : Nat) (w : World) (p : Quo.Pr) (w' : World) : Prop := ∃ S' K', IsPr w' B S' K' x p /\ TwS S w w' /\ (∀ k, k < w.heap.size -> S' k -> S k) /\ ∀ k, k < w.heap.size -> K' k -> K k
section
variable {w w0 w1 w' : World} {B x : Nat} {S K : Nat -> Prop} {p p' : Quo.Pr}
theorem LeavesPr.refl (h : IsPr w B S K x p) (hE : Ext w w') : LeavesPr B S K x w p w' := ⟨S, K, h.ext hE, TwS.ext hE, fun _ _ h => h, fun _ _ h => h⟩
theorem LeavesPr.ext (h : LeavesPr B S K x w p w1) (hE : Ext w1 w') : LeavesPr B S K x w p w' := by
 obtain ⟨S', K', h1, h2, h3, h4⟩ := h
 exact ⟨S', K', h1.ext hE, h2.trans (TwS.ext hE), h3, h4⟩
theorem LeavesPr.since (hE : Ext w0 w) (h : LeavesPr B S K x w p w') : LeavesPr B S K x w0 p w' := by
 obtain ⟨S', K', h1, h2, h3, h4⟩ := h
 exact ⟨S', K', h1, (TwS.ext hE).trans h2, fun k hk => h3 k (Nat.lt_of_lt_of_le hk hE.size), fun k hk => h4 k (Nat.lt_of_lt_of_le hk hE.size)⟩
end
end Go.Proofs.YtnoeconcpgdjlaaGreat
namespace Go.Proofs.YtnoeconcpgdjlaaGreat
set_option linter.unusedSimpArgs false
set_option linter.unusedVariables false
set_option maxRecDepth 100000
open Go.RowKit Go.ChangeMaps
section
variable {w : World} {B x kb : Nat} {ev : Value} {es : List (Value × Ent.E)} {p : Quo.Pr}
theorem zfh (h : PrAt w B x kb ev es p) : Calls Tryz.prog 12 #[.pointer (some ⟨x, 0, none⟩)] w fun e w' => e = .returned (.int .i64 (p.l.length : Nat)) /\ w = w' := by
 have hlen := h.len
 obtain ⟨a, c, rfl, hnc, hcm, _⟩ := h.open
 have c3 : w.cell? ⟨x, 3, none⟩ = some (.slice a es.length c) := zaa h.heap 3
 rw [hlen] at c3
 clear h hlen
 go_enter Tryz.func12, Tryz.ntmps12
 go_wp2
 go_ret
 exact ⟨rfl, rfl⟩
end
def zlv (w : World) (c : Term.C) (e : Ending) (w' : World) : Prop :=
 ((∃ x, Term.right c = true /\ e = .returned (.tuple #[.pointer (some ⟨x, 0, none⟩), .int .i64 0]) /\ ∃ S K, IsPr w' w.heap.size S K x (Quo.new c)) ∨
  (Term.right c = false /\ e = .returned (.tuple #[.pointer none, .int .i64 1]))) /\ Ext w w'
theorem zl2 (w : World) (t n m : Int) (kb : Nat) : (Instr.build 94 #[(0, .int .i64 t), (1, .int .i64 n), (2, .int .i64 m), (4, .map (some kb))]).run Tryz.prog w = .ok (.agg #[.int .i64 t, .int .i64 n, .int .i64 m, .slice none 0 0, .map (some kb), .bool false]) w := by kernel_rfl
theorem zq9 (w : World) (t n m : Int) (kb : Nat) : (Instr.box 94 (.agg #[.int .i64 t, .int .i64 n, .int .i64 m, .slice none 0 0, .map (some kb), .bool false])).run Tryz.prog w = .ok (.pointer (some ⟨w.heap.size, 0, none⟩)) (w.alloc (.cells #[.int .i64 t, .int .i64 n, .int .i64 m, .slice none 0 0, .map (some kb), .bool false] 94)) := by kernel_rfl
theorem Ints.at12 {w : World} {a : Option Addr} {n c : Nat} {l : List Int} (h : Ints w (.slice a n c) l) (i : Nat) (hi : i < l.length) : ∃ b off, a = some ⟨b, off, none⟩ /\ w.cell? ⟨b, off + i, none⟩ = some (.int .i64 l[i]) := by
 obtain ⟨a', cap, e, _, _, _, hc⟩ := h
 injection e with e1 _ _
 subst e1
 obtain ⟨b, off, e, hcell⟩ := hc i (by simpa using hi)
 exact ⟨b, off, e, by simpa [i64s] using hcell⟩
set_option maxHeartbeats 40000000 in
theorem zji (w : World) (v : Value) (c : Term.C) (hv : IsConf w v c) :
 Calls Tryz.prog 7 #[v] w (zlv w c) := by
 have hbx := zc4
 have HV := Hi hv
 obtain ⟨s, d, rfl, hs, hd⟩ := hv
 obtain ⟨a0, n0, k0, rfl⟩ := zan hs
 obtain ⟨a1, n1, k1, rfl⟩ := zbw hd
 obtain ⟨tc, htc⟩ : ∃ z, c.term = z := ⟨_, rfl⟩
 have HS := Hi hs
 have HD := Hi hd
 have HTC := Hi htc
 obtain ⟨w1, hw1⟩ : ∃ z, w.alloc (.cells #[.int .i64 tc, .slice a0 n0 k0, .slice a1 n1 k1] 33) = z := ⟨_, rfl⟩
 obtain ⟨q, hq⟩ : ∃ z, w.heap.size = z := ⟨_, rfl⟩
 have hE1 : Ext w w1 := by rw [<- hw1]; exact Ext.alloc _ _
 have hc1 : w1.heap[q]? = some (.cells #[.int .i64 tc, .slice a0 n0 k0, .slice a1 n1 k1] 33 (0, 0)) := by rw [<- hw1, <- hq]; exact heap_alloc_new _ _
 have HC1 := Hi (And.intro hc1 hE1)
 have HQ := Hi hq
 have y0 := zaa hc1 0
 have y1 := zaa hc1 1
 have y2 := zaa hc1 2
 simp at y0 y1 y2
 unfold confV
 rw [htc]
 clear htc
 have HW1 := Hi hw1
 clear hs hd hc1 hE1 hq hw1
 go_enter Tryz.func7, Tryz.ntmps7
 go_upto_region 1 with fail
 rw [HW1.out, HQ.out]
 clear hbx
 go_wp2_with fail
 refine (zdq _ c w1 ⟨_, _, by unfold confV; rw [HTC.out], HS.out.below HC1.out.2, HD.out.below HC1.out.2⟩).mono ?_
 rintro e w2 ⟨rfl, hE2⟩
 have HC2 := Hi (And.intro (zad HC1.out.1 hE2) (HC1.out.2.trans hE2))
 clear hE2 y0 y1 y2 HV
 cases hr : Term.right c with
 | false =>
  have HR := Hi hr
  clear hr
  go_wp2_with fail
  go_ret2
  exact ⟨.inr ⟨HR.out, rfl⟩, HC2.out.2⟩
 | true =>
  have HR := Hi hr
  have h4 := (Term.right_ok hr).2.2.2.1
  have HSL := Hi (show c.seqs.length <= 140737488355328 by omega)
  have HLS := Hi (show n1 = c.shards.length by obtain ⟨_, _, e, _⟩ := HD.out.open; cases e; rfl)
  obtain ⟨N, hN⟩ : ∃ N, Term.majority c = N := ⟨_, rfl⟩
  have HN := Hi hN
  have HMJ := Hi (show ∀ wy, Ext w2 wy -> Calls Tryz.prog 31 #[.agg #[.int .i64 tc, .slice a0 n0 k0, .slice a1 n1 k1]] wy fun e w' => e = .returned (.int .i64 (N : Nat)) /\ Ext wy w' from fun wy hl => by
   have := zen (.agg #[.int .i64 tc, .slice a0 n0 k0, .slice a1 n1 k1]) c wy ⟨_, _, by unfold confV; rw [HTC.out], HS.out.below (HC2.out.2.trans hl), HD.out.below (HC2.out.2.trans hl)⟩ HSL.out
   rw [HN.out] at this
   exact this)
  clear hr h4 hN
  go_upto_region 3 with fail
  go_cut [4] (fun s4 wx => ∃ (x kb : Nat), s4 = .pointer (some ⟨x, 0, none⟩) /\ Hid (w.heap.size <= x /\ w.heap.size <= kb /\ x ≠ kb /\ Ext w wx /\ wx.heap[q]? = some (.cells #[.int .i64 tc, .slice a0 n0 k0, .slice a1 n1 k1] 33 (0, 0)) /\ wx.heap[x]? = some (.cells #[.int .i64 tc, .int .i64 (n1 : Nat), .int .i64 (N : Nat), .slice none 0 0, .map (some kb), .bool false] 94 (0, 0)) /\ MapB Tryz.prog 3 wx kb []))
  case first =>
   refine zat (by kernel_rfl) Ext (fun iop v w => match iop with
    | 0 => v = .pointer (some ⟨q, 0, none⟩)
    | 1 => v = .int .i64 tc
    | 2 => v = .pointer (some ⟨q, 2, none⟩)
    | 3 => v = .slice a1 n1 k1
    | 4 => v = .int .i64 (n1 : Nat)
    | 5 => v = .agg #[.int .i64 tc, .slice a0 n0 k0, .slice a1 n1 k1]
    | 6 => v = .int .i64 (N : Nat)
    | 7 => ∃ kb, v = .map (some kb) /\ w2.heap.size <= kb /\ MapB Tryz.prog 3 w kb []
    | 8 => ∃ kb, v = .agg #[.int .i64 tc, .int .i64 (n1 : Nat), .int .i64 (N : Nat), .slice none 0 0, .map (some kb), .bool false] /\ w2.heap.size <= kb /\ MapB Tryz.prog 3 w kb []
    | 9 => ∃ x kb, v = .pointer (some ⟨x, 0, none⟩) /\ w2.heap.size <= x /\ w2.heap.size <= kb /\ x ≠ kb /\ w.heap[x]? = some (.cells #[.int .i64 tc, .int .i64 (n1 : Nat), .int .i64 (N : Nat), .slice none 0 0, .map (some kb), .bool false] 94 (0, 0)) /\ MapB Tryz.prog 3 w kb []
    | _ => ∃ x kb, v = .pointer (some ⟨x, 0, none⟩) /\ w2.heap.size <= x /\ w2.heap.size <= kb /\ x ≠ kb /\ w.heap[x]? = some (.cells #[.int .i64 tc, .int .i64 (n1 : Nat), .int .i64 (N : Nat), .slice none 0 0, .map (some kb), .bool false] 94 (0, 0)) /\ MapB Tryz.prog 3 w kb []
    ) (by kernel_rfl) (fun _ _ _ h k => Ext.trans h k) (fun a => Ext.refl a) (Ext.drew _) ?_ ?_ ?_
   . intro iop v wa wb hF hL
     iterate 7 (rcases iop with _ | iop; exact hF)
     iterate 3 (rcases iop with _ | iop; (first | exact hF | (obtain ⟨kb, e, h1, h2⟩ := hF; exact ⟨kb, e, h1, h2.block (hL.block _ h2.lt)⟩) | (obtain ⟨x, kb, e, h0, h1, h2, h3, h4⟩ := hF; exact ⟨x, kb, e, h0, h1, h2, zad h3 hL, h4.block (hL.block _ h4.lt)⟩)))
     (first | exact hF | (obtain ⟨kb, e, h1, h2⟩ := hF; exact ⟨kb, e, h1, h2.block (hL.block _ h2.lt)⟩) | (obtain ⟨x, kb, e, h0, h1, h2, h3, h4⟩ := hF; exact ⟨x, kb, e, h0, h1, h2, zad h3 hL, h4.block (hL.block _ h4.lt)⟩))
   . refine Obls.cons ?_ (Obls.cons ?_ (Obls.cons ?_ (Obls.cons ?_ (Obls.cons ?_ (Obls.cons ?_ (Obls.cons ?_ (Obls.cons ?_ (Obls.cons ?_ (Obls.cons ?_ (Obls.cons ?_ (Obls.nil)))))))))))
     . intro ev wy hp hl hk hd
       have e1 : ev _ = .pointer (some ⟨q, 0, none⟩) := hk 1 (by decide)
       exact Yield.oq (by simp [execOp, go_sem, e1])
     . intro ev wy hp hl hk hd
       have e10 : ev _ = _ := hk 10 (by decide)
       exact Yield.op (v := .int .i64 tc) (w' := wy) (by simp [execOp, go_sem, e10, zaa (zad HC2.out.1 hl) 0]) ⟨Ext.refl _, rfl⟩
     . intro ev wy hp hl hk hd
       have e1 : ev _ = .pointer (some ⟨q, 0, none⟩) := hk 1 (by decide)
       exact Yield.oq (by simp [execOp, go_sem, e1])
     . intro ev wy hp hl hk hd
       have e12 : ev _ = _ := hk 12 (by decide)
       exact Yield.op (v := .slice a1 n1 k1) (w' := wy) (by simp [execOp, go_sem, e12, zaa (zad HC2.out.1 hl) 2]) ⟨Ext.refl _, rfl⟩
     . intro ev wy hp hl hk hd
       have e13 : ev _ = _ := hk 13 (by decide)
       exact Yield.oq (by simp [execOp, go_sem, e13])
     . intro ev wy hp hl hk hd
       have e1 : ev _ = .pointer (some ⟨q, 0, none⟩) := hk 1 (by decide)
       exact Yield.op (v := .agg #[.int .i64 tc, .slice a0 n0 k0, .slice a1 n1 k1]) (w' := wy) (by simp [execOp, go_sem, e1, zaa (zad HC2.out.1 hl) 0, zaa (zad HC2.out.1 hl) 1, zaa (zad HC2.out.1 hl) 2]) ⟨Ext.refl _, rfl⟩
     . intro ev wy hp hl hk hd
       have e15 : ev _ = _ := hk 15 (by decide)
       refine Yield.call rfl hp Tryz.func31 rfl (by kernel_rfl) ?_
       simp only [List.map_toArray, List.map_cons, List.map_nil, e15]
       exact (HMJ.out wy hl).mono fun _ _ ⟨he, hb⟩ => ⟨_, he, hb, by first | rfl | simp⟩
     . intro ev wy hp hl hk hd
       exact Yield.op (v := .map (some wy.heap.size)) (w' := wy.alloc (.map #[] 0)) (by simp [execOp, run_makeMap, Sem.run_bind]) ⟨Ext.alloc _ _, _, rfl, hl.size, MapB.made _ _ _⟩
     . intro ev wy hp hl hk hd
       have e11 : ev _ = _ := hk 11 (by decide)
       have e14 : ev _ = _ := hk 14 (by decide)
       have e16 : ev _ = _ := hk 16 (by decide)
       have f17 : (fun (v : Value) (w : World) => ∃ kb, v = .map (some kb) /\ w2.heap.size <= kb /\ MapB Tryz.prog 3 w kb []) (ev (.tmp 17)) wy := hk 17 (by decide)
       generalize hx17 : ev (.tmp 17) = x17 at *
       obtain ⟨kb, ekb, h1, h2⟩ := f17
       exact Yield.op (v := .agg #[.int .i64 tc, .int .i64 (n1 : Nat), .int .i64 (N : Nat), .slice none 0 0, .map (some kb), .bool false]) (w' := wy) (by simp [execOp, e11, e14, e16, hx17, ekb, zl2, Sem.run_bind]) ⟨Ext.refl _, _, rfl, h1, h2⟩
     . intro ev wy hp hl hk hd
       have f18 : (fun (v : Value) (w : World) => ∃ kb, v = .agg #[.int .i64 tc, .int .i64 (n1 : Nat), .int .i64 (N : Nat), .slice none 0 0, .map (some kb), .bool false] /\ w2.heap.size <= kb /\ MapB Tryz.prog 3 w kb []) (ev (.tmp 18)) wy := hk 18 (by decide)
       generalize hx18 : ev (.tmp 18) = x18 at *
       obtain ⟨kb, ekb, h1, h2⟩ := f18
       exact Yield.op (v := .pointer (some ⟨wy.heap.size, 0, none⟩)) (w' := wy.alloc (.cells #[.int .i64 tc, .int .i64 (n1 : Nat), .int .i64 (N : Nat), .slice none 0 0, .map (some kb), .bool false] 94)) (by simp [execOp, hx18, ekb, zq9, Sem.run_bind]) ⟨Ext.alloc _ _, _, _, rfl, hl.size, h1, (fun e => by have := h2.lt; omega), heap_alloc_new _ _, h2.block ((Ext.alloc _ _).block _ h2.lt)⟩
     . intro ev wy hp hl hk hd
       have f19 : (fun (v : Value) (w : World) => ∃ x kb, v = .pointer (some ⟨x, 0, none⟩) /\ w2.heap.size <= x /\ w2.heap.size <= kb /\ x ≠ kb /\ w.heap[x]? = some (.cells #[.int .i64 tc, .int .i64 (n1 : Nat), .int .i64 (N : Nat), .slice none 0 0, .map (some kb), .bool false] 94 (0, 0)) /\ MapB Tryz.prog 3 w kb []) (ev (.tmp 19)) wy := hk 19 (by decide)
       generalize hx19 : ev (.tmp 19) = x19 at *
       exact Yield.as rfl ⟨Ext.refl _, by rw [hx19]; exact f19⟩
   . intro vals wz hz hv
     have g10 : vals 0 = _ := hv 0 (by decide)
     have g11 : vals 1 = _ := hv 1 (by decide)
     have g12 : vals 2 = _ := hv 2 (by decide)
     have g13 : vals 3 = _ := hv 3 (by decide)
     have g14 : vals 4 = _ := hv 4 (by decide)
     have g15 : vals 5 = _ := hv 5 (by decide)
     have g16 : vals 6 = _ := hv 6 (by decide)
     have g17 : (fun (v : Value) (w : World) => ∃ kb, v = .map (some kb) /\ w2.heap.size <= kb /\ MapB Tryz.prog 3 w kb []) (vals 7) wz := hv 7 (by decide)
     have g18 : (fun (v : Value) (w : World) => ∃ kb, v = .agg #[.int .i64 tc, .int .i64 (n1 : Nat), .int .i64 (N : Nat), .slice none 0 0, .map (some kb), .bool false] /\ w2.heap.size <= kb /\ MapB Tryz.prog 3 w kb []) (vals 8) wz := hv 8 (by decide)
     have g19 : (fun (v : Value) (w : World) => ∃ x kb, v = .pointer (some ⟨x, 0, none⟩) /\ w2.heap.size <= x /\ w2.heap.size <= kb /\ x ≠ kb /\ w.heap[x]? = some (.cells #[.int .i64 tc, .int .i64 (n1 : Nat), .int .i64 (N : Nat), .slice none 0 0, .map (some kb), .bool false] 94 (0, 0)) /\ MapB Tryz.prog 3 w kb []) (vals 9) wz := hv 9 (by decide)
     have g4 : (fun (v : Value) (w : World) => ∃ x kb, v = .pointer (some ⟨x, 0, none⟩) /\ w2.heap.size <= x /\ w2.heap.size <= kb /\ x ≠ kb /\ w.heap[x]? = some (.cells #[.int .i64 tc, .int .i64 (n1 : Nat), .int .i64 (N : Nat), .slice none 0 0, .map (some kb), .bool false] 94 (0, 0)) /\ MapB Tryz.prog 3 w kb []) (vals 10) wz := hv 10 (by decide)
     clear hv
     simp only [zar, Act.put, List.setIfInBounds_toArray, List.set_cons_zero, List.set_cons_succ, g10, g11, g12, g13, g14, g15, g16]
     clear g10 g11 g12 g13 g14 g15 g16
     generalize vals 7 = v17 at *
     generalize vals 8 = v18 at *
     generalize vals 9 = v19 at *
     generalize vals 10 = v4 at *
     obtain ⟨x, kb, ex, h0, h1, h2, h3, h4⟩ := g4
     go_wp2_with fail
     go_meet
     exact ⟨x, kb, ex, Hi ⟨Nat.le_trans HC2.out.2.size h0, Nat.le_trans HC2.out.2.size h1, h2, HC2.out.2.trans hz, zad HC2.out.1 hz, h3, h4⟩⟩
  case rest =>
   obtain ⟨x, kb, rfl, H⟩ := hcut
   obtain ⟨wB, hwB⟩ : ∃ z, z = wc := ⟨_, rfl⟩
   subst hwB
   have y1 : wB.cell? ⟨q, 1, none⟩ = some (.slice a0 n0 k0) := zaa H.out.2.2.2.2.1 1
   have x4 : wB.cell? ⟨x, 4, none⟩ = some (.map (some kb)) := zaa H.out.2.2.2.2.2.1 4
   obtain ⟨hn0, hnk, hk9⟩ : n0 = c.seqs.length /\ n0 <= k0 /\ k0 <= 9223372036854775807 := by
    obtain ⟨_, _, e, h1, h2, _⟩ := HS.out
    unfold maxLen at h2
    cases e
    simp at h1 ⊢
    exact ⟨h1, h2⟩
   have HN0 := Hi hn0
   clear hn0
   go_wp2_with fail
   go_loopw [23] (fun i wr => ∃ k : Nat, k <= n0 /\ i = .int .i64 k /\ Hid (But kb wB wr /\ Ext w wr /\ MapB Tryz.prog 3 wr kb (za4 (c.seqs.take k) fun _ => 0))) (fun i _ => n0 - (intOf i).toNat)
   case atStart => exact ⟨0, by omega, rfl, Hi ⟨But.refl _ _, H.out.2.2.2.1, H.out.2.2.2.2.2.2⟩⟩
   case round =>
    obtain ⟨k, hk, rfl, hI⟩ := hrel
    by_cases hlt : k < n0
    . have hkl : k < c.seqs.length := by rw [<- HN0.out]; exact hlt
      obtain ⟨sb, so, hse, hx⟩ := (HS.out.below hI.out.2.1).at12 k hkl
      subst hse
      obtain ⟨z, hz⟩ : ∃ z, c.seqs[k] = z := ⟨_, rfl⟩
      have hzr : 0 <= z /\ z <= 15 := by
       have := (Term.unlike_ok (Term.right_ok HR.out).2.2.2.2).1 c.seqs[k] (List.getElem_mem hkl)
       rw [hz] at this
       exact this
      have hno : Value.int .i64 z ∉ (za4 (c.seqs.take k) fun _ => 0).map (·.1) := zf4 fun hm => by
       have hnd := (Term.unlike_ok (Term.right_ok HR.out).2.2.2.2).2
       obtain ⟨i, hi, he⟩ := List.mem_iff_getElem.1 hm
       have hi' : i < k := by simp at hi; omega
       rw [List.getElem_take, <- hz] at he
       exact List.pairwise_iff_getElem.1 hnd i k (by omega) hkl hi' he
      obtain ⟨o1, hrun, hput⟩ := hI.out.2.2.put zbv Tryz.underlying92 (zej (x := z) (by simp [Lit.wf, IntKind.min, IntKind.max, IntKind.signed, IntKind.bits]; omega)) hno (val := .int .i64 0)
      have hB1 := zfd wr kb o1
      have HNX := Hi (show But kb wB (setBlock wr kb o1) /\ Ext w (setBlock wr kb o1) /\ MapB Tryz.prog 3 (setBlock wr kb o1) kb (za4 (c.seqs.take (k + 1)) fun _ => 0) from ⟨hI.out.1.trans hB1, Ext.newQ11 hI.out.2.1 H.out.2.1 hB1, by
       have e : za4 (c.seqs.take (k + 1)) (fun _ => 0) = za4 (c.seqs.take k) (fun _ => 0) ++ [(.int .i64 z, .int .i64 0)] := by
        rw [List.take_succ_eq_append_getElem hkl, hz]
        simp [za4]
       rw [e]
       exact hput⟩)
      have hxr : wr.cell? ⟨x, 4, none⟩ = some (.map (some kb)) := (World.cell?_of_block (w := wB) (hI.out.1.block x (Array.getElem?_eq_some_iff.1 H.out.2.2.2.2.2.1).1 H.out.2.2.1)).trans x4
      rw [hz] at hx
      clear hz hzr hno hput hB1 hkl y1 x4
      go_wp2_with fail
      go_roundw
      case rel => exact ⟨k + 1, by omega, by go_num, HNX⟩
      case measure => simp [intOf]; omega
    . obtain rfl : k = n0 := by omega
      have hall : c.seqs.take k = c.seqs := List.take_of_length_le (by rw [<- HN0.out]; exact Nat.le_refl _)
      rw [hall] at hI
      clear hall
      go_wp2_with fail
      go_ret2
      refine ⟨.inl ⟨x, HR.out, rfl, _, _, kb, .slice none 0 0, [], H.out.1, H.out.2.1, fun _ => Iff.rfl, fun _ => Iff.rfl, ⟨?_, World.ownsRow_nil _ _ _ _, rfl, fun q hq => (by cases hq), hI.out.2.2⟩, Quo.new_ok HR.out⟩, hI.out.2.1⟩
      have h1 := (hI.out.1.block x (Array.getElem?_eq_some_iff.1 H.out.2.2.2.2.2.1).1 H.out.2.2.1).trans H.out.2.2.2.2.2.1
      show wr.heap[x]? = some (Obj.cells #[.int .i64 c.term, .int .i64 (c.shards.length : Nat), .int .i64 (Term.majority c : Nat), .slice none 0 0, .map (some kb), .bool false] 94 (0, 0))
      rw [HTC.out, <- HLS.out, HN.out]
      exact h1
end Go.Proofs.YtnoeconcpgdjlaaGreat
namespace Go.Proofs.YtnoeconcpgdjlaaGreat
set_option linter.unusedSimpArgs false
set_option linter.unusedVariables false
set_option maxRecDepth 100000
open Go.RowKit
theorem zkw (u : Value) : ∀ (ps : List (Value × Ent.E)) (k : Nat) (hk : k < ps.length), (zah ps).set (k * 6 + 2) u = zah (ps.set k (u, ps[k].2)) := by
 intro ps
 induction ps with
 | nil => intro k hk; exact absurd hk (by simp)
 | cons p ps ih =>
  intro k hk
  cases k with
  | zero => rfl
  | succ k =>
   have h1 := ih k (by simpa using hk)
   show _ = (_ : List Value)
   have e1 : (k + 1) * 6 + 2 = (k * 6 + 2) + 1 + 1 + 1 + 1 + 1 + 1 := by omega
   rw [e1]
   show _ = [Value.int .i64 p.2.number, .int .i64 p.2.kind, p.1, .int .i64 p.2.tag, .int .i64 p.2.term, .int .i64 p.2.pos] ++ zah (ps.set k (u, (ps[k]'(by simpa using hk)).2))
   rw [<- h1]
   rfl
structure Mine12 (w : World) (es ps : List (Value × Ent.E)) (k : Nat) (lv : Value) (wr : World) : Prop where
 ext : Ext w wr
 row : wr.ownsRow w.heap.size 84 6 lv ps.length (zah ps)
 ents : ps.map (·.2) = es.map (·.2)
 mine : ∀ i (h : i < ps.length), i < k -> RowN w.heap.size wr ps[i].1 ps[i].2.cut
 rest : ∀ i, k <= i -> ps[i]? = es[i]?
theorem Mine12.later {w wr w' : World} {es ps : List (Value × Ent.E)} {k : Nat} {lv : Value} (h : Mine12 w es ps k lv wr) (hE : Ext wr w') : Mine12 w es ps k lv w' := ⟨h.ext.trans hE, za0 h.row hE, h.ents, fun i hi hk => (h.mine i hi hk).ext hE, h.rest⟩
theorem Mine12.len {w wr : World} {es ps : List (Value × Ent.E)} {k : Nat} {lv : Value} (h : Mine12 w es ps k lv wr) : ps.length = es.length := by
 have := congrArg List.length h.ents
 simpa using this
theorem Mine12.next {w wr : World} {es ps : List (Value × Ent.E)} {k g n c : Nat} (h : Mine12 w es ps k (.slice (some ⟨g, 0, none⟩) n c) wr) (hk : k < ps.length) (u : Value) (hu : RowN w.heap.size wr u ps[k].2.cut) : Mine12 w es (ps.set k (u, ps[k].2)) (k + 1) (.slice (some ⟨g, 0, none⟩) n c) (wr.setCell ⟨g, k * 6 + 2, none⟩ u) := by
 have hg := h.row.lt g rfl
 have hb : But g wr (wr.setCell ⟨g, k * 6 + 2, none⟩ u) := za2 _ _ _ _
 obtain ⟨cur, hcur⟩ := ownAt h.row (show (Value.slice (some ⟨g, 0, none⟩) n c).ownBlock = some g from rfl)
 have hrn : ∀ {v : Value} {l : List Int}, RowN w.heap.size wr v l -> RowN w.heap.size (wr.setCell ⟨g, k * 6 + 2, none⟩ u) v l := fun hv => by
  obtain ⟨b, m, hb', ho⟩ := hv
  exact ⟨b, m, hb', zbe ho (zaj ho hcur (by decide)) hb⟩
 obtain rfl := zcv h.row
 refine ⟨Ext.newQ11 h.ext hg.1 hb, ?_, ?_, fun i hi hik => ?_, fun i hi => ?_⟩
 . have h1 := (h.row.stored (k * 6 + 2) u).1
   rw [zkw u ps k hk] at h1
   simpa using h1
 . rw [<- h.ents, List.map_set]
   apply List.ext_getElem (by simp)
   intro j h1 h2
   rw [List.getElem_set]
   split
   . next e' => subst e'; simp
   . rfl
 . have hi' : i < ps.length := by simpa using hi
   simp only [List.getElem_set]
   split
   . next e => subst e; exact hrn hu
   . next hne => exact hrn (h.mine i hi' (by omega))
 . rw [List.getElem?_set_ne (by omega)]
   exact h.rest i (by omega)
def Own12 (w : World) (ps : List (Value × Ent.E)) (e : Ending) (w' : World) : Prop := ∃ u qs, e = .returned u /\ Ext w w' /\ w'.ownsRow w.heap.size 84 6 u qs.length (zah qs) /\ qs.map (·.2) = ps.map (·.2) /\ ∀ q ∈ qs, RowN w.heap.size w' q.1 q.2.cut
set_option maxHeartbeats 8000000 in
theorem zem (v : Value) (es : List (Value × Ent.E)) (w : World) (hv : SlN 6 w v es.length (zah es)) (hi : ∀ q ∈ es, Ints w q.1 q.2.cut) (hl : es.length <= 13107) (hc : ∀ q ∈ es, q.2.cut.length <= 1000000) :
 Calls Tryz.prog 42 #[v] w (Own12 w es) := by
 have HCL := Hi (zgl v es w hv (zb3 hi) (by omega))
 have HIN := Hi hi
 have HC := Hi hc
 obtain ⟨n, hn⟩ : ∃ n, es.length = n := ⟨_, rfl⟩
 rw [hn] at HCL hl
 have HN := Hi hn
 clear hv hi hc hn
 go_enter Tryz.func42, Tryz.ntmps42
 go_wp2_with fail
 refine HCL.out.mono ?_
 rintro e w2 ⟨u, rfl, hrow, hE2⟩
 obtain ⟨ua, un, uc, rfl⟩ := zao hrow
 obtain rfl := zcv hrow
 have HI0 := Hi (show Mine12 w es es 0 (.slice ua un uc) w2 from ⟨hE2, by rw [HN.out]; exact hrow, rfl, fun i hi hk => absurd hk (by omega), fun i _ => rfl⟩)
 clear hrow hE2 HCL
 go_wp2_with fail
 go_loopw [8] (fun i wr => ∃ (k : Nat) (ps : List (Value × Ent.E)), k <= un /\ i = .int .i64 k /\ Hid (Mine12 w es ps k (.slice ua un uc) wr)) (fun i _ => un - (intOf i).toNat)
 case atStart => exact ⟨0, es, by omega, rfl, HI0⟩
 case round =>
  obtain ⟨k, ps, hk, rfl, hI⟩ := hrel
  by_cases hlt : k < un
  . have hkp : k < ps.length := by rw [hI.out.len, HN.out]; exact hlt
    have hke : k < es.length := by rw [HN.out]; exact hlt
    have hpk : ps[k] = es[k] := by
     have := hI.out.rest k (Nat.le_refl _)
     rw [List.getElem?_eq_getElem hkp, List.getElem?_eq_getElem hke] at this
     injection this
    obtain ⟨te, hte⟩ : ∃ z, ps[k].1 = z := ⟨_, rfl⟩
    obtain ⟨l, hl'⟩ : ∃ z, ps[k].2.cut = z := ⟨_, rfl⟩
    have hmem : es[k] ∈ es := List.getElem_mem hke
    have hti : ∀ w', Ext w w' -> Ints w' te l := fun w' hE' => by
     have := HIN.out _ hmem
     rw [<- hpk, hte, hl'] at this
     exact this.below hE'
    have hcl : l.length <= 1000000 := by
     have := HC.out _ hmem
     rw [<- hpk, hl'] at this
     exact this
    obtain ⟨ta, tn, tc, rfl⟩ := zan (hti wr hI.out.ext)
    have hlen : ps.length = un := by rw [hI.out.len]; exact HN.out
    have hrow := hI.out.row
    rw [hlen] at hrow
    have hg : ∃ g, ua = some ⟨g, 0, none⟩ /\ un <= uc /\ uc <= maxLen := by
     rcases hrow.2 with ⟨e, e2⟩ | ⟨g, cap, cur, e, _, _, h1, h2, _⟩
     . omega
     . injection e with e3 e4 e5
       exact ⟨g, e3, by omega, by omega⟩
    obtain ⟨g, rfl, huc, hum⟩ := hg
    unfold maxLen at hum
    have p2 : wr.cell? ⟨g, k * 6 + 2, none⟩ = some (.slice ta tn tc) := by
     have h1 := hrow.cellAt (k * 6 + 2) (by omega)
     rw [h1, zcf ps k 2 hkp (by omega), hte]
     rfl
    have HCI := Hi (zds (.slice ta tn tc) l wr (hti wr hI.out.ext) hcl)
    have HL := Hi (And.intro hkp hl')
    clear hrow hti hcl hte hl' hpk hmem hke hlen
    go_wp2_with fail
    refine HCI.out.mono ?_
    rintro e w4 ⟨u4, rfl, ho4, hE4⟩
    have hI4 := hI.out.later hE4
    obtain ⟨a4, n4, c4, rfl⟩ := zao ho4
    have HI5 := Hi (hI4.next HL.out.1 (.slice a4 n4 c4) ⟨wr.heap.size, _, hI.out.ext.size, by rw [HL.out.2]; exact ho4⟩)
    have hr4 := hI4.row
    rw [show ps.length = un by rw [hI4.len]; exact HN.out] at hr4
    have z2 := hr4.frozenAt (k * 6 + 2)
    have q2 : w4.cell? ⟨g, k * 6 + 2, none⟩ = some (.slice ta tn tc) := zbh hE4 p2
    clear hI4 hr4 ho4 hE4 p2 HCI
    go_wp2_with fail
    go_roundw
    case rel => exact ⟨k + 1, _, by omega, by go_num, HI5⟩
    case measure => simp [intOf]; omega
  . obtain rfl : k = un := by omega
    go_wp2_with fail
    go_ret
    refine ⟨_, ps, rfl, hI.out.ext, hI.out.row, hI.out.ents, fun q hq => ?_⟩
    obtain ⟨i, hi, rfl⟩ := List.getElem_of_mem hq
    exact hI.out.mine i hi (by have := hI.out.len; have := HN.out; omega)
end Go.Proofs.YtnoeconcpgdjlaaGreat
namespace Go.Proofs.YtnoeconcpgdjlaaGreat
set_option linter.unusedSimpArgs false
set_option linter.unusedVariables false
set_option maxRecDepth 100000
open Go.RowKit Go.ChangeMaps
theorem ztq (w : World) : (zeroValue 3).run Tryz.prog w = .ok (.int .i64 0) w := by kernel_rfl
section
variable {w : World} {B x kb : Nat} {ev : Value} {es : List (Value × Ent.E)} {p : Quo.Pr}
theorem PrAt.look (h : PrAt w B x kb ev es p) {n : Int} (hn : Wf64 n) : ∃ (k : Int) (b : Bool), (Instr.lookup 92 (.map (some kb)) (.int .i64 n) true).run Tryz.prog w = .ok (.tuple #[.int .i64 k, .bool b]) w /\ ((n ∈ p.c.seqs /\ b = true /\ k = p.f n) \/ (n ∉ p.c.seqs /\ b = false /\ k = 0)) := by
 by_cases hm : n ∈ p.c.seqs
 . exact ⟨_, true, h.map.found zbv Tryz.underlying92 (zk2 hm), .inl ⟨hm, rfl, rfl⟩⟩
 . exact ⟨_, false, h.map.lost zbv Tryz.underlying92 (zej hn) (zf4 hm) (ztq w), .inr ⟨hm, rfl, rfl⟩⟩
theorem IsPrS.bounds {S K : Nat -> Prop} (h : IsPrS w B S K x kb ev es p) : es.length <= 512 /\ ∀ q ∈ es, q.2.cut.length <= 8 := by
 refine ⟨by rw [h.lenR]; exact h.ok.max, fun q hq => ?_⟩
 have hm : q.2 ∈ p.l := by rw [<- h.at'.ents]; exact List.mem_map.2 ⟨q, hq, rfl⟩
 have hr := (Ent.right_ok (Ent.isChain_right _ _ rfl h.ok.chain _ hm)).2
 rcases hr with ⟨_, hv, _⟩ | ⟨_, hv, _⟩
 . exact (Vec.right_ok hv).2.2
 . rw [hv]; simp
theorem zi3 : ∀ (ps : List (Value × Ent.E)) (n : Nat), (zah ps).drop (n * 6) = zah (ps.drop n) := by
 intro ps
 induction ps with
 | nil => intro n; simp [zah]
 | cons q ps ih =>
  intro n
  cases n with
  | zero => simp
  | succ n =>
   rw [List.drop_succ_cons, <- ih n]
   have e1 : (n + 1) * 6 = n * 6 + 1 + 1 + 1 + 1 + 1 + 1 := by omega
   rw [e1]
   rfl
end
def zr7 (w : World) (l : List Ent.E) (e : Ending) (w' : World) : Prop := ∃ u qs, e = .returned u /\ Ext w w' /\ w'.ownsRow w.heap.size 84 6 u qs.length (zah qs) /\ qs.map (·.2) = l /\ ∀ q ∈ qs, RowN w.heap.size w' q.1 q.2.cut
set_option maxHeartbeats 8000000 in
theorem zhl {w : World} {B x : Nat} {S K : Nat -> Prop} {p : Quo.Pr} (h : IsPr w B S K x p) (n : Int) (hn : Wf64 n) :
 Calls Tryz.prog 19 #[.pointer (some ⟨x, 0, none⟩), .int .i64 n] w (zr7 w (p.missing n)) := by
 obtain ⟨kb, ev, es, h⟩ := h
 obtain ⟨k, b, hlk, hcase⟩ := h.at'.look hn
 have H := Hi h
 have hlen := h.lenR
 obtain ⟨a, c, rfl, hnc, hcm, _⟩ := h.at'.open
 unfold maxLen at hcm
 have c3 : w.cell? ⟨x, 3, none⟩ = some (.slice a es.length c) := zaa h.at'.heap 3
 have c4 : w.cell? ⟨x, 4, none⟩ = some (.map (some kb)) := zaa h.at'.heap 4
 rcases hcase with ⟨hm, rfl, rfl⟩ | ⟨hm, rfl, rfl⟩
 case inr =>
  have HM := Hi hm
  clear h hlen hnc hcm hm
  go_enter Tryz.func19, Tryz.ntmps19
  go_wp2
  go_ret
  refine ⟨_, [], rfl, Ext.refl _, World.ownsRow_nil _ _ _ _, ?_, fun q hq => (by cases hq)⟩
  unfold Quo.Pr.missing
  rw [if_neg HM.out]
  rfl
 case inl =>
  obtain ⟨f, hf⟩ : ∃ f : Nat, p.f n = f := ⟨(p.f n).toNat, by have := h.ok.f0 n; omega⟩
  have hfl : f <= es.length := by rw [hlen]; have := h.ok.fle n; omega
  have HM := Hi (show p.missing n = p.l.drop f by unfold Quo.Pr.missing; rw [if_pos hm, hf]; rfl)
  rw [hf] at hlk
  have hsl := zig (P := Tryz.prog) (w := w) Tryz.underlying61 (by kernel_rfl : (Tryz.prog.info? 84).map (·.size) = some 6) (a := a) (n := es.length) (cap := c) f hfl .i64
  obtain ⟨v, hv⟩ : ∃ v : Value, .slice (if c = f then a else a.map (·.add (f * 6))) (es.length - f) (c - f) = v := ⟨_, rfl⟩
  have hsn := SlN.from (SlN.ofOwn h.at'.row) f hfl (by omega)
  rw [hv] at hsl hsn
  rw [zi3] at hsn
  have hb := h.bounds
  have hdl : (es.drop f).length = es.length - f := List.length_drop
  have HOW := Hi (zem v (es.drop f) w (by rw [hdl]; exact hsn) (fun q hq => h.at'.ints q (List.mem_of_mem_drop hq)) (by omega) (fun q hq => by have := hb.2 q (List.mem_of_mem_drop hq); omega))
  have HE := Hi (show (es.drop f).map (·.2) = p.l.drop f by rw [List.map_drop, h.at'.ents])
  clear h hlen hm hf hfl hv hsn hb hdl
  go_enter Tryz.func19, Tryz.ntmps19
  go_wp2_with fail
  refine HOW.out.mono ?_
  rintro e w1 ⟨u, qs, rfl, hE, hrow, hqs, hq⟩
  have HR := Hi (show zr7 w (p.missing n) (.returned u) w1 from ⟨u, qs, rfl, hE, hrow, by rw [hqs, HE.out, HM.out], hq⟩)
  clear hE hrow hqs hq
  go_wp2_with fail
  go_ret
  exact HR.out
namespace Quo
theorem zif {xs ys : List Int} (h : xs.Perm ys) (n : Int) : Vec.many xs n = Vec.many ys n := by
 unfold Vec.many
 exact h.countP_eq _
theorem committed_perm {p : Pr} (h : p.Ok) {xs : List Int} (hp : xs.Perm (p.c.seqs.map p.f)) : Vec.quorumNum xs (Term.majority p.c) = p.committed := by
 have hm := maj_in h.right
 have hl : xs.length = p.c.seqs.length := by rw [hp.length_eq, List.length_map]
 have h1 : Vec.IsQuorum xs (Term.majority p.c) (Vec.quorumNum xs (Term.majority p.c)) := Vec.quorum_is (fun x hx => by
  obtain ⟨y, _, rfl⟩ := List.mem_map.1 (hp.mem_iff.1 hx)
  exact h.f0 y) (by omega) (by rw [hl]; omega)
 have h2 := zdj h
 refine Vec.quorum_unique h1 ⟨h2.1, ?_, fun n hn => ?_⟩
 . rw [zif hp]; exact h2.2.1
 . rw [zif hp]; exact h2.2.2 n hn
end Quo
def zex (q : Value × Value) : Int := match q.2 with
 | .int _ k => k
 | _ => 0
theorem zib (l : List Int) (f : Int -> Int) : (za4 l f).map zex = l.map f := by
 unfold za4
 rw [List.map_map]
 rfl
theorem zs5 {p : Quo.Pr} (h : p.Ok) {xs : List Int} (hp : xs.Perm (p.c.seqs.map p.f)) : zd1 (xs.map fun n => [n]) (Term.majority p.c : Nat) = true /\ quor (xs.map fun n => [n]) (Term.majority p.c : Nat) = [p.committed] := by
 have hm := Quo.maj_in h.right
 have hl : xs.length = p.c.seqs.length := by rw [hp.length_eq, List.length_map]
 have hr : ∀ n ∈ xs, Vec.right [n] = true := fun n hn => by
  obtain ⟨y, _, rfl⟩ := List.mem_map.1 (hp.mem_iff.1 hn)
  have h0 := h.f0 y
  have h1 := h.fle y
  have h2 := h.max
  exact Vec.right_of (fun x hx => by rw [List.mem_singleton.1 hx]; omega) (by simp) (by simp)
 have hne : ∃ n ns, xs = n :: ns := by
  cases xs with
  | nil => simp at hl; omega
  | cons n ns => exact ⟨n, ns, rfl⟩
 obtain ⟨n, ns, hxs⟩ := hne
 have hf : zb5 (xs.map fun n => [n]) = [n] := by rw [hxs]; rfl
 constructor
 . unfold zd1
   rw [hf]
   simp only [Bool.and_eq_true, decide_eq_true_eq, List.length_map, List.all_eq_true]
   refine ⟨by omega, fun r hr' => ?_⟩
   obtain ⟨k, hk, rfl⟩ := List.mem_map.1 hr'
   exact Vec.kind_of (hr k hk) (hr n (by rw [hxs]; simp)) rfl
 . unfold quor zo7
   rw [hf]
   have hc : zbj (xs.map fun n => [n]) 0 = xs := by
    unfold zbj
    rw [List.map_map]
    have : ((fun r : List Int => r.getD 0 0) ∘ fun n : Int => [n]) = id := by funext n; rfl
    rw [this, List.map_id]
   show [Vec.quorumNum (zbj (xs.map fun n => [n]) 0) _] = _
   rw [hc, Quo.committed_perm h hp]
theorem OwnRR.notCells {w w' : World} {base r : Nat} {v : Value} {ls : List (List Int)} (h : OwnRR w base v ls) (hr : ∀ cs t fr, w.heap[r]? ≠ some (.cells cs t fr)) (hb : ∀ k, k < w.heap.size -> k ≠ r -> w'.heap[k]? = w.heap[k]?) : OwnRR w' base v ls := by
 obtain ⟨xs, h1, h2, h3⟩ := h
 have hk : ∀ {b size n : Nat} {e : TypeId} {u : Value} {ys : List Value}, w.ownsRow b e size u n ys -> w'.ownsRow b e size u n ys := fun ho => za1 ho fun g hg => by
  obtain ⟨cur, hc⟩ := ownAt ho hg
  exact hb g (ho.lt g hg).2 (fun e => hr _ _ _ (e ▸ hc))
 exact ⟨xs, hk h1, h2, fun i h h' => hk (h3 i h h')⟩
theorem zlb (w : World) (n : Int) : (w.alloc (.cells #[.int .i64 n] 3)).ownsRow w.heap.size 3 1 (.slice (some ⟨w.heap.size, 0, none⟩) 1 1) 1 [.int .i64 n] :=
 ⟨by simp, .inr ⟨_, 1, #[.int .i64 n], rfl, Nat.le_refl _, heap_alloc_new w _, Nat.le_refl _, by simp [maxLen], by simp, by simp⟩⟩
structure Com12 (w : World) (kb r : Nat) (m left : List (Value × Value)) (vals done : List Int) (o : Value) (wr : World) : Prop where
 ring : RangeB wr kb r m left
 ext : Ext w wr
 new : w.heap.size <= r
 row : OwnRR wr w.heap.size o (done.map fun n => [n])
 perm : (done ++ left.map zex).Perm vals
set_option maxHeartbeats 16000000 in
theorem zdg {w : World} {B x : Nat} {S K : Nat -> Prop} {p : Quo.Pr} (h : IsPr w B S K x p) :
 Calls Tryz.prog 15 #[.pointer (some ⟨x, 0, none⟩)] w fun e w' => e = .returned (.int .i64 p.committed) /\ Ext w w' := by
 obtain ⟨kb, ev, es, h⟩ := h
 have H := Hi h
 have c4 : w.cell? ⟨x, 4, none⟩ = some (.map (some kb)) := zaa h.at'.heap 4
 obtain ⟨w1, hrun, hR, hg, hs⟩ := h.at'.map.range Tryz.underlying92
 have hE1 : Ext w w1 := ⟨hg.os, hg.tape, hg.output, hg.size, fun k hk => hg.block k hk (by simp)⟩
 obtain ⟨r, hr⟩ : ∃ r, w.heap.size = r := ⟨_, rfl⟩
 have HS := Hi (show Com12 w kb r (za4 p.c.seqs p.f) (za4 p.c.seqs p.f) (p.c.seqs.map p.f) [] (.slice none 0 0) w1 from ⟨by rw [<- hr]; exact hR, hE1, by omega, OwnRR.nil _ _, by rw [zib]; exact List.Perm.refl _⟩)
 have hmx := Quo.maj_in h.ok.right
 have hsq := (Term.right_ok h.ok.right).2.2.2.1
 have HLN := Hi (show p.c.seqs.length <= 16 by omega)
 clear h hR hg hs hE1 hmx hsq
 go_enter Tryz.func15, Tryz.ntmps15
 go_wp2_with fail
 clear hrun c4 hr
 go_loopw [3] (fun o wr => ∃ (left : List (Value × Value)) (done : List Int), (∃ a n c, o = .slice a n c) /\ Hid (Com12 w kb r (za4 p.c.seqs p.f) left (p.c.seqs.map p.f) done o wr)) (fun _ wr => zeq wr kb r)
 case atStart => exact ⟨_, [], ⟨_, _, _, rfl⟩, HS⟩
 case round =>
  obtain ⟨left, done, ⟨oa, on, oc, rfl⟩, HI⟩ := hrel
  obtain ⟨wt, hwt⟩ : ∃ z, z = wr := ⟨_, rfl⟩
  subst hwt
  rcases HI.out.ring.next (P := Tryz.prog) 0 with ⟨rfl, hrun⟩ | ⟨l1, q, l2, w2, hl, hq, hrun, hR2, hg2, hs2, hent⟩
  . have hp := HI.out.perm
    simp only [List.map_nil, List.append_nil] at hp
    have hat := (H.out.ext HI.out.ext).at'
    have c2 : wt.cell? ⟨x, 2, none⟩ = some (.int .i64 (Term.majority p.c : Nat)) := zaa hat.heap 2
    obtain ⟨M, hM⟩ : ∃ M, Term.majority p.c = M := ⟨_, rfl⟩
    obtain ⟨q1, q2⟩ := zs5 H.out.ok hp
    have hlen : (done.map fun n => [n]).length <= 1000000 := by
     have h1 := hp.length_eq
     have h2 := HLN.out
     simp at h1 ⊢
     omega
    have HQ := Hi (zmv (.slice oa on oc) (done.map fun n => [n]) (Term.majority p.c : Nat) wt HI.out.row.rows hlen)
    rw [q1, q2, orNone_true] at HQ
    rw [hM] at HQ c2
    clear hp hat hM q1 q2 hlen
    go_wp2_with fail
    refine HQ.out.mono ?_
    rintro e w3 ⟨u, rfl, hu, hE3⟩
    obtain ⟨a3, c3, rfl, h1, h2, h3, hc⟩ := hu
    obtain ⟨b3, o3, rfl, hx⟩ := hc 0 (by simp)
    simp [i64s] at hx
    have HE3 := Hi (HI.out.ext.trans hE3)
    simp only [i64s, List.map_cons, List.map_nil, List.length_cons, List.length_nil, Nat.zero_add] at h1 ⊢
    clear hE3 h2 h3 hc
    go_wp2_with fail
    go_ret
    exact ⟨rfl, HE3.out⟩
  . obtain ⟨n, hn, rfl⟩ := List.mem_map.1 hq
    simp only at hrun hent
    have hri : ∀ cs t fr, wt.heap[r]? ≠ some (.cells cs t fr) := by
     obtain ⟨es', clock, since, seen, c0, e1, e2, _⟩ := HI.out.ring
     intro cs t fr e
     rw [e2] at e
     cases e
    have hbl : ∀ k, k < wt.heap.size -> k ≠ r -> w2.heap[k]? = wt.heap[k]? := fun k hk hne => hg2.block k hk (fun e => hne (by cases e; rfl))
    have hE2 : Ext w w2 := ⟨hg2.os.trans HI.out.ext.os, hg2.tape.trans HI.out.ext.tape, hg2.output.trans HI.out.ext.output, Nat.le_trans HI.out.ext.size hg2.size, fun k hk => (hbl k (Nat.lt_of_lt_of_le hk HI.out.ext.size) (by have := HI.out.new; omega)).trans (HI.out.ext.block k hk)⟩
    obtain ⟨xs, h1, h2, h3⟩ := HI.out.row.notCells hri hbl
    rw [List.length_map] at h1
    obtain ⟨fn, hfn⟩ : ∃ z, p.f n = z := ⟨_, rfl⟩
    have hlk := hR2.lt
    have HP := Hi (show (done ++ [fn] ++ (l1 ++ l2).map zex).Perm (p.c.seqs.map p.f) by
     have h0 := HI.out.perm
     rw [hl, List.map_append, List.map_cons] at h0
     have e1 : zex (Value.int .i64 n, Value.int .i64 (p.f n)) = fn := hfn
     rw [e1] at h0
     refine List.Perm.trans ?_ h0
     rw [List.map_append, List.append_assoc]
     exact List.Perm.append_left _ (show (fn :: (l1.map zex ++ l2.map zex)).Perm _ from List.perm_middle.symm))
    have HM := Hi (show zeq wt kb r = (l1 ++ l2).length + 1 by rw [HI.out.ring.count, hl]; simp; omega)
    have hE3 : Ext w2 (w2.alloc (.cells #[.int .i64 fn] 3)) := Ext.alloc _ _
    have hE4 : Ext (w2.alloc (.cells #[.int .i64 fn] 3)) ((w2.alloc (.cells #[.int .i64 fn] 3)).alloc (.cells #[.slice (some ⟨w2.heap.size, 0, none⟩) 1 1] 22)) := Ext.alloc _ _
    have H1 := Hi (za0 (za0 h1 hE3) hE4)
    have hsl := slOne (w2.alloc (.cells #[.int .i64 fn] 3)) (.slice (some ⟨w2.heap.size, 0, none⟩) 1 1) 22
    rw [World.size_alloc] at hsl
    have HSL := Hi hsl
    have HONE := Hi (zqt (x := .slice (some ⟨w2.heap.size, 0, none⟩) 1 1) ⟨_, _, _, rfl⟩)
    have hdn : done.length <= 16 := by
     have h0 := HI.out.perm.length_eq
     have h5 := HLN.out
     simp at h0
     omega
    have hk1 := Hi (show done.length + [Value.slice (some ⟨w2.heap.size, 0, none⟩) 1 1].length <= maxLen by simp [maxLen]; omega)
    have hk2 := Hi (show (done.length + [Value.slice (some ⟨w2.heap.size, 0, none⟩) 1 1].length) * 24 <= 140737488355328 by simp; omega)
    have hEw := Hi ((hE2.trans hE3).trans hE4)
    have HX := Hi (And.intro h2 (show ∀ i (h : i < xs.length) (h' : i < (done.map fun n => [n]).length), OwnI ((w2.alloc (.cells #[.int .i64 fn] 3)).alloc (.cells #[.slice (some ⟨w2.heap.size, 0, none⟩) 1 1] 22)) w.heap.size xs[i] (done.map fun n => [n])[i] from fun i h h' => ((h3 i h h').ext hE3).ext hE4))
    have HONX := Hi (show OwnI ((w2.alloc (.cells #[.int .i64 fn] 3)).alloc (.cells #[.slice (some ⟨w2.heap.size, 0, none⟩) 1 1] 22)) w.heap.size (.slice (some ⟨w2.heap.size, 0, none⟩) 1 1) [fn] from (OwnI.ext (show OwnI (w2.alloc (.cells #[.int .i64 fn] 3)) w2.heap.size (.slice (some ⟨w2.heap.size, 0, none⟩) 1 1) [fn] from zlb w2 fn) hE4).lower hE2.size)
    have HR4 := Hi (hR2.blocks ((hE4.block kb (Nat.lt_of_lt_of_le hlk.1 hE3.size)).trans (hE3.block kb hlk.1)) ((hE4.block r (Nat.lt_of_lt_of_le hlk.2.1 hE3.size)).trans (hE3.block r hlk.2.1)))
    rw [hfn] at hrun hent
    clear hq hn hl hri hbl hE2 h1 h2 h3 hfn hlk hE3 hE4 hsl hdn hR2 hg2 hs2
    go_wp2_with (at_builtin; refine zcg rfl (.tmp 17) (.tmp 20) tRow rfl rfl rfl H1.out HSL.out HONE.out hk1.out hk2.out hEw.out.size ?_; intro v9 w9 hown9 hg9)
    obtain ⟨a9, n9, c9, rfl⟩ := zao hown9
    have hne : ∀ (k : Nat), (∀ cs t fr, ((w2.alloc (.cells #[.int .i64 fn] 3)).alloc (.cells #[.slice (some ⟨w2.heap.size, 0, none⟩) 1 1] 22)).heap[k]? ≠ some (.cells cs t fr)) -> k < ((w2.alloc (.cells #[.int .i64 fn] 3)).alloc (.cells #[.slice (some ⟨w2.heap.size, 0, none⟩) 1 1] 22)).heap.size -> w9.heap[k]? = ((w2.alloc (.cells #[.int .i64 fn] 3)).alloc (.cells #[.slice (some ⟨w2.heap.size, 0, none⟩) 1 1] 22)).heap[k]? := fun k h1 h2 => hg9.block k h2 (fun e => by
     obtain ⟨cur, hc⟩ := ownAt H1.out e.symm
     exact h1 _ _ _ hc)
    have HR9 := Hi (show RangeB w9 kb r (za4 p.c.seqs p.f) (l1 ++ l2) from by
     obtain ⟨es', clock, since, seen, c0, e1, e2, _⟩ := id HR4.out
     exact HR4.out.blocks (hne kb (fun cs t fr e => by rw [e1] at e; cases e) HR4.out.lt.1) (hne r (fun cs t fr e => by rw [e2] at e; cases e) HR4.out.lt.2.1))
    have HM9 := Hi (HR9.out.count)
    have HC9 := Hi (show Com12 w kb r (za4 p.c.seqs p.f) (l1 ++ l2) (p.c.seqs.map p.f) (done ++ [fn]) (.slice a9 n9 c9) w9 from ⟨HR9.out, Below.grown hEw.out hg9 hEw.out.size (fun k hk => (H1.out.lt k hk).1), HI.out.new, by
     rw [List.map_append]
     exact OwnRR.snoc (ls := done.map fun n => [n]) (v := .slice oa on oc) (xs := xs) (by rw [List.length_map]; exact H1.out) HX.out.1 HX.out.2 HONX.out hg9 (by rw [List.length_map]; exact hown9), HP.out⟩)
    clear hown9 hg9 hne hrun hent
    go_wp2_with fail
    go_roundw
    case rel => exact ⟨l1 ++ l2, done ++ [fn], ⟨_, _, _, rfl⟩, HC9⟩
    case measure => rw [HM.out, HM9.out]; omega
set_option maxHeartbeats 8000000 in
theorem zjn {w : World} {B x q0 q1 : Nat} {S K : Nat -> Prop} {p : Quo.Pr} (h : IsPr w B S K x p) (v : Value) (ns : List Int) (h0 : w.heap[q0]? = some (.cells #[.pointer (some ⟨x, 0, none⟩)] 29 (0, 0))) (h1 : w.heap[q1]? = some (.cells #[v] 22 (0, 0))) (hv : Ints w v ns) :
 Calls Tryz.prog 57 #[.pointer (some ⟨q0, 0, none⟩), .pointer (some ⟨q1, 0, none⟩)] w fun e w' => e = .returned (.bool (p.mayCut p.z ns)) /\ Ext w w' := by
 obtain ⟨kb, ev, es, h⟩ := h
 obtain ⟨va, vn, vc, rfl⟩ := zan hv
 have hd := Ext.drew w
 have HENT := Hi ((h.at'.ext hd).entsAt)
 obtain ⟨a, c, rfl, _, _, _⟩ := h.at'.open
 have c0 : w.drew.cell? ⟨q0, 0, none⟩ = some (.pointer (some ⟨x, 0, none⟩)) := zaa (zad h0 hd) 0
 have c3 : w.drew.cell? ⟨x, 3, none⟩ = some (.slice a es.length c) := zaa (h.at'.ext hd).heap 3
 have c1 : w.drew.cell? ⟨x, 1, none⟩ = some (.int .i64 (p.c.shards.length : Nat)) := zaa (h.at'.ext hd).heap 1
 have HV := Hi (And.intro h1 hv)
 have HD := Hi hd
 clear h h0 h1 hv hd
 go_enter Tryz.func57, Tryz.ntmps57
 go_wp2_with fail
 go_still_tail 8, (by kernel_rfl)
 change wpList _ _ _ _ _ w.drew
 go_wp2_with fail
 refine (zp5 _ p.l (p.c.shards.length : Nat) w.drew HENT.out).mono ?_
 rintro e w2 ⟨u, rfl, hu, hE2⟩
 obtain ⟨ua, un, uc, rfl⟩ := zan hu
 have hz : Ent.lastOf p.l (zeros ((p.c.shards.length : Nat) : Int)) = p.last p.z := rfl
 rw [hz] at hu
 have HU := Hi hu
 have HE2 := Hi (HD.out.trans hE2)
 have k1 : w2.cell? ⟨q1, 0, none⟩ = some (.slice va vn vc) := zaa (zad HV.out.1 (HD.out.trans hE2)) 0
 clear hu hE2 hz c0 c1 c3
 go_wp2_with fail
 refine (ze3 _ _ ns (p.last p.z) w2 (HV.out.2.below HE2.out) HU.out).mono ?_
 rintro e w3 ⟨rfl, rfl⟩
 obtain ⟨b, hb⟩ : ∃ b, Vec.covers ns (p.last p.z) = b := ⟨_, rfl⟩
 have hmay : p.mayCut p.z ns = (b && !Vec.same ns (p.last p.z)) := by unfold Quo.Pr.mayCut; rw [hb]
 have HM := Hi hmay
 rw [hb]
 clear hmay hb
 cases b with
 | false =>
  go_wp2_with fail
  go_ret
  exact ⟨by rw [HM.out]; rfl, HE2.out⟩
 | true =>
  go_wp2_with fail
  refine (zq2 _ _ ns (p.last p.z) w2 (HV.out.2.below HE2.out) HU.out).mono ?_
  rintro e w4 ⟨rfl, hE4⟩
  obtain ⟨b2, hb2⟩ : ∃ b, Vec.same ns (p.last p.z) = b := ⟨_, rfl⟩
  rw [hb2] at HM ⊢
  have HE4 := Hi (HE2.out.trans hE4)
  clear hE4 hb2 k1
  go_wp2_with fail
  go_ret
  exact ⟨by rw [HM.out]; cases b2 <;> rfl, HE4.out⟩
end Go.Proofs.YtnoeconcpgdjlaaGreat
namespace Go.Proofs.YtnoeconcpgdjlaaGreat
set_option linter.unusedSimpArgs false
set_option linter.unusedVariables false
set_option maxRecDepth 100000
open Go.RowKit
def zab (t : Value) (e : Ent.E) : Array Value := #[.int .i64 e.number, .int .i64 e.kind, t, .int .i64 e.tag, .int .i64 e.term, .int .i64 e.pos]
def EAt12 (w : World) (q : Nat) (t : Value) (e : Ent.E) : Prop := w.heap[q]? = some (.cells (zab t e) 84 (0, 0))
section
variable {w w' : World} {q : Nat} {t : Value} {e : Ent.E}
theorem EAt12.lt (h : EAt12 w q t e) : q < w.heap.size := (Array.getElem?_eq_some_iff.1 h).1
theorem EAt12.ext (h : EAt12 w q t e) (hE : Ext w w') : EAt12 w' q t e := zad h hE
theorem EAt12.but {p : Nat} (h : EAt12 w q t e) (hb : But p w w') (hq : q ≠ p) : EAt12 w' q t e := (hb.block q h.lt hq).trans h
theorem EAt12.block (h : EAt12 w q t e) (hb : w'.heap[q]? = w.heap[q]?) : EAt12 w' q t e := hb.trans h
theorem EAt12.range (h : EAt12 w q t e) : w.rangeAt q 0 (zab t e).toList := fun j v hj => by
 rw [zaa h, <- Array.getElem?_toList]
 simpa using hj
theorem EAt12.ld (h : EAt12 w q t e) (ht : ∃ a n c, t = .slice a n c) : (Instr.loadAt 84 (.pointer (some ⟨q, 0, none⟩))).run Tryz.prog w = .ok (.agg (zab t e)) w := by
 obtain ⟨a, n, c, rfl⟩ := ht
 exact run_loadAt_mid w q 0 84 (zab (.slice a n c) e).toList _ h.range Tryz.underlying84 rfl (by kernel_rfl)
theorem EAt12.ldVar (h : EAt12 w q t e) (ht : ∃ a n c, t = .slice a n c) : (loadVar 84 ⟨q, 0, none⟩).run Tryz.prog w = .ok (.agg (zab t e)) w := by
 obtain ⟨a, n, c, rfl⟩ := ht
 exact run_loadVar_mid w q 0 84 (zab (.slice a n c) e).toList _ h.range Tryz.underlying84 rfl (by kernel_rfl)
theorem znw (h : EAt12 w q t e) : w.there q 0 6 := fun j hj => by
 refine ⟨?_, zac h _⟩
 rw [zaa h]
 have : 0 + j < (zab t e).size := by show _ < 6; omega
 rw [Array.getElem?_eq_getElem this]
 rfl
theorem EAt12.number (h : EAt12 w q t e) (n : Int) : EAt12 (w.setCell ⟨q, 0, none⟩ (.int .i64 n)) q t ⟨n, e.kind, e.cut, e.tag, e.term, e.pos⟩ := heap_setCell h 0 (.int .i64 n)
end
section
variable {ops : Array Oper} {rest : List Oper} {op : Oper} {a : Act} {w : World} {Q : Exit -> Act -> World -> Prop}
theorem zeh (hw : Region.wanted op (yielded ops a.tmps) = true) (ho : op.op = .alloc 84)
 (h : ∀ W b, Hid (EAt12 W b (.slice none 0 0) Msg.ent0) -> Hid (Ext w W) -> Hid (b = w.heap.size) -> wpList Tryz.prog ops Q rest (a.put op.dst (.pointer (some ⟨b, 0, none⟩))) W) : wpList Tryz.prog ops Q (op :: rest) a w :=
 BigFrame.wpList_want hw fun K hK => by
  have hr : (execOp a.eval op).run Tryz.prog w = .ok (.value (.pointer (some ⟨w.heap.size, 0, none⟩))) (w.alloc (.cells (zab (.slice none 0 0) Msg.ent0) 84)) := by
   unfold execOp
   simp only [ho]
   kernel_rfl
  unfold Oper.wp
  rw [hr]
  exact hK _ _ (h _ _ (Hi (heap_alloc_new w _)) (Hi (Ext.alloc _ _)) (Hi rfl))
theorem putE12 {q : Nat} {t t2 : Value} {e e2 : Ent.E} (hw : Region.wanted op (yielded ops a.tmps) = true) (x y : Operand) (ho : op.op = .store 84 x y)
 (hx : a.eval x = .pointer (some ⟨q, 0, none⟩)) (hy : a.eval y = .agg (zab t2 e2)) (hat : EAt12 w q t e) (h1 : ∃ a n c, t2 = .slice a n c)
 (h : ∀ W, Hid (EAt12 W q t2 e2) -> Hid (But q w W) -> wpList Tryz.prog ops Q rest (a.put op.dst undef) W) : wpList Tryz.prog ops Q (op :: rest) a w :=
 BigFrame.wpList_want hw fun K hK => by
  have hs : (Instr.storeAt 84 (.pointer (some ⟨q, 0, none⟩)) (.agg (zab t2 e2))).run Tryz.prog w = .ok () (w.setCells q 0 (zab t2 e2).toList) := by
   obtain ⟨_, _, _, rfl⟩ := h1
   exact run_storeAt_mid w q 0 84 _ (znw hat) (by kernel_rfl) (by simp [zab, Value.oneCell'])
  have k1 : EAt12 (w.setCells q 0 (zab t2 e2).toList) q t2 e2 := zda q _ (0, 0) (zab t2 e2).toList [] (zab t e).toList 0 w hat rfl rfl
  have k2 : But q w (w.setCells q 0 (zab t2 e2).toList) := zdo q _ _ _
  unfold Oper.wp execOp
  simp only [ho, hx, hy]
  rw [Sem.run_bind, hs]
  exact hK _ _ (h _ (Hi k1) (Hi k2))
theorem zd2 {P : Program} {t e : TypeId} {z : Value} {size bytes : Nat} (hgd : op.guard = none) (s x : Operand) (E : ElemN P t e z size bytes)
 (ho : op.op = .call { callee := .builtin .append, args := #[s, x], argTypes := #[t, t] }) {base : Nat} {v u : Value} {n m : Nat} {xs ys : List Value} (hs : a.eval s = v) (hx : a.eval x = u)
 (hown : w.ownsRow base e size v n xs) (hu : SlN size w u m ys) (hm : 0 < m) (h1 : ∀ y ∈ ys, y.oneCell' = true) (hsz : n + m <= maxLen) (hby : (n + m) * bytes <= 140737488355328) (hb : base <= w.heap.size)
 (h : ∀ v' w', w'.ownsRow base e size v' (n + m) (xs ++ ys) -> w.grownBy w' v.ownBlock -> (v'.ownBlock = v.ownBlock \/ v'.ownBlock = some w.heap.size) -> wpList P ops Q rest (a.put op.dst v') w') : wpList P ops Q (op :: rest) a w :=
 wpList_plain hgd fun _ hK => by
  obtain ⟨v', w', hr, h2, h3, h4⟩ := zec (P := P) (ty := op.type) E hown hu hm h1 hsz hby hb
  unfold Oper.wp execOp
  simp only [ho, resolve, invoke, builtin, Sem.run_bind, Sem.run_pure, Result.andThen_ok, List.map_toArray, List.map_cons, List.map_nil, hs, hx, hr]
  exact hK _ _ (h v' w' h2 h3 h4)
theorem zod {P : Program} {w' : World} (v : Value) {o : Op} (ho : op.op = o) (hw : Region.wanted op (yielded ops a.tmps) = true) (hr : (execOp a.eval op).run P w = .ok (.value v) w') (hk : wpList P ops Q rest (a.put op.dst v) w') : wpList P ops Q (op :: rest) a w :=
 BigFrame.wpList_want hw fun K hK => by
  unfold Oper.wp
  rw [hr]
  exact hK _ _ hk
end
end Go.Proofs.YtnoeconcpgdjlaaGreat
namespace Go.Proofs.YtnoeconcpgdjlaaGreat
set_option linter.unusedSimpArgs false
set_option linter.unusedVariables false
set_option maxRecDepth 100000
open Go.RowKit Go.ChangeMaps
theorem zkr (w : World) : (Instr.build 84 #[]).run Tryz.prog w = .ok (.agg (zab (.slice none 0 0) Msg.ent0)) w := by kernel_rfl
theorem zoa (w : World) (t : Value) (ht : ∃ a n c, t = .slice a n c) (e : Ent.E) : (Instr.box 84 (.agg (zab t e))).run Tryz.prog w = .ok (.pointer (some ⟨w.heap.size, 0, none⟩)) (w.alloc (.cells (zab t e) 84)) := by
 obtain ⟨a, n, c, rfl⟩ := ht
 kernel_rfl
theorem zm4 (t : Value) (e : Ent.E) : (zab t e ++ zab t e).toList = zah [(t, e), (t, e)] := rfl
theorem zoq (w : World) (t : Value) (e : Ent.E) (T : TypeId) : SlN 6 (w.alloc (.cells (zab t e ++ zab t e) T)) (.slice (some ⟨w.heap.size, 0, none⟩) 2 2) 2 (zah [(t, e), (t, e)]) := by
 refine ⟨_, 2, rfl, Nat.le_refl _, by simp [maxLen], fun e => by simp at e, rfl, fun j hj => ⟨w.heap.size, 0, rfl, ?_⟩⟩
 rw [Nat.zero_add, zaa (heap_alloc_new w (.cells (zab t e ++ zab t e) T)) j, <- Array.getElem?_toList, zm4]
 exact List.getElem?_eq_getElem hj
def zdc (B : Nat) (S K : Nat -> Prop) (x : Nat) (w : World) (p : Quo.Pr) (e0 : Ent.E) (err : Int) (e : Ending) (w' : World) : Prop := ∃ u, e = .returned (.tuple #[.agg (zab u e0), .int .i64 err]) /\ RowN w.heap.size w' u e0.cut /\ LeavesPr B S K x w p w'
set_option maxHeartbeats 40000000 in
theorem zmu {w : World} {B x : Nat} {S K : Nat -> Prop} {p : Quo.Pr} (h : IsPr w B S K x p) (E : Ent.E) (t : Value) (ht : Ints w t E.cut) (c0 c1 : Value) (b : Bool) (hfit : Quo.Fits p E b)
 (hmay : ∀ w', Ext w w' -> Calls Tryz.prog 57 #[c0, c1] w' fun e w'' => e = .returned (.bool b) /\ Ext w' w'') :
 Calls Tryz.prog 56 #[.pointer (some ⟨x, 0, none⟩), .agg (zab t E), .func (.func 57) #[] #[c0, c1]] w (zdc B S K x w (p.next E b) (p.made E b) (p.err E b)) := by
 obtain ⟨kb, ev, es, h⟩ := h
 obtain ⟨ta, tn, tc, rfl⟩ := zan ht
 have hbx := fun w => zoa w (.slice ta tn tc) ⟨_, _, _, rfl⟩ E
 have hb0 := zkr
 have H := Hi h
 have HT := Hi ht
 have HF := Hi hfit
 have HMAY := Hi hmay
 obtain ⟨wa, hwa⟩ : ∃ z, w.alloc (.cells (zab (.slice ta tn tc) E) 84) = z := ⟨_, rfl⟩
 obtain ⟨q, hq⟩ : ∃ z, w.heap.size = z := ⟨_, rfl⟩
 have hEa : Ext w wa := by rw [<- hwa]; exact Ext.alloc _ _
 have hqa : EAt12 wa q (.slice ta tn tc) E := by unfold EAt12; rw [<- hwa, <- hq]; exact heap_alloc_new _ _
 have HWA := Hi (And.intro hwa (And.intro hEa hqa))
 have HQ := Hi hq
 clear h ht hfit hmay hwa hq hEa hqa
 go_enter Tryz.func56, Tryz.ntmps56
 go_upto_region 1 with (refine zeh (by rfl) rfl ?_; intro W1 q1 hat1 hE1 hq1)
 have hE1' := hE1.out
 have hq1' := hq1.out
 have hat1' := hat1.out
 rw [HWA.out.1] at hE1' hq1'
 rw [HQ.out]
 have HE1 := Hi (HWA.out.2.1.trans hE1')
 have HQ1 := Hi (show q < q1 /\ w.heap.size <= q1 from ⟨by have := HWA.out.2.2.lt; omega, by have := HWA.out.2.1.size; omega⟩)
 have HA1 := Hi (And.intro (HWA.out.2.2.ext hE1') hat1')
 clear hbx hE1 hq1 hat1 hE1' hq1' hat1'
 go_wp2_with fail
 refine (zfh (H.out.ext HE1.out).at').mono ?_
 rintro e w1 ⟨rfl, rfl⟩
 obtain ⟨N, hN⟩ : ∃ N, p.l.length = N := ⟨_, rfl⟩
 rw [hN]
 have HN := Hi (And.intro hN (show N <= 512 by rw [<- hN]; exact H.out.ok.max))
 have hN9 : N <= 512 := HN.out.2
 have y0 := zaa HA1.out.1 0
 have z0 : W1.frozen? ⟨q, 0, none⟩ = false := zac HA1.out.1 0
 simp only [zab] at y0
 clear hN
 go_upto_region 2 with fail
 obtain ⟨W2, hW2⟩ : ∃ z, W1.setCell ⟨q, 0, none⟩ (.int .i64 ((N : Int) + 1)) = z := ⟨_, rfl⟩
 rw [hW2]
 have hB2 : But q W1 W2 := by rw [<- hW2]; exact za2 _ _ _ _
 have HA2 := Hi (show EAt12 W2 q (.slice ta tn tc) (p.at_ E) /\ EAt12 W2 q1 (.slice none 0 0) Msg.ent0 from ⟨by rw [<- hW2]; have := HA1.out.1.number ((N : Int) + 1); unfold Quo.Pr.at_; rw [HN.out.1]; exact this, HA1.out.2.but hB2 (by have := HQ1.out; omega)⟩)
 have HE2 := Hi (Ext.newQ11 HE1.out (Nat.le_of_eq HQ.out) hB2)
 have h2 := H.out.ext HE2.out
 have HP2 := Hi h2
 have x5 : W2.cell? ⟨x, 5, none⟩ = some (.bool p.is) := zaa h2.at'.heap 5
 clear hW2 hB2 h2 y0 z0
 cases his : p.is with
 | true =>
  rw [his] at x5
  have HIS := Hi his
  clear his
  go_wp2_with (refine putE12 (t2 := .slice none 0 0) (e2 := Msg.ent0) (by rfl) _ _ rfl rfl rfl HA2.out.2 ⟨_, _, _, rfl⟩ ?_; intro W3 hat3 hB3)
  have hld := hat3.out.ldVar ⟨_, _, _, rfl⟩
  refine bodyPost_ret (v := .tuple #[.agg (zab (.slice none 0 0) Msg.ent0), .int .i64 120]) (by simp [results, Tryz.results56, hld, asAddr, Act.put]) rfl ?_
  have herr : p.err E b = 120 := by unfold Quo.Pr.err; rw [if_pos HIS.out]
  unfold Quo.Pr.made Quo.Pr.next
  rw [herr, if_neg (by omega), if_neg (by omega)]
  exact ⟨_, rfl, RowN.nil _ _, LeavesPr.refl ⟨_, _, _, H.out⟩ (Ext.newQ11 HE2.out HQ1.out.2 hB3.out)⟩
 | false =>
  rw [his] at x5
  have HIS := Hi his
  clear his
  have hle := HA2.out.1.ld ⟨_, _, _, rfl⟩
  have HRT := Hi (zbg (.agg (zab (.slice ta tn tc) (p.at_ E))) (p.at_ E) W2 ⟨_, rfl, HT.out.below HE2.out⟩)
  go_wp2_with (refine ldAny (by rfl) _ rfl rfl hle ?_)
  refine HRT.out.mono ?_
  rintro e w3 ⟨rfl, hE3⟩
  have HA3 := Hi (And.intro (HA2.out.1.ext hE3) (HA2.out.2.ext hE3))
  have HE3 := Hi (HE2.out.trans hE3)
  clear hE3 hle x5
  have hbad : ∀ W3, (Ent.right (p.at_ E) = false \/ b = false) -> EAt12 W3 q1 (.slice none 0 0) Msg.ent0 -> Ext w W3 -> zdc B S K x w (p.next E b) (p.made E b) (p.err E b) (.returned (.tuple #[.agg (zab (.slice none 0 0) Msg.ent0), .int .i64 1])) W3 := fun W3 hc _ hE => by
   have herr : p.err E b = 1 := by unfold Quo.Pr.err; rw [if_neg (by rw [HIS.out]; simp), if_pos hc]
   unfold Quo.Pr.made Quo.Pr.next
   rw [herr, if_neg (by omega), if_neg (by omega)]
   exact ⟨_, rfl, RowN.nil _ _, LeavesPr.refl ⟨_, _, _, H.out⟩ hE⟩
  have HBAD := Hi hbad
  clear hbad
  cases hrt : Ent.right (p.at_ E) with
  | false =>
   have HR := Hi hrt
   clear hrt
   go_wp2_with (refine putE12 (t2 := .slice none 0 0) (e2 := Msg.ent0) (by rfl) _ _ rfl rfl rfl HA3.out.2 ⟨_, _, _, rfl⟩ ?_; intro W4 hat4 hB4)
   have hld := hat4.out.ldVar ⟨_, _, _, rfl⟩
   exact bodyPost_ret (v := .tuple #[.agg (zab (.slice none 0 0) Msg.ent0), .int .i64 1]) (by simp [results, Tryz.results56, hld, asAddr, Act.put]) rfl (HBAD.out W4 (.inl HR.out) hat4.out (Ext.newQ11 HE3.out HQ1.out.2 hB4.out))
  | true =>
   have HR := Hi hrt
   clear hrt
   go_wp2_with fail
   refine (HMAY.out w3 HE3.out).mono ?_
   rintro e w4 ⟨rfl, hE4⟩
   have HA4 := Hi (And.intro (HA3.out.1.ext hE4) (HA3.out.2.ext hE4))
   have HE4 := Hi (HE3.out.trans hE4)
   clear hE4
   cases b with
   | false =>
    go_wp2_with (refine putE12 (t2 := .slice none 0 0) (e2 := Msg.ent0) (by rfl) _ _ rfl rfl rfl HA4.out.2 ⟨_, _, _, rfl⟩ ?_; intro W5 hat5 hB5)
    have hld := hat5.out.ldVar ⟨_, _, _, rfl⟩
    exact bodyPost_ret (v := .tuple #[.agg (zab (.slice none 0 0) Msg.ent0), .int .i64 1]) (by simp [results, Tryz.results56, hld, asAddr, Act.put]) rfl (HBAD.out W5 (.inr (by simp)) hat5.out (Ext.newQ11 HE4.out HQ1.out.2 hB5.out))
   | true =>
    go_wp2_with fail
    refine (zfh (H.out.ext HE4.out).at').mono ?_
    rintro e w5 ⟨rfl, rfl⟩
    rw [HN.out.1]
    by_cases h512 : N = 512
    case pos =>
     have h512i : (N : Int) = 512 := by omega
     go_wp2_with (refine putE12 (t2 := .slice none 0 0) (e2 := Msg.ent0) (by rfl) _ _ rfl rfl rfl HA4.out.2 ⟨_, _, _, rfl⟩ ?_; intro W5 hat5 hB5)
     have hld := hat5.out.ldVar ⟨_, _, _, rfl⟩
     refine bodyPost_ret (v := .tuple #[.agg (zab (.slice none 0 0) Msg.ent0), .int .i64 121]) (by simp [results, Tryz.results56, hld, asAddr, Act.put]) rfl ?_
     have herr : p.err E true = 121 := by
      unfold Quo.Pr.err
      rw [if_neg (by rw [HIS.out]; simp), if_neg (by rw [HR.out]; simp), if_pos (by rw [HN.out.1]; exact h512)]
     unfold Quo.Pr.made Quo.Pr.next
     rw [herr, if_neg (by omega), if_neg (by omega)]
     exact ⟨_, rfl, RowN.nil _ _, LeavesPr.refl ⟨_, _, _, H.out⟩ (Ext.newQ11 HE4.out HQ1.out.2 hB5.out)⟩
    case neg =>
     have h512i : ¬ (N : Int) = 512 := by omega
     have HERR := Hi (show p.err E true = 0 by
      unfold Quo.Pr.err
      rw [if_neg (by rw [HIS.out]; simp), if_neg (by rw [HR.out]; simp), if_neg (by rw [HN.out.1]; exact h512)])
     have hle := HA4.out.1.ld ⟨_, _, _, rfl⟩
     have hE5 : Ext w4 (w4.alloc (.cells (zab (.slice ta tn tc) (p.at_ E) ++ zab (.slice ta tn tc) (p.at_ E)) 84)) := Ext.alloc _ _
     have HSL := Hi (zoq w4 (.slice ta tn tc) (p.at_ E) 84)
     go_wp2_with (first
      | (refine ldAny (by rfl) _ rfl rfl hle ?_)
      | (refine zod (.slice (some ⟨w4.heap.size, 0, none⟩) 2 2) (o := .buildSlice 61 _ _) rfl (by kernel_rfl) (w' := w4.alloc (.cells (zab (.slice ta tn tc) (p.at_ E) ++ zab (.slice ta tn tc) (p.at_ E)) 84)) (by kernel_rfl) ?_))
     have HE5 := Hi (HE4.out.trans hE5)
     have HA5 := Hi (And.intro (HA4.out.1.ext hE5) (HA4.out.2.ext hE5))
     obtain ⟨W5, hW5⟩ : ∃ z, w4.alloc (.cells (zab (.slice ta tn tc) (p.at_ E) ++ zab (.slice ta tn tc) (p.at_ E)) 84) = z := ⟨_, rfl⟩
     rw [hW5] at HSL HE5 HA5
     rw [hW5]
     have hcl : (p.at_ E).cut.length <= 8 := by
      rcases (Ent.right_ok HR.out).2 with ⟨_, hv, _⟩ | ⟨_, hv, _⟩
      . exact (Vec.right_ok hv).2.2
      . rw [hv]; simp
     clear hW5 hE5 hle h512i
     refine (zem _ [(.slice ta tn tc, p.at_ E), (.slice ta tn tc, p.at_ E)] W5 HSL.out (fun q hq => by
      have : q = (.slice ta tn tc, p.at_ E) := by simpa using hq
      rw [this]
      exact HT.out.below HE5.out) (by simp) (fun q hq => by
      have : q = (.slice ta tn tc, p.at_ E) := by simpa using hq
      rw [this]
      exact Nat.le_trans hcl (by omega))).mono ?_
     rintro e w6 ⟨u, qs, rfl, hE6, hrow, hqs, hq⟩
     obtain ⟨⟨t0, e0⟩, ⟨t1, e1⟩, rfl⟩ : ∃ a b, qs = [a, b] := by
      have hl := congrArg List.length hqs
      match qs, hl with
      | [a, b], _ => exact ⟨a, b, rfl⟩
     simp only [List.map_cons, List.map_nil, List.cons.injEq, and_true] at hqs
     obtain ⟨rfl, rfl⟩ := hqs
     have hr0 := hq (t0, p.at_ E) (by simp)
     have hr1 := hq (t1, p.at_ E) (by simp)
     obtain ⟨g, cg, rfl⟩ : ∃ g c, u = .slice (some ⟨g, 0, none⟩) 2 c := by
      rcases hrow.2 with ⟨_, e2⟩ | ⟨g, cap, cur, e, _⟩
      . exact absurd e2 (by simp)
      . exact ⟨g, cap, e⟩
     obtain ⟨ta0, tn0, tc0, rfl⟩ := zan hr0.row.ints
     obtain ⟨ta1, tn1, tc1, rfl⟩ := zan hr1.row.ints
     have HE6 := Hi (HE5.out.trans hE6)
     have HA6 := Hi (HA5.out.2.ext hE6)
     have HR01 := Hi (And.intro (hr0.lower HE5.out.size) (hr1.lower HE5.out.size))
     have HROW := Hi hrow
     have HG := Hi (show w.heap.size <= g /\ g < w6.heap.size /\ g ≠ q1 from ⟨Nat.le_trans HE5.out.size (hrow.lt g rfl).1, (hrow.lt g rfl).2, fun e => by have := HA5.out.2.lt; have := (hrow.lt g rfl).1; omega⟩)
     clear hE6 hrow hq hr0 hr1 hcl
     have hd := Ext.drew w6
     have hP6 := H.out.ext (HE6.out.trans hd)
     obtain ⟨ea, ec, hev, hec, hem, _⟩ := H.out.at'.open
     have hlen : es.length = N := by rw [H.out.lenR]; exact HN.out.1
     rw [hlen] at hev hec
     subst hev
     have x3 : w6.cell? ⟨x, 3, none⟩ = some (.slice ea N ec) := zaa (H.out.ext HE6.out).at'.heap 3
     have hgc : ∀ j, j < 12 -> w6.cell? ⟨g, j, none⟩ = (zah [(.slice ta0 tn0 tc0, p.at_ E), (.slice ta1 tn1 tc1, p.at_ E)])[j]? := fun j hj => by
      have h1 := HROW.out.cellAt j (by omega)
      exact h1
     have m0 : w6.cell? ⟨g, 0, none⟩ = some (.int .i64 (p.at_ E).number) := hgc 0 (by omega)
     have m1 : w6.cell? ⟨g, 1, none⟩ = some (.int .i64 (p.at_ E).kind) := hgc 1 (by omega)
     have m2 : w6.cell? ⟨g, 2, none⟩ = some (.slice ta0 tn0 tc0) := hgc 2 (by omega)
     have m3 : w6.cell? ⟨g, 3, none⟩ = some (.int .i64 (p.at_ E).tag) := hgc 3 (by omega)
     have m4 : w6.cell? ⟨g, 4, none⟩ = some (.int .i64 (p.at_ E).term) := hgc 4 (by omega)
     have m5 : w6.cell? ⟨g, 5, none⟩ = some (.int .i64 (p.at_ E).pos) := hgc 5 (by omega)
     obtain ⟨W6, hW6⟩ : ∃ z, w6.drew = z := ⟨_, rfl⟩
     have hcg2 : 2 <= cg := by
      rcases HROW.out.2 with ⟨e, _⟩ | ⟨g', cap, cur, e, _, _, h1, _⟩
      . cases e
      . cases e; exact h1
     have HD := Hi (And.intro hW6 (And.intro hP6 (And.intro hd hgc)))
     have HLEN := Hi hlen
     clear hd hP6 hgc hW6 hlen hem
     go_upto_region 9 with fail
     have hsz : w6.drew.heap.size = w6.heap.size := rfl
     have hE7 : Ext w6 (w6.drew.alloc (.cells (zab (.slice ta0 tn0 tc0) (p.at_ E)) 84)) := HD.out.2.2.1.trans (Ext.alloc _ _)
     have hE8a : Ext w6 (w6.alloc (.cells (zab (.slice ta0 tn0 tc0) (p.at_ E)) 84)) := Ext.alloc _ _
     have hE8 : Ext w6 (w6.alloc (.cells (zab (.slice ta0 tn0 tc0) (p.at_ E)) 84)).drew := hE8a.trans (Ext.drew _)
     have h6 := H.out.ext HE6.out
     have HP7 := Hi (h6.ext hE7)
     have HP8 := Hi (h6.ext hE8)
     have hs7 := SlN.one6 (T := 84) w6.drew (.slice ta0 tn0 tc0) (p.at_ E)
     rw [hsz] at hs7
     have HS7 := Hi hs7
     have HS8 := Hi ((SlN.one6 (T := 84) w6 (.slice ta0 tn0 tc0) (p.at_ E)).below (Ext.drew _))
     have hrow7 := HP7.out.at'.row
     have hrow8 := HP8.out.at'.row
     rw [HLEN.out] at hrow7 hrow8
     have HR7 := Hi hrow7
     have HR8 := Hi hrow8
     have HE7 := Hi hE7
     have HE8 := Hi hE8
     have hone := zb3 (w := w6) (ps := [(.slice ta0 tn0 tc0, p.at_ E)]) (by intro q hq; obtain rfl := List.mem_singleton.1 hq; exact HR01.out.1.row.ints)
     have HONE := Hi hone
     have HK1 := Hi (show N + 1 <= maxLen by unfold maxLen; omega)
     have HK2 := Hi (show (N + 1) * 64 <= 140737488355328 by omega)
     have x3a : (w6.alloc (.cells #[.int .i64 (p.at_ E).number, .int .i64 (p.at_ E).kind, .slice ta0 tn0 tc0, .int .i64 (p.at_ E).tag, .int .i64 (p.at_ E).term, .int .i64 (p.at_ E).pos] 84)).cell? ⟨x, 3, none⟩ = some (.slice ea N ec) := zaa (h6.ext hE8a).at'.heap 3
     clear hE7 hE8 hE8a hrow7 hrow8 hone hs7 hsz h6
     go_cut [8] (fun s8 wx => s8 = .slice (some ⟨g, 0, none⟩) 2 cg /\ ∃ a9 n9 c9 w9 w7, Hid (wx = w9.setCell ⟨x, 3, none⟩ (.slice a9 n9 c9) /\ (w9.ownsRow B 84 6 (.slice a9 n9 c9) (N + 1) (zah es ++ zah [(.slice ta0 tn0 tc0, p.at_ E)]) /\ World.grownBy w7 w9 (Value.slice ea N ec).ownBlock /\ ((Value.slice a9 n9 c9).ownBlock = (Value.slice ea N ec).ownBlock \/ (Value.slice a9 n9 c9).ownBlock = some w7.heap.size) /\ w9.heap[x]? = some (.cells #[.int .i64 p.c.term, .int .i64 (p.c.shards.length : Nat), .int .i64 (Term.majority p.c : Nat), .slice ea N ec, .map (some kb), .bool p.is] 94 (0, 0))) /\ Ext w6 w7))
     case first =>
      go_region_law (first
       | (rw [if_pos (by rfl)]; refine zdp (.tmp 42) (.tmp 46) tE rfl rfl rfl HR7.out HS7.out (by omega) HONE.out HK1.out HK2.out HP7.out.base ?_; intro v9 w9 hown9 hg9 hat9; obtain ⟨a9, n9, c9, rfl⟩ := zao hown9; have hx9 := (hg9.block x HP7.out.at'.lt (zaj HR7.out HP7.out.at'.heap (by decide))).trans HP7.out.at'.heap; have k3 : w9.cell? ⟨x, 3, none⟩ = some (.slice ea N ec) := zaa hx9 3; have z3 : w9.frozen? ⟨x, 3, none⟩ = false := zac hx9 3; have H9 := Hi (And.intro (And.intro hown9 (And.intro hg9 (And.intro hat9 hx9))) HE7.out); clear hown9 hg9 hat9 hx9)
       | (rw [if_pos (by rfl)]; refine zdp (.tmp 42) (.tmp 46) tE rfl rfl rfl HR8.out HS8.out (by omega) HONE.out HK1.out HK2.out HP8.out.base ?_; intro v9 w9 hown9 hg9 hat9; obtain ⟨a9, n9, c9, rfl⟩ := zao hown9; have hx9 := (hg9.block x HP8.out.at'.lt (zaj HR8.out HP8.out.at'.heap (by decide))).trans HP8.out.at'.heap; have k3 : w9.cell? ⟨x, 3, none⟩ = some (.slice ea N ec) := zaa hx9 3; have z3 : w9.frozen? ⟨x, 3, none⟩ = false := zac hx9 3; have H9 := Hi (And.intro (And.intro hown9 (And.intro hg9 (And.intro hat9 hx9))) HE8.out); clear hown9 hg9 hat9 hx9))
      all_goals
       go_wp2_with fail
       go_meet
       exact ⟨rfl, a9, n9, c9, w9, _, Hi ⟨rfl, H9.out⟩⟩
     case rest =>
      obtain ⟨rfl, a9, n9, c9, w9, w7, H9'⟩ := hcut
      obtain ⟨W10, hW10⟩ : ∃ z, z = wc := ⟨_, rfl⟩
      subst hW10
      have H9 := Hi H9'.out.2.1
      have H67 := Hi H9'.out.2.2
      have hW10 := H9'.out.1.symm
      have hB10 : But x w9 W10 := by rw [<- hW10]; exact za2 _ _ _ _
      have hx10 : W10.heap[x]? = some (.cells #[.int .i64 p.c.term, .int .i64 (p.c.shards.length : Nat), .int .i64 (Term.majority p.c : Nat), .slice a9 n9 c9, .map (some kb), .bool p.is] 94 (0, 0)) := by
       rw [<- hW10]
       exact heap_setCell H9.out.2.2.2 3 (.slice a9 n9 c9)
      have hxw : x < w.heap.size := H.out.at'.lt
      have hew : ∀ k, (Value.slice ea N ec).ownBlock = some k -> k < w.heap.size := fun k hk => (H.out.at'.row.lt k hk).2
      have hkp : ∀ k, k < w6.heap.size -> k ≠ x -> (Value.slice ea N ec).ownBlock ≠ some k -> W10.heap[k]? = w6.heap[k]? := fun k hk hne he => by
       have h67 := H67.out
       exact (hB10.block k (Nat.lt_of_lt_of_le hk (Nat.le_trans h67.size H9.out.2.1.size)) hne).trans ((H9.out.2.1.block k (Nat.lt_of_lt_of_le hk h67.size) (fun e => he e.symm)).trans (h67.block k hk))
      have HKP := Hi hkp
      have hg10 : W10.heap[g]? = w6.heap[g]? := hkp g HG.out.2.1 (by have := HG.out.1; omega) (fun e => by have := hew g e; have := HG.out.1; omega)
      have hq10 : EAt12 W10 q1 (.slice none 0 0) Msg.ent0 := HA6.out.block (hkp q1 HA6.out.lt (by have := HQ1.out.2; omega) (fun e => by have := hew q1 e; have := HQ1.out.2; omega))
      have hgc : ∀ j, j < 12 -> W10.cell? ⟨g, j, none⟩ = (zah [(.slice ta0 tn0 tc0, p.at_ E), (.slice ta1 tn1 tc1, p.at_ E)])[j]? := fun j hj => (World.cell?_of_block (w := w6) hg10).trans (HROW.out.cellAt j (by omega))
      have m6 : W10.cell? ⟨g, 6, none⟩ = some (.int .i64 (p.at_ E).number) := hgc 6 (by omega)
      have m7 : W10.cell? ⟨g, 7, none⟩ = some (.int .i64 (p.at_ E).kind) := hgc 7 (by omega)
      have m8 : W10.cell? ⟨g, 8, none⟩ = some (.slice ta1 tn1 tc1) := hgc 8 (by omega)
      have m9 : W10.cell? ⟨g, 9, none⟩ = some (.int .i64 (p.at_ E).tag) := hgc 9 (by omega)
      have m10 : W10.cell? ⟨g, 10, none⟩ = some (.int .i64 (p.at_ E).term) := hgc 10 (by omega)
      have m11 : W10.cell? ⟨g, 11, none⟩ = some (.int .i64 (p.at_ E).pos) := hgc 11 (by omega)
      have HQ10 := Hi hq10
      have HX10 := Hi (And.intro hx10 (And.intro hB10 (And.intro hxw hew)))
      clear H9' hW10 hB10 hx10 hxw hew hkp hg10 hq10 hgc x3 x3a m0 m1 m2 m3 m4 m5
      go_wp2_with (refine putE12 (t2 := .slice ta1 tn1 tc1) (e2 := p.at_ E) (by rfl) _ _ rfl rfl rfl HQ10.out ⟨_, _, _, rfl⟩ ?_; intro W11 hat11 hB11)
      have hld := hat11.out.ldVar ⟨_, _, _, rfl⟩
      refine bodyPost_ret (v := .tuple #[.agg (zab (.slice ta1 tn1 tc1) (p.at_ E)), .int .i64 0]) (by simp [results, Tryz.results56, hld, asAddr, Act.put]) rfl ?_
      have hne : p.next E true = ⟨p.c, p.l ++ [p.at_ E], p.f, p.is⟩ := by unfold Quo.Pr.next; rw [if_pos HERR.out]
      have hmade : p.made E true = p.at_ E := by unfold Quo.Pr.made; rw [if_pos HERR.out]
      have hxw := HX10.out.2.2.1
      have hew := HX10.out.2.2.2
      have hqw := HQ1.out.2
      have hq6 := HA6.out.lt
      have h67 := H67.out
      have hz10 : w6.heap.size <= W10.heap.size := Nat.le_trans h67.size (Nat.le_trans H9.out.2.1.size HX10.out.2.1.size)
      have hk11 : ∀ k, k < w6.heap.size -> k ≠ x -> (Value.slice ea N ec).ownBlock ≠ some k -> k ≠ q1 -> W11.heap[k]? = w6.heap[k]? := fun k hk h1 h2 h3 => (hB11.out.block k (Nat.lt_of_lt_of_le hk hz10) h3).trans (HKP.out k hk h1 h2)
      have hint : ∀ {v : Value} {l : List Int}, RowN w.heap.size w6 v l -> RowN w.heap.size W11 v l := fun {v l} hv => by
       have hlt := hv.lt
       refine hv.blocks fun k hk => hk11 k (hlt k hk).2 (by have := (hlt k hk).1; omega) (fun e => by have := hew k e; have := (hlt k hk).1; omega) (fun e => ?_)
       subst e
       obtain ⟨b0, n0, _, ho⟩ := hv
       obtain ⟨cur, hc⟩ := ownAt ho hk
       have := HA6.out
       unfold EAt12 at this
       rw [hc] at this
       injection this with this
       injection this with _ e _
       exact absurd e (by decide)
      have hold : ∀ k, k < w.heap.size -> ¬ S k -> W11.heap[k]? = w.heap[k]? := fun k hk hs => (hk11 k (Nat.lt_of_lt_of_le hk HE6.out.size) (fun e => hs (e ▸ H.out.sx)) (fun e => hs (H.out.sr e)) (by omega)).trans (HE6.out.block k hk)
      rw [hmade, HERR.out, hne]
      refine ⟨.slice ta1 tn1 tc1, rfl, hint HR01.out.2, own12 x kb (.slice a9 n9 c9), zr9 (es ++ [(.slice ta0 tn0 tc0, p.at_ E)]), ⟨kb, .slice a9 n9 c9, es ++ [(.slice ta0 tn0 tc0, p.at_ E)], H.out.x1, H.out.k1, fun _ => Iff.rfl, fun _ => Iff.rfl, ⟨?_, ?_, ?_, ?_, ?_⟩, ?_⟩, ?_, ?_, ?_⟩
      . exact (hB11.out.block x (Nat.lt_of_lt_of_le hxw (Nat.le_trans HE6.out.size hz10)) (by omega)).trans HX10.out.1
      . have hl : (es ++ [(Value.slice ta0 tn0 tc0, p.at_ E)]).length = N + 1 := by simp [HLEN.out]
        rw [hl, zbm]
        refine za1 H9.out.1 fun k hk => ?_
        obtain ⟨cur, hc⟩ := ownAt H9.out.1 hk
        have hkx : k ≠ x := fun e => by
         subst e
         rw [H9.out.2.2.2] at hc
         injection hc with hc
         injection hc with _ e _
         exact absurd e (by decide)
        have hkq : k ≠ q1 := fun e => by
         subst e
         rcases H9.out.2.2.1 with h | h
         . rw [h] at hk
           have := hew _ hk
           omega
         . rw [h] at hk
           injection hk with hk
           have := h67.size
           omega
        have hk9 := (Array.getElem?_eq_some_iff.1 hc).1
        exact (hB11.out.block k (Nat.lt_of_lt_of_le hk9 HX10.out.2.1.size) hkq).trans (HX10.out.2.1.block k hk9 hkx)
      . rw [List.map_append, H.out.at'.ents]
        rfl
      . intro q' hq'
        rcases List.mem_append.1 hq' with hq' | hq'
        . have hc := H.out.at'.cuts q' hq'
          refine hc.blocks fun k hk => hold k (hc.lt k hk).2 ?_
          obtain ⟨b0, n0, _, ho⟩ := hc
          obtain ⟨cur, hcc⟩ := ownAt ho hk
          exact H.out.ints hcc
        . rw [List.mem_singleton.1 hq']
          exact (hint HR01.out.1).lower H.out.base
      . refine H.out.at'.map.block ((hk11 kb (Nat.lt_of_lt_of_le H.out.at'.map.lt HE6.out.size) (fun e => ?_) (fun e => ?_) (by have := H.out.at'.map.lt; omega)).trans (HE6.out.block kb H.out.at'.map.lt))
        . subst e
          exact H.out.at'.map.no_cells H.out.at'.heap
        . obtain ⟨cur, hc⟩ := ownAt H.out.at'.row e
          exact H.out.at'.map.no_cells hc
      . have := H.out.ok.next HF.out
        rw [hne] at this
        exact this
      . exact ⟨hB11.out.os.trans (HX10.out.2.1.os.trans (H9.out.2.1.os.trans (h67.os.trans HE6.out.os))), hB11.out.tape.trans (HX10.out.2.1.tape.trans (H9.out.2.1.tape.trans (h67.tape.trans HE6.out.tape))), hB11.out.output.trans (HX10.out.2.1.output.trans (H9.out.2.1.output.trans (h67.output.trans HE6.out.output))), Nat.le_trans HE6.out.size (Nat.le_trans hz10 hB11.out.size), hold⟩
      . intro k hk hs
        rcases hs with rfl | rfl | e
        . exact H.out.sx
        . exact H.out.sk
        . rcases H9.out.2.2.1 with h | h
          . rw [h] at e
            exact H.out.sr e
          . rw [h] at e
            injection e with e
            have := h67.size
            have := HE6.out.size
            omega
      . intro k hk ⟨q', hq', hk'⟩
        rcases List.mem_append.1 hq' with hq' | hq'
        . exact (H.out.kk k).2 ⟨q', hq', hk'⟩
        . rw [List.mem_singleton.1 hq'] at hk'
          have := (HR01.out.1.lt k hk').1
          omega
theorem LeavesPr.fill {w w1 w2 w3 : World} {B x q : Nat} {S K : Nat -> Prop} {p : Quo.Pr} (h : LeavesPr B S K x w1 p w2) (hE : Ext w w1) (hq : w.heap.size <= q) (hq1 : q < w1.heap.size) (hS : ∀ k, S k -> k < w.heap.size) (hK : ∀ k, K k -> k < w.heap.size) (hb : But q w2 w3) : LeavesPr B S K x w p w3 := by
 obtain ⟨S', K', h1, h2, h3, h4⟩ := h
 refine ⟨S', K', h1.keep fun k hk hs => hb.block k hk (fun e => ?_), ((TwS.ext hE).trans h2).andThen (TwS.but (S := fun k => k = q) hb rfl) (fun i hi e => by omega), fun k hk => h3 k (Nat.lt_of_lt_of_le hk hE.size), fun k hk => h4 k (Nat.lt_of_lt_of_le hk hE.size)⟩
 subst e
 rcases hs with hs | hs
 . have := hS _ (h3 _ hq1 hs)
   omega
 . have := hK _ (h4 _ hq1 hs)
   omega
theorem zjz (w : World) (v : Value) (ns : List Int) (hv : ∃ a n c, v = .slice a n c) : (Instr.build 84 #[(1, .int .i64 1), (2, v)]).run Tryz.prog w = .ok (.agg (zab v (Quo.cutE ns))) w := by
 obtain ⟨a, n, c, rfl⟩ := hv
 kernel_rfl
theorem zos (w : World) (x : Nat) : (Instr.box 29 (.pointer (some ⟨x, 0, none⟩))).run Tryz.prog w = .ok (.pointer (some ⟨w.heap.size, 0, none⟩)) (w.alloc (.cells #[.pointer (some ⟨x, 0, none⟩)] 29)) := by kernel_rfl
theorem zmh (w : World) (v : Value) (hv : ∃ a n c, v = .slice a n c) : (Instr.box 22 v).run Tryz.prog w = .ok (.pointer (some ⟨w.heap.size, 0, none⟩)) (w.alloc (.cells #[v] 22)) := by
 obtain ⟨a, n, c, rfl⟩ := hv
 kernel_rfl
set_option maxHeartbeats 40000000 in
theorem zeo {w : World} {B x : Nat} {S K : Nat -> Prop} {p : Quo.Pr} (h : IsPr w B S K x p) (v : Value) (ns : List Int) (hv : Ints w v ns) :
 Calls Tryz.prog 28 #[.pointer (some ⟨x, 0, none⟩), v] w (zdc B S K x w (p.next (Quo.cutE ns) (p.mayCut p.z ns)) (p.made (Quo.cutE ns) (p.mayCut p.z ns)) (p.err (Quo.cutE ns) (p.mayCut p.z ns))) := by
 obtain ⟨va, vn, vc, rfl⟩ := zan hv
 have hbx := fun w => zos w x
 have hby := fun w => zmh w (.slice va vn vc) ⟨_, _, _, rfl⟩
 have hbc := fun w => zjz w (.slice va vn vc) ns ⟨_, _, _, rfl⟩
 have H := Hi h
 have HV := Hi hv
 obtain ⟨wa, hwa⟩ : ∃ z, (w.alloc (.cells #[.pointer (some ⟨x, 0, none⟩)] 29)).alloc (.cells #[.slice va vn vc] 22) = z := ⟨_, rfl⟩
 obtain ⟨q, hq⟩ : ∃ z, w.heap.size = z := ⟨_, rfl⟩
 have hEa : Ext w wa := by rw [<- hwa]; exact (Ext.alloc _ _).trans (Ext.alloc _ _)
 have hq0 : wa.heap[q]? = some (.cells #[.pointer (some ⟨x, 0, none⟩)] 29 (0, 0)) := by rw [<- hwa, <- hq]; exact zad (heap_alloc_new _ _) (Ext.alloc _ _)
 have hq1 : wa.heap[q + 1]? = some (.cells #[.slice va vn vc] 22 (0, 0)) := by rw [<- hwa, <- hq, show w.heap.size + 1 = (w.alloc (.cells #[.pointer (some ⟨x, 0, none⟩)] 29)).heap.size from (World.size_alloc _ _).symm]; exact heap_alloc_new _ _
 have HWA := Hi (And.intro hwa (And.intro hEa (And.intro hq0 hq1)))
 have HQ := Hi hq
 clear h hv hwa hq hEa hq0 hq1
 go_enter Tryz.func28, Tryz.ntmps28
 go_upto_region 1 with (refine zeh (by rfl) rfl ?_; intro W1 q4 hat1 hE1 hq4)
 have hE1' := hE1.out
 have hq4' := hq4.out
 have hat1' := hat1.out
 rw [HWA.out.1] at hE1' hq4'
 rw [HQ.out]
 have HE1 := Hi (HWA.out.2.1.trans hE1')
 have HA1 := Hi (And.intro (zad HWA.out.2.2.1 hE1') (And.intro (zad HWA.out.2.2.2 hE1') hat1'))
 have HQ4 := Hi (show w.heap.size <= q4 /\ q4 < W1.heap.size from ⟨by have := HWA.out.2.1.size; omega, hat1'.lt⟩)
 have y0 : W1.cell? ⟨q, 0, none⟩ = some (.pointer (some ⟨x, 0, none⟩)) := zaa HA1.out.1 0
 have y1 : W1.cell? ⟨q + 1, 0, none⟩ = some (.slice va vn vc) := zaa HA1.out.2.1 0
 clear hbx hby hE1 hq4 hat1 hE1' hq4' hat1'
 go_wp2_with fail
 have h1 := H.out.ext HE1.out
 refine (zmu h1 (Quo.cutE ns) (.slice va vn vc) (HV.out.below HE1.out) (.pointer (some ⟨q, 0, none⟩)) (.pointer (some ⟨q + 1, 0, none⟩)) (p.mayCut p.z ns) (Quo.fits_cut h1.ok p.z ns) (fun w' hE => zjn (h1.ext hE) (.slice va vn vc) ns (zad HA1.out.1 hE) (zad HA1.out.2.1 hE) (HV.out.below (HE1.out.trans hE)))).mono ?_
 rintro e w2 ⟨u, rfl, hu, hl⟩
 obtain ⟨ua, un, uc, rfl⟩ := zan hu.row.ints
 obtain ⟨em, hem⟩ : ∃ z, p.made (Quo.cutE ns) (p.mayCut p.z ns) = z := ⟨_, rfl⟩
 obtain ⟨er, her⟩ : ∃ z, p.err (Quo.cutE ns) (p.mayCut p.z ns) = z := ⟨_, rfl⟩
 rw [hem] at hu
 have HU := Hi hu
 have HL := Hi hl
 have HEM := Hi (And.intro hem her)
 rw [hem, her]
 have ha2 : EAt12 w2 q4 (.slice none 0 0) Msg.ent0 := by
  obtain ⟨S', K', _, ht, _⟩ := hl
  exact HA1.out.2.2.block (ht.block q4 HQ4.out.2 (fun hs => by have := (H.out.lt hs).2; have := HQ4.out.1; omega))
 have HA2 := Hi ha2
 clear h1 hu hl hem her ha2 y0 y1
 go_wp2_with (refine putE12 (t2 := .slice ua un uc) (e2 := em) (by rfl) _ _ rfl rfl rfl HA2.out ⟨_, _, _, rfl⟩ ?_; intro W3 hat3 hB3)
 have hld := hat3.out.ldVar ⟨_, _, _, rfl⟩
 refine bodyPost_ret (v := .tuple #[.agg (zab (.slice ua un uc) em), .int .i64 er]) (by simp [results, Tryz.results28, hld, asAddr, Act.put]) rfl ?_
 rw [HEM.out.1, HEM.out.2]
 exact ⟨_, rfl, (HU.out.blocks fun k hk => hB3.out.block k (HU.out.lt k hk).2 (by have := (HU.out.lt k hk).1; have := HQ4.out.2; omega)).lower HE1.out.size, HL.out.fill HE1.out HQ4.out.1 HQ4.out.2 (fun k hk => (H.out.lt hk).2) (fun k hk => (H.out.ltK hk).2) hB3.out⟩
theorem Quo.hears_not {p : Quo.Pr} {m : Msg.M} (h : ¬ (m.src ∈ p.c.seqs /\ (m.kind = 4 \/ m.kind = 6) /\ m.term = p.c.term /\ m.number <= (p.l.length : Int))) : p.hears m = false := by
 unfold Quo.Pr.hears
 rw [decide_eq_false h]
 rfl
theorem IsPrS.hear12 {w : World} {B x kb : Nat} {S K : Nat -> Prop} {ev : Value} {es : List (Value × Ent.E)} {p : Quo.Pr} (H : IsPrS w B S K x kb ev es p) (m : Msg.M) (hm : p.hears m = true) (o : Obj) (hmap : MapB Tryz.prog 3 (setBlock w kb o) kb (za4 p.c.seqs (Quo.upd p.f m.src m.number))) :
 (setBlock w kb o).heap[x]? = w.heap[x]? /\ IsPrS ((setBlock w kb o).setCell ⟨x, 5, none⟩ (.bool (p.is || m.is))) B S K x kb ev es (p.hear m) /\ TwS S w ((setBlock w kb o).setCell ⟨x, 5, none⟩ (.bool (p.is || m.is))) := by
 have hb1 := zfd w kb o
 have hb2 : But x (setBlock w kb o) ((setBlock w kb o).setCell ⟨x, 5, none⟩ (.bool (p.is || m.is))) := za2 _ _ _ _
 have hxk : x ≠ kb := fun e => by
  have := H.at'.map.no_cells (cs := _) (t := _) (fr := _) (by rw [<- e]; exact H.at'.heap)
  exact this
 have hx1 : (setBlock w kb o).heap[x]? = w.heap[x]? := hb1.block x H.at'.lt hxk
 have h2 : ∀ k, k < w.heap.size -> k ≠ kb -> k ≠ x -> ((setBlock w kb o).setCell ⟨x, 5, none⟩ (.bool (p.is || m.is))).heap[k]? = w.heap[k]? := fun k hk h1 h2 => (hb2.block k (Nat.lt_of_lt_of_le hk hb1.size) h2).trans (hb1.block k hk h1)
 have hh : p.hear m = ⟨p.c, p.l, Quo.upd p.f m.src m.number, p.is || m.is⟩ := by unfold Quo.Pr.hear; rw [if_pos hm]
 refine ⟨hx1, ⟨H.x1, H.k1, H.s, H.kk, ?_, H.ok.hear m⟩, (TwS.but hb1 H.sk).trans (TwS.but hb2 H.sx)⟩
 rw [hh]
 refine ⟨?_, za1 H.at'.row (fun k hk => ?_), H.at'.ents, fun q hq => (H.at'.cuts q hq).blocks (fun k hk => ?_), ?_⟩
 . have := heap_setCell (hx1.trans H.at'.heap) 5 (.bool (p.is || m.is))
   exact this
 . obtain ⟨cur, hc⟩ := ownAt H.at'.row hk
   refine h2 k (H.at'.row.lt k hk).2 (fun e => ?_) (fun e => ?_)
   . rw [e] at hc; exact H.at'.map.no_cells hc
   . rw [e, H.at'.heap] at hc
     injection hc with hc
     injection hc with _ e2 _
     exact absurd e2 (by decide)
 . obtain ⟨b, n, hbb, ho⟩ := H.at'.cuts q hq
   obtain ⟨cur, hc⟩ := ownAt ho hk
   refine h2 k (ho.lt k hk).2 (fun e => ?_) (fun e => ?_)
   . rw [e] at hc; exact H.at'.map.no_cells hc
   . rw [e, H.at'.heap] at hc
     injection hc with hc
     injection hc with _ e2 _
     exact absurd e2 (by decide)
 . exact hmap.block (hb2.block kb hmap.lt (fun e => hxk e.symm))
def zb8 (B : Nat) (S K : Nat -> Prop) (x : Nat) (w : World) (p : Quo.Pr) (b : Bool) (e : Ending) (w' : World) : Prop := e = .returned (.bool b) /\ LeavesPr B S K x w p w'
set_option maxHeartbeats 40000000 in
theorem zcm {w : World} {B x : Nat} {S K : Nat -> Prop} {p : Quo.Pr} (h : IsPr w B S K x p) (v : Value) (m : Msg.M) (hv : IsMsg w v m) (hsrc : Wf64 m.src) :
 Calls Tryz.prog 29 #[.pointer (some ⟨x, 0, none⟩), v] w (zb8 B S K x w (p.hear m) (p.hears m)) := by
 have hbx := zhi
 obtain ⟨kb, ev, es, h⟩ := h
 obtain ⟨a0, n0, k0, a1, n1, k1, a2, n2, k2, a3, n3, k3, rfl, h1, h2, h3, h4⟩ := hv.opened
 have H := Hi h
 have HV := Hi hv
 obtain ⟨W, hW⟩ : ∃ z, w.alloc (.cells (zag m (.slice a0 n0 k0) (.slice a1 n1 k1) (.slice a2 n2 k2) (.slice a3 n3 k3)) 89) = z := ⟨_, rfl⟩
 obtain ⟨q, hq⟩ : ∃ z, w.heap.size = z := ⟨_, rfl⟩
 have hE1 : Ext w W := by rw [<- hW]; exact Ext.alloc _ _
 have hat : MsgAt 89 W q m (.slice a0 n0 k0) (.slice a1 n1 k1) (.slice a2 n2 k2) (.slice a3 n3 k3) := by rw [<- hW, <- hq]; exact MsgAt.new _ _ _ _ _ _ _
 have HE1 := Hi hE1
 have HAT := Hi hat
 have HQ := Hi hq
 have HWW := Hi hW
 have hd := Ext.drew W
 have hP := h.ext (hE1.trans hd)
 obtain ⟨k, b, hlk, hcase⟩ := hP.at'.look hsrc
 have HCASE := Hi hcase
 have x4 : W.drew.cell? ⟨x, 4, none⟩ = some (.map (some kb)) := zaa hP.at'.heap 4
 have C1 : W.drew.cell? ⟨q, 1, none⟩ = some (.int .i64 m.src) := (hat.ext hd).head.2.1
 clear h hv h1 h2 h3 h4 hW hq hE1 hat hd hP hcase
 go_enter Tryz.func29, Tryz.ntmps29
 go_upto_region 1 with fail
 rw [HWW.out, HQ.out]
 clear hbx
 go_cut [5, 6] (fun s5 s6 wx => s5 = .int .i64 k /\ s6 = .bool b /\ Hid (Ext W wx))
 case first =>
  go_region
  all_goals
   go_wp2_with fail
   go_meet
   exact ⟨rfl, rfl, Hi (Ext.drew W)⟩
 case rest =>
  obtain ⟨rfl, rfl, HX⟩ := hcut
  obtain ⟨W2, hw2⟩ : ∃ z, z = wc := ⟨_, rfl⟩
  subst hw2
  have HAT2 := Hi (HAT.out.ext HX.out)
  have HE2 := Hi (HE1.out.trans HX.out)
  have C0 : W2.cell? ⟨q, 0, none⟩ = some (.int .i64 m.kind) := HAT2.out.head.1
  obtain ⟨kd, hkd⟩ : ∃ z, m.kind = z := ⟨_, rfl⟩
  rw [hkd] at C0
  have HKD := Hi hkd
  clear hkd hlk x4 C1
  go_upto_region 2 with fail
  go_cut [7] (fun s7 wx => s7 = .bool (decide (kd = 4 \/ kd = 6)) /\ wx = W2)
  case first =>
   by_cases k4 : kd = 4
   . subst k4
     go_wp2_with fail
     go_meet
     exact ⟨rfl, rfl⟩
   . by_cases k6 : kd = 6
     . subst k6
       go_wp2_with fail
       go_meet
       exact ⟨rfl, rfl⟩
     . have e4 : (kd == 4) = false := by simp [k4]
       have e6 : (kd == 6) = false := by simp [k6]
       go_wp2_with fail
       go_meet
       exact ⟨by simp [k4, k6], rfl⟩
  case rest =>
   obtain ⟨rfl, hw3⟩ := hcut
   obtain ⟨W3, hw3'⟩ : ∃ z, z = wc := ⟨_, rfl⟩
   subst hw3'
   subst hw3
   obtain ⟨a, ha⟩ : ∃ z : Bool, decide (kd = 4 \/ kd = 6) = z := ⟨_, rfl⟩
   rw [ha]
   have HA := Hi ha
   clear ha C0
   have hP2 := H.out.ext HE2.out
   have HP2 := Hi hP2
   have C3 : W3.cell? ⟨q, 3, none⟩ = some (.int .i64 m.term) := HAT2.out.head.2.2.2.1
   have C5 : W3.cell? ⟨q, 5, none⟩ = some (.int .i64 m.number) := HAT2.out.head.2.2.2.2.2.1
   have x0 : W3.cell? ⟨x, 0, none⟩ = some (.int .i64 p.c.term) := zaa hP2.at'.heap 0
   clear hP2
   have hat2 := HAT2.out
   have hEd := Ext.drew W3
   obtain ⟨N, hN⟩ : ∃ N, p.l.length = N := ⟨_, rfl⟩
   obtain ⟨tm, htm⟩ : ∃ z, m.term = z := ⟨_, rfl⟩
   obtain ⟨tp, htp⟩ : ∃ z, p.c.term = z := ⟨_, rfl⟩
   obtain ⟨nm, hnm⟩ : ∃ z, m.number = z := ⟨_, rfl⟩
   rw [htm] at C3
   rw [hnm] at C5
   rw [htp] at x0
   have HNM := Hi (And.intro hN (And.intro htm (And.intro htp hnm)))
   have HLEN := Hi (show ∀ w', Ext W3 w' -> Calls Tryz.prog 12 #[.pointer (some ⟨x, 0, none⟩)] w' fun e w'' => e = .returned (.int .i64 (N : Nat)) /\ w' = w'' from fun w' h => by
    have := zfh (HP2.out.ext h).at'
    rw [hN] at this
    exact this)
   have hld := run_loadAt_mid (P := Tryz.prog) W3.drew q 0 89 (zag m (.slice a0 n0 k0) (.slice a1 n1 k1) (.slice a2 n2 k2) (.slice a3 n3 k3)).toList _ (MsgAt.range (hat2.ext hEd)) Tryz.underlying89 rfl (by kernel_rfl)
   clear hat2 hEd hN htm htp hnm
   go_upto_region 3 with fail
   go_cut [52] (fun s52 wx => s52 = .bool (!p.hears m) /\ Hid (Ext W3 wx))
   case first =>
    cases b with
    | false =>
     have hno : p.hears m = false := Quo.hears_not fun e => by
      rcases HCASE.out with ⟨_, h, _⟩ | ⟨h, _⟩
      . cases h
      . exact h e.1
     have HNO := Hi hno
     clear hno hld
     go_region
     all_goals
      go_wp2_with fail
      go_meet
      exact ⟨by rw [HNO.out]; rfl, Hi (Ext.drew W3)⟩
    | true =>
     cases a with
     | false =>
      have hno : p.hears m = false := Quo.hears_not fun e => by
       have h1 := e.2.1
       rw [HKD.out] at h1
       have h2 := HA.out
       rw [decide_eq_true h1] at h2
       cases h2
      have HNO := Hi hno
      clear hno hld
      refine zat (by kernel_rfl) Ext (fun iop v w => match iop with
       | 0 => v = .bool true
       | 1 => v = .bool false
       | 2 => v = .bool false
       | 3 => v = .bool false
       | 4 => v = .bool true
       | 5 => v = .bool true
       | 6 => v = .bool true
       | 7 => v = undef
       | 8 => v = undef
       | 9 => v = undef
       | 10 => v = undef
       | 11 => v = undef
       | 12 => v = undef
       | 13 => v = undef
       | 14 => v = .bool true
       | 15 => v = .bool true
       | 16 => v = undef
       | 17 => v = undef
       | 18 => v = undef
       | 19 => v = undef
       | 20 => v = undef
       | 21 => v = .bool true
       | 22 => v = .bool true
       | 23 => v = undef
       | 24 => v = undef
       | 25 => v = undef
       | _ => v = .bool true
       ) (by kernel_rfl) (fun _ _ _ h k => Ext.trans h k) (fun a => Ext.refl a) (Ext.drew _) ?_ ?_ ?_
      . intro iop v wa wb hF hL
        iterate 26 (rcases iop with _ | iop; exact hF)
        exact hF
      . refine Obls.cons ?_ (Obls.cons ?_ (Obls.cons ?_ (Obls.cons ?_ (Obls.cons ?_ (Obls.cons ?_ (Obls.cons ?_ (Obls.cons ?_ (Obls.cons ?_ (Obls.cons ?_ (Obls.cons ?_ (Obls.cons ?_ (Obls.cons ?_ (Obls.cons ?_ (Obls.cons ?_ (Obls.cons ?_ (Obls.cons ?_ (Obls.cons ?_ (Obls.cons ?_ (Obls.cons ?_ (Obls.cons ?_ (Obls.cons ?_ (Obls.cons ?_ (Obls.cons ?_ (Obls.cons ?_ (Obls.cons ?_ (Obls.cons ?_ (Obls.nil)))))))))))))))))))))))))))
        . intro ev wy hp hl hk hd
          have e6 : ev _ = .bool true := hk 6 (by decide)
          exact Yield.mv rfl ⟨Ext.refl _, e6⟩
        . intro ev wy hp hl hk hd
          have e26 : ev _ = _ := hk 26 (by decide)
          exact Yield.oq (by simp [execOp, go_sem, e26])
        . intro ev wy hp hl hk hd
          have e27 : ev _ = _ := hk 27 (by decide)
          exact Yield.mv rfl ⟨Ext.refl _, e27⟩
        . intro ev wy hp hl hk hd
          have e7 : ev _ = .bool false := hk 7 (by decide)
          refine ⟨fun _ _ _ => ?_, fun _ hx hne => absurd hx hne⟩
          exact Yield.mv rfl ⟨Ext.refl _, e7⟩
        . intro ev wy hp hl hk hd
          have e29 : ev _ = _ := hk 29 (by decide)
          refine ⟨fun _ _ _ => ?_, fun _ hx hne => absurd hx hne⟩
          exact Yield.op (v := .bool true) (w' := wy) (by simp [execOp, go_sem, e29]) ⟨Ext.refl _, rfl⟩
        . intro ev wy hp hl hk hd
          have e28 : ev _ = _ := hk 28 (by decide)
          have e30 : ev _ = _ := hk 30 (by decide)
          exact Yield.pick (t := false) rfl e28 ⟨Ext.refl _, e30⟩
        . intro ev wy hp hl hk hd
          have e31 : ev _ = _ := hk 31 (by decide)
          exact Yield.mv rfl ⟨Ext.refl _, e31⟩
        . intro ev wy hp hl hk hd
          have e3 : ev _ = .pointer (some ⟨q, 0, none⟩) := hk 3 (by decide)
          exact ⟨fun x hx he => (by rw [show x = .bool true from hx] at he; cases he), fun _ _ _ => rfl⟩
        . intro ev wy hp hl hk hd
          have e33 : ev _ = _ := hk 33 (by decide)
          exact ⟨fun x hx he => (by rw [show x = .bool true from hx] at he; cases he), fun _ _ _ => rfl⟩
        . intro ev wy hp hl hk hd
          have e0 : ev _ = .pointer (some ⟨x, 0, none⟩) := hk 0 (by decide)
          exact ⟨fun x hx he => (by rw [show x = .bool true from hx] at he; cases he), fun _ _ _ => rfl⟩
        . intro ev wy hp hl hk hd
          have e35 : ev _ = _ := hk 35 (by decide)
          exact ⟨fun x hx he => (by rw [show x = .bool true from hx] at he; cases he), fun _ _ _ => rfl⟩
        . intro ev wy hp hl hk hd
          have e36 : ev _ = _ := hk 36 (by decide)
          exact ⟨fun x hx he => (by rw [show x = .bool true from hx] at he; cases he), fun _ _ _ => rfl⟩
        . intro ev wy hp hl hk hd
          have e37 : ev _ = _ := hk 37 (by decide)
          exact ⟨fun x hx he => (by rw [show x = .bool true from hx] at he; cases he), fun _ _ _ => rfl⟩
        . intro ev wy hp hl hk hd
          have e34 : ev _ = _ := hk 34 (by decide)
          have e38 : ev _ = _ := hk 38 (by decide)
          exact ⟨fun x hx he => (by rw [show x = .bool true from hx] at he; cases he), fun _ _ _ => rfl⟩
        . intro ev wy hp hl hk hd
          have e32 : ev _ = _ := hk 32 (by decide)
          have e39 : ev _ = _ := hk 39 (by decide)
          exact Yield.pick (t := true) rfl e32 ⟨Ext.refl _, hp.const _⟩
        . intro ev wy hp hl hk hd
          have e40 : ev _ = _ := hk 40 (by decide)
          exact Yield.mv rfl ⟨Ext.refl _, e40⟩
        . intro ev wy hp hl hk hd
          have e3 : ev _ = .pointer (some ⟨q, 0, none⟩) := hk 3 (by decide)
          exact ⟨fun x hx he => (by rw [show x = .bool true from hx] at he; cases he), fun _ _ _ => rfl⟩
        . intro ev wy hp hl hk hd
          have e42 : ev _ = _ := hk 42 (by decide)
          exact ⟨fun x hx he => (by rw [show x = .bool true from hx] at he; cases he), fun _ _ _ => rfl⟩
        . intro ev wy hp hl hk hd
          have e0 : ev _ = .pointer (some ⟨x, 0, none⟩) := hk 0 (by decide)
          exact ⟨fun x hx he => (by rw [show x = .bool true from hx] at he; cases he), fun _ _ _ => rfl⟩
        . intro ev wy hp hl hk hd
          have e44 : ev _ = _ := hk 44 (by decide)
          exact ⟨fun x hx he => (by rw [show x = .bool true from hx] at he; cases he), fun _ _ _ => rfl⟩
        . intro ev wy hp hl hk hd
          have e43 : ev _ = _ := hk 43 (by decide)
          have e45 : ev _ = _ := hk 45 (by decide)
          exact ⟨fun x hx he => (by rw [show x = .bool true from hx] at he; cases he), fun _ _ _ => rfl⟩
        . intro ev wy hp hl hk hd
          have e41 : ev _ = _ := hk 41 (by decide)
          have e46 : ev _ = _ := hk 46 (by decide)
          exact Yield.pick (t := true) rfl e41 ⟨Ext.refl _, hp.const _⟩
        . intro ev wy hp hl hk hd
          have e47 : ev _ = _ := hk 47 (by decide)
          exact Yield.mv rfl ⟨Ext.refl _, e47⟩
        . intro ev wy hp hl hk hd
          have e3 : ev _ = .pointer (some ⟨q, 0, none⟩) := hk 3 (by decide)
          exact ⟨fun x hx he => (by rw [show x = .bool true from hx] at he; cases he), fun _ _ _ => rfl⟩
        . intro ev wy hp hl hk hd
          have e49 : ev _ = _ := hk 49 (by decide)
          exact ⟨fun x hx he => (by rw [show x = .bool true from hx] at he; cases he), fun _ _ _ => rfl⟩
        . intro ev wy hp hl hk hd
          have e50 : ev _ = _ := hk 50 (by decide)
          exact ⟨fun x hx he => (by rw [show x = .bool true from hx] at he; cases he), fun _ _ _ => rfl⟩
        . intro ev wy hp hl hk hd
          have e48 : ev _ = _ := hk 48 (by decide)
          have e51 : ev _ = _ := hk 51 (by decide)
          exact Yield.pick (t := true) rfl e48 ⟨Ext.refl _, hp.const _⟩
      . intro vals wz hz hv
        have g26 : vals 0 = _ := hv 0 (by decide)
        have g27 : vals 1 = _ := hv 1 (by decide)
        have g28 : vals 2 = _ := hv 2 (by decide)
        have g29 : vals 3 = _ := hv 3 (by decide)
        have g30 : vals 4 = _ := hv 4 (by decide)
        have g31 : vals 5 = _ := hv 5 (by decide)
        have g32 : vals 6 = _ := hv 6 (by decide)
        have g33 : vals 7 = _ := hv 7 (by decide)
        have g34 : vals 8 = _ := hv 8 (by decide)
        have g35 : vals 9 = _ := hv 9 (by decide)
        have g36 : vals 10 = _ := hv 10 (by decide)
        have g37 : vals 11 = _ := hv 11 (by decide)
        have g38 : vals 12 = _ := hv 12 (by decide)
        have g39 : vals 13 = _ := hv 13 (by decide)
        have g40 : vals 14 = _ := hv 14 (by decide)
        have g41 : vals 15 = _ := hv 15 (by decide)
        have g42 : vals 16 = _ := hv 16 (by decide)
        have g43 : vals 17 = _ := hv 17 (by decide)
        have g44 : vals 18 = _ := hv 18 (by decide)
        have g45 : vals 19 = _ := hv 19 (by decide)
        have g46 : vals 20 = _ := hv 20 (by decide)
        have g47 : vals 21 = _ := hv 21 (by decide)
        have g48 : vals 22 = _ := hv 22 (by decide)
        have g49 : vals 23 = _ := hv 23 (by decide)
        have g50 : vals 24 = _ := hv 24 (by decide)
        have g51 : vals 25 = _ := hv 25 (by decide)
        have g52 : vals 26 = _ := hv 26 (by decide)
        clear hv
        simp only [zar, Act.put, List.setIfInBounds_toArray, List.set_cons_zero, List.set_cons_succ, g26, g27, g28, g29, g30, g31, g32, g33, g34, g35, g36, g37, g38, g39, g40, g41, g42, g43, g44, g45, g46, g47, g48, g49, g50, g51, g52]
        clear g26 g27 g28 g29 g30 g31 g32 g33 g34 g35 g36 g37 g38 g39 g40 g41 g42 g43 g44 g45 g46 g47 g48 g49 g50 g51 g52
        go_wp2_with fail
        go_meet
        exact ⟨by rw [HNO.out]; rfl, Hi hz⟩
     | true =>
      by_cases ht : tm = tp
      case neg =>
       have hno : p.hears m = false := Quo.hears_not fun e => ht (by rw [<- HNM.out.2.1, <- HNM.out.2.2.1]; exact e.2.2.1)
       have HNO := Hi hno
       clear hno hld
       refine zat (by kernel_rfl) Ext (fun iop v w => match iop with
        | 0 => v = .bool true
        | 1 => v = .bool false
        | 2 => v = .bool false
        | 3 => v = .bool true
        | 4 => v = .bool false
        | 5 => v = .bool false
        | 6 => v = .bool false
        | 7 => v = .pointer (some ⟨q, 3, none⟩)
        | 8 => v = .int .i64 tm
        | 9 => v = .pointer (some ⟨x, 0, none⟩)
        | 10 => v = .pointer (some ⟨x, 0, none⟩)
        | 11 => v = .pointer (some ⟨x, 0, none⟩)
        | 12 => v = .int .i64 tp
        | 13 => v = .bool true
        | 14 => v = .bool true
        | 15 => v = .bool true
        | 16 => v = undef
        | 17 => v = undef
        | 18 => v = undef
        | 19 => v = undef
        | 20 => v = undef
        | 21 => v = .bool true
        | 22 => v = .bool true
        | 23 => v = undef
        | 24 => v = undef
        | 25 => v = undef
        | _ => v = .bool true
        ) (by kernel_rfl) (fun _ _ _ h k => Ext.trans h k) (fun a => Ext.refl a) (Ext.drew _) ?_ ?_ ?_
       . intro iop v wa wb hF hL
         iterate 26 (rcases iop with _ | iop; exact hF)
         exact hF
       . refine Obls.cons ?_ (Obls.cons ?_ (Obls.cons ?_ (Obls.cons ?_ (Obls.cons ?_ (Obls.cons ?_ (Obls.cons ?_ (Obls.cons ?_ (Obls.cons ?_ (Obls.cons ?_ (Obls.cons ?_ (Obls.cons ?_ (Obls.cons ?_ (Obls.cons ?_ (Obls.cons ?_ (Obls.cons ?_ (Obls.cons ?_ (Obls.cons ?_ (Obls.cons ?_ (Obls.cons ?_ (Obls.cons ?_ (Obls.cons ?_ (Obls.cons ?_ (Obls.cons ?_ (Obls.cons ?_ (Obls.cons ?_ (Obls.cons ?_ (Obls.nil)))))))))))))))))))))))))))
         . intro ev wy hp hl hk hd
           have e6 : ev _ = .bool true := hk 6 (by decide)
           exact Yield.mv rfl ⟨Ext.refl _, e6⟩
         . intro ev wy hp hl hk hd
           have e26 : ev _ = _ := hk 26 (by decide)
           exact Yield.oq (by simp [execOp, go_sem, e26])
         . intro ev wy hp hl hk hd
           have e27 : ev _ = _ := hk 27 (by decide)
           exact Yield.mv rfl ⟨Ext.refl _, e27⟩
         . intro ev wy hp hl hk hd
           have e7 : ev _ = .bool true := hk 7 (by decide)
           refine ⟨fun _ _ _ => ?_, fun _ hx hne => absurd hx hne⟩
           exact Yield.mv rfl ⟨Ext.refl _, e7⟩
         . intro ev wy hp hl hk hd
           have e29 : ev _ = _ := hk 29 (by decide)
           refine ⟨fun _ _ _ => ?_, fun _ hx hne => absurd hx hne⟩
           exact Yield.op (v := .bool false) (w' := wy) (by simp [execOp, go_sem, e29]) ⟨Ext.refl _, rfl⟩
         . intro ev wy hp hl hk hd
           have e28 : ev _ = _ := hk 28 (by decide)
           have e30 : ev _ = _ := hk 30 (by decide)
           exact Yield.pick (t := false) rfl e28 ⟨Ext.refl _, e30⟩
         . intro ev wy hp hl hk hd
           have e31 : ev _ = _ := hk 31 (by decide)
           exact Yield.mv rfl ⟨Ext.refl _, e31⟩
         . intro ev wy hp hl hk hd
           have e3 : ev _ = .pointer (some ⟨q, 0, none⟩) := hk 3 (by decide)
           refine ⟨fun _ _ _ => ?_, fun _ hx hne => absurd hx hne⟩
           exact Yield.op (v := .pointer (some ⟨q, 3, none⟩)) (w' := wy) (by simp [execOp, go_sem, e3]) ⟨Ext.refl _, rfl⟩
         . intro ev wy hp hl hk hd
           have e33 : ev _ = _ := hk 33 (by decide)
           refine ⟨fun _ _ _ => ?_, fun _ hx hne => absurd hx hne⟩
           exact Yield.load rfl e33 (by simp [go_sem, zbh hl C3]) ⟨Ext.refl _, rfl⟩
         . intro ev wy hp hl hk hd
           have e0 : ev _ = .pointer (some ⟨x, 0, none⟩) := hk 0 (by decide)
           refine ⟨fun _ _ _ => ?_, fun _ hx hne => absurd hx hne⟩
           exact Yield.mv rfl ⟨Ext.refl _, e0⟩
         . intro ev wy hp hl hk hd
           have e35 : ev _ = _ := hk 35 (by decide)
           refine ⟨fun _ _ _ => ?_, fun _ hx hne => absurd hx hne⟩
           exact Yield.op (v := .pointer (some ⟨x, 0, none⟩)) (w' := wy) (by simp [execOp, go_sem, e35]) ⟨Ext.refl _, rfl⟩
         . intro ev wy hp hl hk hd
           have e36 : ev _ = _ := hk 36 (by decide)
           refine ⟨fun _ _ _ => ?_, fun _ hx hne => absurd hx hne⟩
           exact Yield.op (v := .pointer (some ⟨x, 0, none⟩)) (w' := wy) (by simp [execOp, go_sem, e36]) ⟨Ext.refl _, rfl⟩
         . intro ev wy hp hl hk hd
           have e37 : ev _ = _ := hk 37 (by decide)
           refine ⟨fun _ _ _ => ?_, fun _ hx hne => absurd hx hne⟩
           exact Yield.load rfl e37 (by simp [go_sem, zbh hl x0]) ⟨Ext.refl _, rfl⟩
         . intro ev wy hp hl hk hd
           have e34 : ev _ = _ := hk 34 (by decide)
           have e38 : ev _ = _ := hk 38 (by decide)
           refine ⟨fun _ _ _ => ?_, fun _ hx hne => absurd hx hne⟩
           exact Yield.op (v := .bool true) (w' := wy) (by simp [execOp, go_sem, e34, e38, ht]) ⟨Ext.refl _, rfl⟩
         . intro ev wy hp hl hk hd
           have e32 : ev _ = _ := hk 32 (by decide)
           have e39 : ev _ = _ := hk 39 (by decide)
           exact Yield.pick (t := false) rfl e32 ⟨Ext.refl _, e39⟩
         . intro ev wy hp hl hk hd
           have e40 : ev _ = _ := hk 40 (by decide)
           exact Yield.mv rfl ⟨Ext.refl _, e40⟩
         . intro ev wy hp hl hk hd
           have e3 : ev _ = .pointer (some ⟨q, 0, none⟩) := hk 3 (by decide)
           exact ⟨fun x hx he => (by rw [show x = .bool true from hx] at he; cases he), fun _ _ _ => rfl⟩
         . intro ev wy hp hl hk hd
           have e42 : ev _ = _ := hk 42 (by decide)
           exact ⟨fun x hx he => (by rw [show x = .bool true from hx] at he; cases he), fun _ _ _ => rfl⟩
         . intro ev wy hp hl hk hd
           have e0 : ev _ = .pointer (some ⟨x, 0, none⟩) := hk 0 (by decide)
           exact ⟨fun x hx he => (by rw [show x = .bool true from hx] at he; cases he), fun _ _ _ => rfl⟩
         . intro ev wy hp hl hk hd
           have e44 : ev _ = _ := hk 44 (by decide)
           exact ⟨fun x hx he => (by rw [show x = .bool true from hx] at he; cases he), fun _ _ _ => rfl⟩
         . intro ev wy hp hl hk hd
           have e43 : ev _ = _ := hk 43 (by decide)
           have e45 : ev _ = _ := hk 45 (by decide)
           exact ⟨fun x hx he => (by rw [show x = .bool true from hx] at he; cases he), fun _ _ _ => rfl⟩
         . intro ev wy hp hl hk hd
           have e41 : ev _ = _ := hk 41 (by decide)
           have e46 : ev _ = _ := hk 46 (by decide)
           exact Yield.pick (t := true) rfl e41 ⟨Ext.refl _, hp.const _⟩
         . intro ev wy hp hl hk hd
           have e47 : ev _ = _ := hk 47 (by decide)
           exact Yield.mv rfl ⟨Ext.refl _, e47⟩
         . intro ev wy hp hl hk hd
           have e3 : ev _ = .pointer (some ⟨q, 0, none⟩) := hk 3 (by decide)
           exact ⟨fun x hx he => (by rw [show x = .bool true from hx] at he; cases he), fun _ _ _ => rfl⟩
         . intro ev wy hp hl hk hd
           have e49 : ev _ = _ := hk 49 (by decide)
           exact ⟨fun x hx he => (by rw [show x = .bool true from hx] at he; cases he), fun _ _ _ => rfl⟩
         . intro ev wy hp hl hk hd
           have e50 : ev _ = _ := hk 50 (by decide)
           exact ⟨fun x hx he => (by rw [show x = .bool true from hx] at he; cases he), fun _ _ _ => rfl⟩
         . intro ev wy hp hl hk hd
           have e48 : ev _ = _ := hk 48 (by decide)
           have e51 : ev _ = _ := hk 51 (by decide)
           exact Yield.pick (t := true) rfl e48 ⟨Ext.refl _, hp.const _⟩
       . intro vals wz hz hv
         have g26 : vals 0 = _ := hv 0 (by decide)
         have g27 : vals 1 = _ := hv 1 (by decide)
         have g28 : vals 2 = _ := hv 2 (by decide)
         have g29 : vals 3 = _ := hv 3 (by decide)
         have g30 : vals 4 = _ := hv 4 (by decide)
         have g31 : vals 5 = _ := hv 5 (by decide)
         have g32 : vals 6 = _ := hv 6 (by decide)
         have g33 : vals 7 = _ := hv 7 (by decide)
         have g34 : vals 8 = _ := hv 8 (by decide)
         have g35 : vals 9 = _ := hv 9 (by decide)
         have g36 : vals 10 = _ := hv 10 (by decide)
         have g37 : vals 11 = _ := hv 11 (by decide)
         have g38 : vals 12 = _ := hv 12 (by decide)
         have g39 : vals 13 = _ := hv 13 (by decide)
         have g40 : vals 14 = _ := hv 14 (by decide)
         have g41 : vals 15 = _ := hv 15 (by decide)
         have g42 : vals 16 = _ := hv 16 (by decide)
         have g43 : vals 17 = _ := hv 17 (by decide)
         have g44 : vals 18 = _ := hv 18 (by decide)
         have g45 : vals 19 = _ := hv 19 (by decide)
         have g46 : vals 20 = _ := hv 20 (by decide)
         have g47 : vals 21 = _ := hv 21 (by decide)
         have g48 : vals 22 = _ := hv 22 (by decide)
         have g49 : vals 23 = _ := hv 23 (by decide)
         have g50 : vals 24 = _ := hv 24 (by decide)
         have g51 : vals 25 = _ := hv 25 (by decide)
         have g52 : vals 26 = _ := hv 26 (by decide)
         clear hv
         simp only [zar, Act.put, List.setIfInBounds_toArray, List.set_cons_zero, List.set_cons_succ, g26, g27, g28, g29, g30, g31, g32, g33, g34, g35, g36, g37, g38, g39, g40, g41, g42, g43, g44, g45, g46, g47, g48, g49, g50, g51, g52]
         clear g26 g27 g28 g29 g30 g31 g32 g33 g34 g35 g36 g37 g38 g39 g40 g41 g42 g43 g44 g45 g46 g47 g48 g49 g50 g51 g52
         go_wp2_with fail
         go_meet
         exact ⟨by rw [HNO.out]; rfl, Hi hz⟩
      case pos =>
       subst ht
       by_cases hn : nm <= (N : Int)
       case neg =>
        have hn2 : (N : Int) < nm := by omega
        have hno : p.hears m = false := Quo.hears_not fun e => hn (by rw [<- HNM.out.1, <- HNM.out.2.2.2]; exact e.2.2.2)
        have HNO := Hi hno
        clear hno hld
        refine zat (by kernel_rfl) Ext (fun iop v w => match iop with
         | 0 => v = .bool true
         | 1 => v = .bool false
         | 2 => v = .bool false
         | 3 => v = .bool true
         | 4 => v = .bool false
         | 5 => v = .bool false
         | 6 => v = .bool false
         | 7 => v = .pointer (some ⟨q, 3, none⟩)
         | 8 => v = .int .i64 tm
         | 9 => v = .pointer (some ⟨x, 0, none⟩)
         | 10 => v = .pointer (some ⟨x, 0, none⟩)
         | 11 => v = .pointer (some ⟨x, 0, none⟩)
         | 12 => v = .int .i64 tm
         | 13 => v = .bool false
         | 14 => v = .bool false
         | 15 => v = .bool false
         | 16 => v = .pointer (some ⟨q, 5, none⟩)
         | 17 => v = .int .i64 nm
         | 18 => v = .pointer (some ⟨x, 0, none⟩)
         | 19 => v = .int .i64 (N : Nat)
         | 20 => v = .bool true
         | 21 => v = .bool true
         | 22 => v = .bool true
         | 23 => v = undef
         | 24 => v = undef
         | 25 => v = undef
         | _ => v = .bool true
         ) (by kernel_rfl) (fun _ _ _ h k => Ext.trans h k) (fun a => Ext.refl a) (Ext.drew _) ?_ ?_ ?_
        . intro iop v wa wb hF hL
          iterate 26 (rcases iop with _ | iop; exact hF)
          exact hF
        . refine Obls.cons ?_ (Obls.cons ?_ (Obls.cons ?_ (Obls.cons ?_ (Obls.cons ?_ (Obls.cons ?_ (Obls.cons ?_ (Obls.cons ?_ (Obls.cons ?_ (Obls.cons ?_ (Obls.cons ?_ (Obls.cons ?_ (Obls.cons ?_ (Obls.cons ?_ (Obls.cons ?_ (Obls.cons ?_ (Obls.cons ?_ (Obls.cons ?_ (Obls.cons ?_ (Obls.cons ?_ (Obls.cons ?_ (Obls.cons ?_ (Obls.cons ?_ (Obls.cons ?_ (Obls.cons ?_ (Obls.cons ?_ (Obls.cons ?_ (Obls.nil)))))))))))))))))))))))))))
          . intro ev wy hp hl hk hd
            have e6 : ev _ = .bool true := hk 6 (by decide)
            exact Yield.mv rfl ⟨Ext.refl _, e6⟩
          . intro ev wy hp hl hk hd
            have e26 : ev _ = _ := hk 26 (by decide)
            exact Yield.oq (by simp [execOp, go_sem, e26])
          . intro ev wy hp hl hk hd
            have e27 : ev _ = _ := hk 27 (by decide)
            exact Yield.mv rfl ⟨Ext.refl _, e27⟩
          . intro ev wy hp hl hk hd
            have e7 : ev _ = .bool true := hk 7 (by decide)
            refine ⟨fun _ _ _ => ?_, fun _ hx hne => absurd hx hne⟩
            exact Yield.mv rfl ⟨Ext.refl _, e7⟩
          . intro ev wy hp hl hk hd
            have e29 : ev _ = _ := hk 29 (by decide)
            refine ⟨fun _ _ _ => ?_, fun _ hx hne => absurd hx hne⟩
            exact Yield.op (v := .bool false) (w' := wy) (by simp [execOp, go_sem, e29]) ⟨Ext.refl _, rfl⟩
          . intro ev wy hp hl hk hd
            have e28 : ev _ = _ := hk 28 (by decide)
            have e30 : ev _ = _ := hk 30 (by decide)
            exact Yield.pick (t := false) rfl e28 ⟨Ext.refl _, e30⟩
          . intro ev wy hp hl hk hd
            have e31 : ev _ = _ := hk 31 (by decide)
            exact Yield.mv rfl ⟨Ext.refl _, e31⟩
          . intro ev wy hp hl hk hd
            have e3 : ev _ = .pointer (some ⟨q, 0, none⟩) := hk 3 (by decide)
            refine ⟨fun _ _ _ => ?_, fun _ hx hne => absurd hx hne⟩
            exact Yield.op (v := .pointer (some ⟨q, 3, none⟩)) (w' := wy) (by simp [execOp, go_sem, e3]) ⟨Ext.refl _, rfl⟩
          . intro ev wy hp hl hk hd
            have e33 : ev _ = _ := hk 33 (by decide)
            refine ⟨fun _ _ _ => ?_, fun _ hx hne => absurd hx hne⟩
            exact Yield.load rfl e33 (by simp [go_sem, zbh hl C3]) ⟨Ext.refl _, rfl⟩
          . intro ev wy hp hl hk hd
            have e0 : ev _ = .pointer (some ⟨x, 0, none⟩) := hk 0 (by decide)
            refine ⟨fun _ _ _ => ?_, fun _ hx hne => absurd hx hne⟩
            exact Yield.mv rfl ⟨Ext.refl _, e0⟩
          . intro ev wy hp hl hk hd
            have e35 : ev _ = _ := hk 35 (by decide)
            refine ⟨fun _ _ _ => ?_, fun _ hx hne => absurd hx hne⟩
            exact Yield.op (v := .pointer (some ⟨x, 0, none⟩)) (w' := wy) (by simp [execOp, go_sem, e35]) ⟨Ext.refl _, rfl⟩
          . intro ev wy hp hl hk hd
            have e36 : ev _ = _ := hk 36 (by decide)
            refine ⟨fun _ _ _ => ?_, fun _ hx hne => absurd hx hne⟩
            exact Yield.op (v := .pointer (some ⟨x, 0, none⟩)) (w' := wy) (by simp [execOp, go_sem, e36]) ⟨Ext.refl _, rfl⟩
          . intro ev wy hp hl hk hd
            have e37 : ev _ = _ := hk 37 (by decide)
            refine ⟨fun _ _ _ => ?_, fun _ hx hne => absurd hx hne⟩
            exact Yield.load rfl e37 (by simp [go_sem, zbh hl x0]) ⟨Ext.refl _, rfl⟩
          . intro ev wy hp hl hk hd
            have e34 : ev _ = _ := hk 34 (by decide)
            have e38 : ev _ = _ := hk 38 (by decide)
            refine ⟨fun _ _ _ => ?_, fun _ hx hne => absurd hx hne⟩
            exact Yield.op (v := .bool false) (w' := wy) (by simp [execOp, go_sem, e34, e38]) ⟨Ext.refl _, rfl⟩
          . intro ev wy hp hl hk hd
            have e32 : ev _ = _ := hk 32 (by decide)
            have e39 : ev _ = _ := hk 39 (by decide)
            exact Yield.pick (t := false) rfl e32 ⟨Ext.refl _, e39⟩
          . intro ev wy hp hl hk hd
            have e40 : ev _ = _ := hk 40 (by decide)
            exact Yield.mv rfl ⟨Ext.refl _, e40⟩
          . intro ev wy hp hl hk hd
            have e3 : ev _ = .pointer (some ⟨q, 0, none⟩) := hk 3 (by decide)
            refine ⟨fun _ _ _ => ?_, fun _ hx hne => absurd hx hne⟩
            exact Yield.op (v := .pointer (some ⟨q, 5, none⟩)) (w' := wy) (by simp [execOp, go_sem, e3]) ⟨Ext.refl _, rfl⟩
          . intro ev wy hp hl hk hd
            have e42 : ev _ = _ := hk 42 (by decide)
            refine ⟨fun _ _ _ => ?_, fun _ hx hne => absurd hx hne⟩
            exact Yield.load rfl e42 (by simp [go_sem, zbh hl C5]) ⟨Ext.refl _, rfl⟩
          . intro ev wy hp hl hk hd
            have e0 : ev _ = .pointer (some ⟨x, 0, none⟩) := hk 0 (by decide)
            refine ⟨fun _ _ _ => ?_, fun _ hx hne => absurd hx hne⟩
            exact Yield.mv rfl ⟨Ext.refl _, e0⟩
          . intro ev wy hp hl hk hd
            have e44 : ev _ = _ := hk 44 (by decide)
            refine ⟨fun _ _ _ => ?_, fun _ hx hne => absurd hx hne⟩
            refine Yield.call rfl hp Tryz.func12 rfl (by kernel_rfl) ?_
            simp only [List.map_toArray, List.map_cons, List.map_nil, e44]
            exact ((show Calls Tryz.prog 12 #[.pointer (some ⟨x, 0, none⟩)] wy fun e w' => e = .returned (.int .i64 (N : Nat)) /\ Ext wy w' from (HLEN.out wy hl).mono fun e w'' h => ⟨h.1, h.2 ▸ Ext.refl _⟩)).mono fun _ _ ⟨he, hb⟩ => ⟨_, he, hb, by first | rfl | simp⟩
          . intro ev wy hp hl hk hd
            have e43 : ev _ = _ := hk 43 (by decide)
            have e45 : ev _ = _ := hk 45 (by decide)
            refine ⟨fun _ _ _ => ?_, fun _ hx hne => absurd hx hne⟩
            exact Yield.op (v := .bool true) (w' := wy) (by simp [execOp, go_sem, e43, e45, hn2]) ⟨Ext.refl _, rfl⟩
          . intro ev wy hp hl hk hd
            have e41 : ev _ = _ := hk 41 (by decide)
            have e46 : ev _ = _ := hk 46 (by decide)
            exact Yield.pick (t := false) rfl e41 ⟨Ext.refl _, e46⟩
          . intro ev wy hp hl hk hd
            have e47 : ev _ = _ := hk 47 (by decide)
            exact Yield.mv rfl ⟨Ext.refl _, e47⟩
          . intro ev wy hp hl hk hd
            have e3 : ev _ = .pointer (some ⟨q, 0, none⟩) := hk 3 (by decide)
            exact ⟨fun x hx he => (by rw [show x = .bool true from hx] at he; cases he), fun _ _ _ => rfl⟩
          . intro ev wy hp hl hk hd
            have e49 : ev _ = _ := hk 49 (by decide)
            exact ⟨fun x hx he => (by rw [show x = .bool true from hx] at he; cases he), fun _ _ _ => rfl⟩
          . intro ev wy hp hl hk hd
            have e50 : ev _ = _ := hk 50 (by decide)
            exact ⟨fun x hx he => (by rw [show x = .bool true from hx] at he; cases he), fun _ _ _ => rfl⟩
          . intro ev wy hp hl hk hd
            have e48 : ev _ = _ := hk 48 (by decide)
            have e51 : ev _ = _ := hk 51 (by decide)
            exact Yield.pick (t := true) rfl e48 ⟨Ext.refl _, hp.const _⟩
        . intro vals wz hz hv
          have g26 : vals 0 = _ := hv 0 (by decide)
          have g27 : vals 1 = _ := hv 1 (by decide)
          have g28 : vals 2 = _ := hv 2 (by decide)
          have g29 : vals 3 = _ := hv 3 (by decide)
          have g30 : vals 4 = _ := hv 4 (by decide)
          have g31 : vals 5 = _ := hv 5 (by decide)
          have g32 : vals 6 = _ := hv 6 (by decide)
          have g33 : vals 7 = _ := hv 7 (by decide)
          have g34 : vals 8 = _ := hv 8 (by decide)
          have g35 : vals 9 = _ := hv 9 (by decide)
          have g36 : vals 10 = _ := hv 10 (by decide)
          have g37 : vals 11 = _ := hv 11 (by decide)
          have g38 : vals 12 = _ := hv 12 (by decide)
          have g39 : vals 13 = _ := hv 13 (by decide)
          have g40 : vals 14 = _ := hv 14 (by decide)
          have g41 : vals 15 = _ := hv 15 (by decide)
          have g42 : vals 16 = _ := hv 16 (by decide)
          have g43 : vals 17 = _ := hv 17 (by decide)
          have g44 : vals 18 = _ := hv 18 (by decide)
          have g45 : vals 19 = _ := hv 19 (by decide)
          have g46 : vals 20 = _ := hv 20 (by decide)
          have g47 : vals 21 = _ := hv 21 (by decide)
          have g48 : vals 22 = _ := hv 22 (by decide)
          have g49 : vals 23 = _ := hv 23 (by decide)
          have g50 : vals 24 = _ := hv 24 (by decide)
          have g51 : vals 25 = _ := hv 25 (by decide)
          have g52 : vals 26 = _ := hv 26 (by decide)
          clear hv
          simp only [zar, Act.put, List.setIfInBounds_toArray, List.set_cons_zero, List.set_cons_succ, g26, g27, g28, g29, g30, g31, g32, g33, g34, g35, g36, g37, g38, g39, g40, g41, g42, g43, g44, g45, g46, g47, g48, g49, g50, g51, g52]
          clear g26 g27 g28 g29 g30 g31 g32 g33 g34 g35 g36 g37 g38 g39 g40 g41 g42 g43 g44 g45 g46 g47 g48 g49 g50 g51 g52
          go_wp2_with fail
          go_meet
          exact ⟨by rw [HNO.out]; rfl, Hi hz⟩
       case pos =>
        have hn2 : ¬ (N : Int) < nm := by omega
        have hyes : p.hears m = Msg.right m := by
         unfold Quo.Pr.hears
         rw [decide_eq_true (show m.src ∈ p.c.seqs /\ (m.kind = 4 \/ m.kind = 6) /\ m.term = p.c.term /\ m.number <= (p.l.length : Int) from ⟨HCASE.out.elim (fun h => h.1) (fun h => absurd h.2.1 (by decide)), by rw [HKD.out]; exact of_decide_eq_true HA.out, by rw [HNM.out.2.1, HNM.out.2.2.1], by rw [HNM.out.1, HNM.out.2.2.2]; exact hn⟩)]
         rfl
        obtain ⟨rb, hrb⟩ : ∃ z, Msg.right m = z := ⟨_, rfl⟩
        have HYES := Hi (hyes.trans hrb)
        obtain ⟨MV, hMV⟩ : ∃ z : Value, z = .agg (zag m (.slice a0 n0 k0) (.slice a1 n1 k1) (.slice a2 n2 k2) (.slice a3 n3 k3)) := ⟨_, rfl⟩
        have HRT := Hi (show ∀ w', Ext W3 w' -> Calls Tryz.prog 61 #[MV] w' fun e w'' => e = .returned (.bool rb) /\ Ext w' w'' from fun w' h => by
         rw [hMV]
         have := zgy _ m w' (HV.out.below (HE2.out.trans h))
         rw [hrb] at this
         exact this)
        have HLD := Hi (show ∀ w', Ext W3 w' -> (Instr.loadAt 89 (.pointer (some ⟨q, 0, none⟩))).run Tryz.prog w' = .ok MV w' from fun w' h => by
         rw [hMV]
         exact run_loadAt_mid (P := Tryz.prog) w' q 0 89 (zag m (.slice a0 n0 k0) (.slice a1 n1 k1) (.slice a2 n2 k2) (.slice a3 n3 k3)).toList _ (MsgAt.range (HAT2.out.ext h)) Tryz.underlying89 rfl (by kernel_rfl))
        clear hyes hrb hn hld hMV
        refine zat (by kernel_rfl) Ext (fun iop v w => match iop with
         | 0 => v = .bool true
         | 1 => v = .bool false
         | 2 => v = .bool false
         | 3 => v = .bool true
         | 4 => v = .bool false
         | 5 => v = .bool false
         | 6 => v = .bool false
         | 7 => v = .pointer (some ⟨q, 3, none⟩)
         | 8 => v = .int .i64 tm
         | 9 => v = .pointer (some ⟨x, 0, none⟩)
         | 10 => v = .pointer (some ⟨x, 0, none⟩)
         | 11 => v = .pointer (some ⟨x, 0, none⟩)
         | 12 => v = .int .i64 tm
         | 13 => v = .bool false
         | 14 => v = .bool false
         | 15 => v = .bool false
         | 16 => v = .pointer (some ⟨q, 5, none⟩)
         | 17 => v = .int .i64 nm
         | 18 => v = .pointer (some ⟨x, 0, none⟩)
         | 19 => v = .int .i64 (N : Nat)
         | 20 => v = .bool false
         | 21 => v = .bool false
         | 22 => v = .bool false
         | 23 => v = MV
         | 24 => v = .bool rb
         | 25 => v = .bool (!rb)
         | _ => v = .bool (!rb)
         ) (by kernel_rfl) (fun _ _ _ h k => Ext.trans h k) (fun a => Ext.refl a) (Ext.drew _) ?_ ?_ ?_
        . intro iop v wa wb hF hL
          iterate 26 (rcases iop with _ | iop; exact hF)
          exact hF
        . refine Obls.cons ?_ (Obls.cons ?_ (Obls.cons ?_ (Obls.cons ?_ (Obls.cons ?_ (Obls.cons ?_ (Obls.cons ?_ (Obls.cons ?_ (Obls.cons ?_ (Obls.cons ?_ (Obls.cons ?_ (Obls.cons ?_ (Obls.cons ?_ (Obls.cons ?_ (Obls.cons ?_ (Obls.cons ?_ (Obls.cons ?_ (Obls.cons ?_ (Obls.cons ?_ (Obls.cons ?_ (Obls.cons ?_ (Obls.cons ?_ (Obls.cons ?_ (Obls.cons ?_ (Obls.cons ?_ (Obls.cons ?_ (Obls.cons ?_ (Obls.nil)))))))))))))))))))))))))))
          . intro ev wy hp hl hk hd
            have e6 : ev _ = .bool true := hk 6 (by decide)
            exact Yield.mv rfl ⟨Ext.refl _, e6⟩
          . intro ev wy hp hl hk hd
            have e26 : ev _ = _ := hk 26 (by decide)
            exact Yield.oq (by simp [execOp, go_sem, e26])
          . intro ev wy hp hl hk hd
            have e27 : ev _ = _ := hk 27 (by decide)
            exact Yield.mv rfl ⟨Ext.refl _, e27⟩
          . intro ev wy hp hl hk hd
            have e7 : ev _ = .bool true := hk 7 (by decide)
            refine ⟨fun _ _ _ => ?_, fun _ hx hne => absurd hx hne⟩
            exact Yield.mv rfl ⟨Ext.refl _, e7⟩
          . intro ev wy hp hl hk hd
            have e29 : ev _ = _ := hk 29 (by decide)
            refine ⟨fun _ _ _ => ?_, fun _ hx hne => absurd hx hne⟩
            exact Yield.op (v := .bool false) (w' := wy) (by simp [execOp, go_sem, e29]) ⟨Ext.refl _, rfl⟩
          . intro ev wy hp hl hk hd
            have e28 : ev _ = _ := hk 28 (by decide)
            have e30 : ev _ = _ := hk 30 (by decide)
            exact Yield.pick (t := false) rfl e28 ⟨Ext.refl _, e30⟩
          . intro ev wy hp hl hk hd
            have e31 : ev _ = _ := hk 31 (by decide)
            exact Yield.mv rfl ⟨Ext.refl _, e31⟩
          . intro ev wy hp hl hk hd
            have e3 : ev _ = .pointer (some ⟨q, 0, none⟩) := hk 3 (by decide)
            refine ⟨fun _ _ _ => ?_, fun _ hx hne => absurd hx hne⟩
            exact Yield.op (v := .pointer (some ⟨q, 3, none⟩)) (w' := wy) (by simp [execOp, go_sem, e3]) ⟨Ext.refl _, rfl⟩
          . intro ev wy hp hl hk hd
            have e33 : ev _ = _ := hk 33 (by decide)
            refine ⟨fun _ _ _ => ?_, fun _ hx hne => absurd hx hne⟩
            exact Yield.load rfl e33 (by simp [go_sem, zbh hl C3]) ⟨Ext.refl _, rfl⟩
          . intro ev wy hp hl hk hd
            have e0 : ev _ = .pointer (some ⟨x, 0, none⟩) := hk 0 (by decide)
            refine ⟨fun _ _ _ => ?_, fun _ hx hne => absurd hx hne⟩
            exact Yield.mv rfl ⟨Ext.refl _, e0⟩
          . intro ev wy hp hl hk hd
            have e35 : ev _ = _ := hk 35 (by decide)
            refine ⟨fun _ _ _ => ?_, fun _ hx hne => absurd hx hne⟩
            exact Yield.op (v := .pointer (some ⟨x, 0, none⟩)) (w' := wy) (by simp [execOp, go_sem, e35]) ⟨Ext.refl _, rfl⟩
          . intro ev wy hp hl hk hd
            have e36 : ev _ = _ := hk 36 (by decide)
            refine ⟨fun _ _ _ => ?_, fun _ hx hne => absurd hx hne⟩
            exact Yield.op (v := .pointer (some ⟨x, 0, none⟩)) (w' := wy) (by simp [execOp, go_sem, e36]) ⟨Ext.refl _, rfl⟩
          . intro ev wy hp hl hk hd
            have e37 : ev _ = _ := hk 37 (by decide)
            refine ⟨fun _ _ _ => ?_, fun _ hx hne => absurd hx hne⟩
            exact Yield.load rfl e37 (by simp [go_sem, zbh hl x0]) ⟨Ext.refl _, rfl⟩
          . intro ev wy hp hl hk hd
            have e34 : ev _ = _ := hk 34 (by decide)
            have e38 : ev _ = _ := hk 38 (by decide)
            refine ⟨fun _ _ _ => ?_, fun _ hx hne => absurd hx hne⟩
            exact Yield.op (v := .bool false) (w' := wy) (by simp [execOp, go_sem, e34, e38]) ⟨Ext.refl _, rfl⟩
          . intro ev wy hp hl hk hd
            have e32 : ev _ = _ := hk 32 (by decide)
            have e39 : ev _ = _ := hk 39 (by decide)
            exact Yield.pick (t := false) rfl e32 ⟨Ext.refl _, e39⟩
          . intro ev wy hp hl hk hd
            have e40 : ev _ = _ := hk 40 (by decide)
            exact Yield.mv rfl ⟨Ext.refl _, e40⟩
          . intro ev wy hp hl hk hd
            have e3 : ev _ = .pointer (some ⟨q, 0, none⟩) := hk 3 (by decide)
            refine ⟨fun _ _ _ => ?_, fun _ hx hne => absurd hx hne⟩
            exact Yield.op (v := .pointer (some ⟨q, 5, none⟩)) (w' := wy) (by simp [execOp, go_sem, e3]) ⟨Ext.refl _, rfl⟩
          . intro ev wy hp hl hk hd
            have e42 : ev _ = _ := hk 42 (by decide)
            refine ⟨fun _ _ _ => ?_, fun _ hx hne => absurd hx hne⟩
            exact Yield.load rfl e42 (by simp [go_sem, zbh hl C5]) ⟨Ext.refl _, rfl⟩
          . intro ev wy hp hl hk hd
            have e0 : ev _ = .pointer (some ⟨x, 0, none⟩) := hk 0 (by decide)
            refine ⟨fun _ _ _ => ?_, fun _ hx hne => absurd hx hne⟩
            exact Yield.mv rfl ⟨Ext.refl _, e0⟩
          . intro ev wy hp hl hk hd
            have e44 : ev _ = _ := hk 44 (by decide)
            refine ⟨fun _ _ _ => ?_, fun _ hx hne => absurd hx hne⟩
            refine Yield.call rfl hp Tryz.func12 rfl (by kernel_rfl) ?_
            simp only [List.map_toArray, List.map_cons, List.map_nil, e44]
            exact ((show Calls Tryz.prog 12 #[.pointer (some ⟨x, 0, none⟩)] wy fun e w' => e = .returned (.int .i64 (N : Nat)) /\ Ext wy w' from (HLEN.out wy hl).mono fun e w'' h => ⟨h.1, h.2 ▸ Ext.refl _⟩)).mono fun _ _ ⟨he, hb⟩ => ⟨_, he, hb, by first | rfl | simp⟩
          . intro ev wy hp hl hk hd
            have e43 : ev _ = _ := hk 43 (by decide)
            have e45 : ev _ = _ := hk 45 (by decide)
            refine ⟨fun _ _ _ => ?_, fun _ hx hne => absurd hx hne⟩
            exact Yield.op (v := .bool false) (w' := wy) (by simp [execOp, go_sem, e43, e45, hn2]) ⟨Ext.refl _, rfl⟩
          . intro ev wy hp hl hk hd
            have e41 : ev _ = _ := hk 41 (by decide)
            have e46 : ev _ = _ := hk 46 (by decide)
            exact Yield.pick (t := false) rfl e41 ⟨Ext.refl _, e46⟩
          . intro ev wy hp hl hk hd
            have e47 : ev _ = _ := hk 47 (by decide)
            exact Yield.mv rfl ⟨Ext.refl _, e47⟩
          . intro ev wy hp hl hk hd
            have e3 : ev _ = .pointer (some ⟨q, 0, none⟩) := hk 3 (by decide)
            refine ⟨fun _ _ _ => ?_, fun _ hx hne => absurd hx hne⟩
            exact Yield.load rfl e3 (HLD.out wy hl) ⟨Ext.refl _, rfl⟩
          . intro ev wy hp hl hk hd
            have e49 : ev _ = _ := hk 49 (by decide)
            refine ⟨fun _ _ _ => ?_, fun _ hx hne => absurd hx hne⟩
            refine Yield.call rfl hp Tryz.func61 rfl (by kernel_rfl) ?_
            simp only [List.map_toArray, List.map_cons, List.map_nil, e49]
            exact (HRT.out wy hl).mono fun _ _ ⟨he, hb⟩ => ⟨_, he, hb, by first | rfl | simp⟩
          . intro ev wy hp hl hk hd
            have e50 : ev _ = _ := hk 50 (by decide)
            refine ⟨fun _ _ _ => ?_, fun _ hx hne => absurd hx hne⟩
            exact Yield.op (v := .bool (!rb)) (w' := wy) (by simp [execOp, go_sem, e50]) ⟨Ext.refl _, rfl⟩
          . intro ev wy hp hl hk hd
            have e48 : ev _ = _ := hk 48 (by decide)
            have e51 : ev _ = _ := hk 51 (by decide)
            exact Yield.pick (t := false) rfl e48 ⟨Ext.refl _, e51⟩
        . intro vals wz hz hv
          have g26 : vals 0 = _ := hv 0 (by decide)
          have g27 : vals 1 = _ := hv 1 (by decide)
          have g28 : vals 2 = _ := hv 2 (by decide)
          have g29 : vals 3 = _ := hv 3 (by decide)
          have g30 : vals 4 = _ := hv 4 (by decide)
          have g31 : vals 5 = _ := hv 5 (by decide)
          have g32 : vals 6 = _ := hv 6 (by decide)
          have g33 : vals 7 = _ := hv 7 (by decide)
          have g34 : vals 8 = _ := hv 8 (by decide)
          have g35 : vals 9 = _ := hv 9 (by decide)
          have g36 : vals 10 = _ := hv 10 (by decide)
          have g37 : vals 11 = _ := hv 11 (by decide)
          have g38 : vals 12 = _ := hv 12 (by decide)
          have g39 : vals 13 = _ := hv 13 (by decide)
          have g40 : vals 14 = _ := hv 14 (by decide)
          have g41 : vals 15 = _ := hv 15 (by decide)
          have g42 : vals 16 = _ := hv 16 (by decide)
          have g43 : vals 17 = _ := hv 17 (by decide)
          have g44 : vals 18 = _ := hv 18 (by decide)
          have g45 : vals 19 = _ := hv 19 (by decide)
          have g46 : vals 20 = _ := hv 20 (by decide)
          have g47 : vals 21 = _ := hv 21 (by decide)
          have g48 : vals 22 = _ := hv 22 (by decide)
          have g49 : vals 23 = _ := hv 23 (by decide)
          have g50 : vals 24 = _ := hv 24 (by decide)
          have g51 : vals 25 = _ := hv 25 (by decide)
          have g52 : vals 26 = _ := hv 26 (by decide)
          clear hv
          simp only [zar, Act.put, List.setIfInBounds_toArray, List.set_cons_zero, List.set_cons_succ, g26, g27, g28, g29, g30, g31, g32, g33, g34, g35, g36, g37, g38, g39, g40, g41, g42, g43, g44, g45, g46, g47, g48, g49, g50, g51, g52]
          clear g26 g27 g28 g29 g30 g31 g32 g33 g34 g35 g36 g37 g38 g39 g40 g41 g42 g43 g44 g45 g46 g47 g48 g49 g50 g51 g52
          go_wp2_with fail
          go_meet
          exact ⟨by rw [HYES.out], Hi hz⟩
   case rest =>
    obtain ⟨rfl, HX4⟩ := hcut
    obtain ⟨W4, hw4⟩ : ∃ z, z = wc := ⟨_, rfl⟩
    subst hw4
    have HE4 := Hi (HE2.out.trans HX4.out)
    clear C3 C5 x0 hld
    obtain ⟨hb, hhb⟩ : ∃ z, p.hears m = z := ⟨_, rfl⟩
    rw [hhb]
    have HHB := Hi hhb
    clear hhb
    cases hb with
    | false =>
     go_wp2_with fail
     go_ret
     refine ⟨by rw [HHB.out]; rfl, ?_⟩
     unfold Quo.Pr.hear
     rw [if_neg (by rw [HHB.out]; simp)]
     exact LeavesPr.refl ⟨_, _, _, H.out⟩ HE4.out
    | true =>
     have hkk : m.src ∈ p.c.seqs /\ k = p.f m.src := by
      have h1 := HHB.out
      unfold Quo.Pr.hears at h1
      simp only [Bool.and_eq_true, decide_eq_true_eq] at h1
      rcases HCASE.out with ⟨h, _, h2⟩ | ⟨h, _⟩
      . exact ⟨h, h2⟩
      . exact absurd h1.1.1 h
     have HKK := Hi hkk
     have hd4 := Ext.drew W4
     have hP4 := H.out.ext (HE4.out.trans hd4)
     obtain ⟨m1, m2, hm1, hm2⟩ := zjt (Term.unlike_ok (Term.right_ok H.out.ok.right).2.2.2.2).2 (f := p.f) (k := m.number) hkk.1
     have hmap := hP4.at'.map
     rw [hm1] at hmap
     obtain ⟨o, hrun, hmapn⟩ := hmap.set zbv Tryz.underlying92 (.int .i64 (max (p.f m.src) m.number))
     rw [<- hm2] at hmapn
     have HMAP := Hi hmapn
     have HP4 := Hi hP4
     have hat4 := HAT2.out.ext (HX4.out.trans hd4)
     have c1 : W4.drew.cell? ⟨q, 1, none⟩ = some (.int .i64 m.src) := hat4.head.2.1
     have c5 : W4.drew.cell? ⟨q, 5, none⟩ = some (.int .i64 m.number) := hat4.head.2.2.2.2.2.1
     have x4 : W4.drew.cell? ⟨x, 4, none⟩ = some (.map (some kb)) := zaa hP4.at'.heap 4
     have HD4 := Hi (HE4.out.trans hd4)
     have hWB := IsPrS.hear12 hP4 m HHB.out o HMAP.out
     have hk2 := hkk.2
     subst hk2
     obtain ⟨src, hsrc'⟩ : ∃ z, m.src = z := ⟨_, rfl⟩
     obtain ⟨fs, hfs⟩ : ∃ z, p.f src = z := ⟨_, rfl⟩
     obtain ⟨num, hnum⟩ : ∃ z, m.number = z := ⟨_, rfl⟩
     rw [hsrc', hfs, hnum] at hrun
     rw [hnum] at c5
     rw [hsrc'] at c1
     rw [hsrc', hfs]
     have HWB := Hi hWB
     have HBK := Hi (zfd W4.drew kb o)
     obtain ⟨W5, hW5⟩ : ∃ z, setBlock W4.drew kb o = z := ⟨_, rfl⟩
     rw [hW5] at hrun HWB HBK
     clear hm1 hm2 hmap hmapn hkk hat4 hd4 hsrc' hfs hnum hWB hP4 HMAP
     have HW5 := Hi hW5
     clear hW5
     go_upto_region 5 with fail
     go_cut [] (fun wx => wx = W5)
     case first =>
      by_cases hlt : fs < num
      . have hmx : max fs num = num := by omega
        rw [hmx] at hrun
        go_still_tail 10, (by kernel_rfl)
        change wpList _ _ _ _ _ W4.drew
        go_wp2_with fail
        go_meet
        rfl
      . have hmx : max fs num = fs := by omega
        rw [hmx] at hrun
        go_still_tail 10, (by kernel_rfl)
        change wpList _ _ _ _ _ W4.drew
        go_wp2_with fail
        go_meet
        rfl
     case rest =>
      subst hcut
      have y5 : wc.cell? ⟨x, 5, none⟩ = some (.bool p.is) := zaa (HWB.out.1.trans HP4.out.at'.heap) 5
      have z5 : wc.frozen? ⟨x, 5, none⟩ = false := zac (HWB.out.1.trans HP4.out.at'.heap) 5
      have hq6 := HAT2.out.ext (HX4.out.trans (Ext.drew W4))
      have hqk : q ≠ kb := fun e => by
       have h1 := (H.out.lt H.out.sk).2
       have h2 := HQ.out
       omega
      have y6 : wc.cell? ⟨q, 6, none⟩ = some (.bool m.is) := (hq6.but HBK.out hqk).head.2.2.2.2.2.2
      have hfin : ∀ e, e = .returned (.bool true) -> zb8 B S K x w (p.hear m) (p.hears m) e (wc.setCell ⟨x, 5, none⟩ (.bool (p.is || m.is))) := fun e he => ⟨by rw [HHB.out]; exact he, S, K, ⟨_, _, _, HWB.out.2.1⟩, (TwS.ext HD4.out).trans HWB.out.2.2, fun _ _ h => h, fun _ _ h => h⟩
      obtain ⟨i1, hi1⟩ : ∃ z, p.is = z := ⟨_, rfl⟩
      obtain ⟨i2, hi2⟩ : ∃ z, m.is = z := ⟨_, rfl⟩
      rw [hi1, hi2] at hfin
      rw [hi1] at y5
      rw [hi2] at y6
      have HFIN := Hi hfin
      clear hq6 hqk hfin hi1 hi2 x4 c1 c5 hrun
      cases i1 with
      | true =>
       go_wp2_with fail
       go_ret
       exact HFIN.out _ rfl
      | false =>
       cases i2 with
       | true =>
        go_wp2_with fail
        go_ret
        exact HFIN.out _ rfl
       | false =>
        go_wp2_with fail
        go_ret
        exact HFIN.out _ rfl
end Go.Proofs.YtnoeconcpgdjlaaGreat
