import Derived.OpenShut
import Derived.Test.YtnoeconcpgdjlaaGreatBsCrcLaw
import Derived.Test.YtnoeconcpgdjlaaGreatBsEnt2
import Derived.Test.YtnoeconcpgdjlaaGreatBsLib
import Derived.Test.YtnoeconcpgdjlaaGreatBsMath2
import Derived.Test.YtnoeconcpgdjlaaGreatBsMsg
import Derived.Test.YtnoeconcpgdjlaaGreatBsQua
import Derived.Test.YtnoeconcpgdjlaaGreatBsRp2
namespace Go.Proofs.YtnoeconcpgdjlaaGreat
set_option linter.unusedSimpArgs false
set_option linter.unusedVariables false
set_option maxRecDepth 100000
open Go.RowKit Go.ChangeMaps
theorem MapB.runLen {P : Program} {k : TypeId} {w : World} {b : Nat} {m : List (Value × Value)} (h : MapB P k w b m) {t e ty : TypeId} (ht : P.underlying t = some (.map k e)) :
 (Builtin.len_ #[t] ty #[.map (some b)]).run P w = .ok (goInt m.length) w := by
 obtain ⟨⟨es, c, h1, h2, _⟩, _⟩ := h
 have hl : es.size = m.length := by rw [<- h2]; simp
 unfold Builtin.len_
 simp [run_underlying ht, MapKept.run_getObj_map h1, Result.andThen, hl]
def set12 (ps : List (Int × List Ent.E)) : List (Value × Value) := ps.map fun p => (.int .i64 p.1, .agg #[])
theorem zmg (ps : List (Int × List Ent.E)) : (set12 ps).map (·.1) = (ps.map (·.1)).map (Value.int .i64) := by simp [set12]
theorem zpg {ps : List (Int × List Ent.E)} {n : Int} (h : n ∈ ps.map (·.1)) : (Value.int .i64 n, Value.agg #[]) ∈ set12 ps := by
 obtain ⟨p, hp, rfl⟩ := List.mem_map.1 h
 exact List.mem_map.2 ⟨p, hp, rfl⟩
theorem zh6 {ps : List (Int × List Ent.E)} {n : Int} (h : n ∉ ps.map (·.1)) : Value.int .i64 n ∉ (set12 ps).map (·.1) := fun hm => by
 rw [zmg] at hm
 obtain ⟨x, hx, he⟩ := List.mem_map.1 hm
 injection he with _ he
 exact h (he ▸ hx)
theorem zms (ps : List (Int × List Ent.E)) (n : Int) (l : List Ent.E) : set12 (ps ++ [(n, l)]) = set12 ps ++ [(.int .i64 n, .agg #[])] := by simp [set12]
theorem zo3 (ps : List (Int × List Ent.E)) : (set12 ps).length = ps.length := by simp [set12]
structure SeAt (w : World) (B x kb : Nat) (sv ev : Value) (es : List (Value × Ent.E)) (s : Quo.Se) : Prop where
 heap : w.heap[x]? = some (.cells #[sv, .int .i64 (Term.majority s.c : Nat), .map (some kb), ev] 119 (0, 0))
 seqs : RowN B w sv s.c.seqs
 row : w.ownsRow B 84 6 ev es.length (zah es)
 ents : es.map (·.2) = s.long
 cuts : ∀ q ∈ es, RowN B w q.1 q.2.cut
 map : MapB Tryz.prog 3 w kb (set12 s.ps)
section
variable {w w' : World} {B x kb : Nat} {sv ev : Value} {es : List (Value × Ent.E)} {s : Quo.Se}
theorem SeAt.lt (h : SeAt w B x kb sv ev es s) : x < w.heap.size := (Array.getElem?_eq_some_iff.1 h.heap).1
theorem SeAt.blocks (h : SeAt w B x kb sv ev es s) (h1 : w'.heap[x]? = w.heap[x]?) (h2 : w'.heap[kb]? = w.heap[kb]?) (h5 : ∀ k, sv.ownBlock = some k -> w'.heap[k]? = w.heap[k]?) (h3 : ∀ k, ev.ownBlock = some k -> w'.heap[k]? = w.heap[k]?) (h4 : ∀ q ∈ es, ∀ k, q.1.ownBlock = some k -> w'.heap[k]? = w.heap[k]?) : SeAt w' B x kb sv ev es s :=
 ⟨h1.trans h.heap, h.seqs.blocks h5, za1 h.row h3, h.ents, fun q hq => (h.cuts q hq).blocks (h4 q hq), h.map.block h2⟩
theorem SeAt.ext (h : SeAt w B x kb sv ev es s) (hE : Ext w w') : SeAt w' B x kb sv ev es s :=
 h.blocks (hE.block _ h.lt) (hE.block _ h.map.lt) (fun k hk => hE.block k (h.seqs.lt k hk).2) (fun k hk => hE.block k (h.row.lt k hk).2) (fun q hq k hk => hE.block k ((h.cuts q hq).lt k hk).2)
theorem SeAt.lower {B' : Nat} (h : SeAt w B x kb sv ev es s) (hB : B' <= B) : SeAt w B' x kb sv ev es s := ⟨h.heap, h.seqs.lower hB, zaw h.row hB, h.ents, fun q hq => (h.cuts q hq).lower hB, h.map⟩
theorem SeAt.len (h : SeAt w B x kb sv ev es s) : es.length = s.long.length := by
 have := congrArg List.length h.ents
 simpa using this
theorem SeAt.ints (h : SeAt w B x kb sv ev es s) : ∀ q ∈ es, Ints w q.1 q.2.cut := fun q hq => (h.cuts q hq).row.ints
theorem SeAt.entsAt (h : SeAt w B x kb sv ev es s) : Ents w ev s.long := by
 have := zbb h.ints (SlN.ofOwn h.row)
 rw [h.ents] at this
 exact this
theorem SeAt.open (h : SeAt w B x kb sv ev es s) : ∃ a c, ev = .slice a es.length c /\ es.length <= c /\ c <= maxLen /\ (a = none -> c = 0) := by
 obtain ⟨a, c, e, h1, h2, h3, _⟩ := SlN.ofOwn h.row
 exact ⟨a, c, e, h1, h2, h3⟩
end
theorem zlc {e : Ent.E} (h : Ent.right e = true) : e.cut.length <= 8 := by
 rcases (Ent.right_ok h).2 with ⟨_, hv, _⟩ | ⟨_, hv, _⟩
 . exact (Vec.right_ok hv).2.2
 . rw [hv]; simp
def zr8 (x kb : Nat) (sv ev : Value) (es : List (Value × Ent.E)) (k : Nat) : Prop := k = x \/ k = kb \/ sv.ownBlock = some k \/ ev.ownBlock = some k \/ ∃ q ∈ es, q.1.ownBlock = some k
structure IsSeS (w : World) (B : Nat) (S : Nat -> Prop) (x kb : Nat) (sv ev : Value) (es : List (Value × Ent.E)) (s : Quo.Se) : Prop where
 sub : ∀ k, zr8 x kb sv ev es k -> S k
 lt : ∀ k, S k -> B <= k /\ k < w.heap.size
 at' : SeAt w B x kb sv ev es s
 ok : s.Ok
 short : s.long.length <= 13107
def IsSe (w : World) (B : Nat) (S : Nat -> Prop) (x : Nat) (s : Quo.Se) : Prop := ∃ kb sv ev es, IsSeS w B S x kb sv ev es s
section
variable {w w' : World} {B x kb : Nat} {S : Nat -> Prop} {sv ev : Value} {es : List (Value × Ent.E)} {s : Quo.Se}
theorem IsSeS.keep (h : IsSeS w B S x kb sv ev es s) (hz : w.heap.size <= w'.heap.size) (hb : ∀ k, k < w.heap.size -> S k -> w'.heap[k]? = w.heap[k]?) : IsSeS w' B S x kb sv ev es s :=
 ⟨h.sub, fun k hk => ⟨(h.lt k hk).1, Nat.lt_of_lt_of_le (h.lt k hk).2 hz⟩, h.at'.blocks (hb _ h.at'.lt (h.sub _ (.inl rfl))) (hb _ h.at'.map.lt (h.sub _ (.inr (.inl rfl)))) (fun k hk => hb k (h.at'.seqs.lt k hk).2 (h.sub _ (.inr (.inr (.inl hk))))) (fun k hk => hb k (h.at'.row.lt k hk).2 (h.sub _ (.inr (.inr (.inr (.inl hk)))))) (fun q hq k hk => hb k ((h.at'.cuts q hq).lt k hk).2 (h.sub _ (.inr (.inr (.inr (.inr ⟨q, hq, hk⟩)))))), h.ok, h.short⟩
theorem IsSeS.ext (h : IsSeS w B S x kb sv ev es s) (hE : Ext w w') : IsSeS w' B S x kb sv ev es s := h.keep hE.size fun k hk _ => hE.block k hk
theorem IsSe.keep (h : IsSe w B S x s) (hz : w.heap.size <= w'.heap.size) (hb : ∀ k, k < w.heap.size -> S k -> w'.heap[k]? = w.heap[k]?) : IsSe w' B S x s := by
 obtain ⟨kb, sv, ev, es, h⟩ := h
 exact ⟨kb, sv, ev, es, h.keep hz hb⟩
theorem IsSe.ext (h : IsSe w B S x s) (hE : Ext w w') : IsSe w' B S x s := h.keep hE.size fun k hk _ => hE.block k hk
theorem IsSe.lt (h : IsSe w B S x s) : ∀ k, S k -> B <= k /\ k < w.heap.size := by
 obtain ⟨kb, sv, ev, es, h⟩ := h
 exact h.lt
theorem IsSe.ok (h : IsSe w B S x s) : s.Ok := by
 obtain ⟨kb, sv, ev, es, h⟩ := h
 exact h.ok
theorem IsSe.tws {T : Nat -> Prop} (h : IsSe w B S x s) (ht : TwS T w w') (hd : ∀ k, S k -> ¬ T k) : IsSe w' B S x s := h.keep ht.size fun k hk hs => ht.block k hk (hd k hs)
theorem Quo.Se.Ok.bounds {s : Quo.Se} (h : s.Ok) : ∀ e ∈ s.long, e.cut.length <= 8 := fun e he => zlc (Ent.isChain_right _ _ rfl h.chain _ he)
end
def LeavesSe (B : Nat) (S : Nat -> Prop) (x : Nat) (w : World) (s : Quo.Se) (w' : World) : Prop := ∃ S', IsSe w' B S' x s /\ TwS S w w' /\ ∀ k, k < w.heap.size -> S' k -> S k
theorem LeavesSe.refl {B x : Nat} {S : Nat -> Prop} {w w' : World} {s : Quo.Se} (h : IsSe w B S x s) (hE : Ext w w') : LeavesSe B S x w s w' := ⟨S, h.ext hE, TwS.ext hE, fun _ _ h => h⟩
theorem LeavesSe.ext {B x : Nat} {S : Nat -> Prop} {w w' w2 : World} {s : Quo.Se} (h : LeavesSe B S x w s w') (hE : Ext w' w2) : LeavesSe B S x w s w2 := by
 obtain ⟨S', h1, h2, h3⟩ := h
 exact ⟨S', h1.ext hE, h2.trans (TwS.ext hE), h3⟩
def zj2 (w : World) (c : Term.C) (e : Ending) (w' : World) : Prop :=
 ((∃ x, Term.right c = true /\ e = .returned (.tuple #[.pointer (some ⟨x, 0, none⟩), .int .i64 0]) /\ ∃ S, IsSe w' w.heap.size S x ⟨c, []⟩) ∨
  (Term.right c = false /\ e = .returned (.tuple #[.pointer none, .int .i64 1]))) /\ Ext w w'
theorem zmq (w : World) (sv : Value) (hs : ∃ a n c, sv = .slice a n c) (m : Int) (kb : Nat) : (Instr.build 119 #[(0, sv), (1, .int .i64 m), (2, .map (some kb))]).run Tryz.prog w = .ok (.agg #[sv, .int .i64 m, .map (some kb), .slice none 0 0]) w := by
 obtain ⟨a, n, c, rfl⟩ := hs
 kernel_rfl
theorem zr4 (w : World) (sv : Value) (hs : ∃ a n c, sv = .slice a n c) (m : Int) (kb : Nat) : (Instr.box 119 (.agg #[sv, .int .i64 m, .map (some kb), .slice none 0 0])).run Tryz.prog w = .ok (.pointer (some ⟨w.heap.size, 0, none⟩)) (w.alloc (.cells #[sv, .int .i64 m, .map (some kb), .slice none 0 0] 119)) := by
 obtain ⟨a, n, c, rfl⟩ := hs
 kernel_rfl
theorem RowN.slice {B : Nat} {w : World} {v : Value} {l : List Int} (h : RowN B w v l) : ∃ a n c, v = .slice a n c := by
 exact zan h.row.ints
set_option maxHeartbeats 40000000 in
theorem zg1 (w : World) (v : Value) (c : Term.C) (hv : IsConf w v c) :
 Calls Tryz.prog 23 #[v] w (zj2 w c) := by
 have hbx := zc4
 have HV := Hi hv
 obtain ⟨s, d, rfl, hs, hd⟩ := hv
 obtain ⟨a0, n0, k0, rfl⟩ := zan hs
 obtain ⟨a1, n1, k1, rfl⟩ := zbw hd
 obtain ⟨tc, htc⟩ : ∃ z, c.term = z := ⟨_, rfl⟩
 have HS := Hi hs
 have HD := Hi hd
 have HTC := Hi htc
 obtain ⟨w1, hw1⟩ : ∃ z, w.alloc (.cells #[.int .i64 tc, .slice a0 n0 k0, .slice a1 n1 k1] 33) = z := ⟨_, rfl⟩
 obtain ⟨q, hq⟩ : ∃ z, w.heap.size = z := ⟨_, rfl⟩
 have hE1 : Ext w w1 := by rw [<- hw1]; exact Ext.alloc _ _
 have hc1 : w1.heap[q]? = some (.cells #[.int .i64 tc, .slice a0 n0 k0, .slice a1 n1 k1] 33 (0, 0)) := by rw [<- hw1, <- hq]; exact heap_alloc_new _ _
 have HC1 := Hi (And.intro hc1 hE1)
 have HQ := Hi hq
 have y0 := zaa hc1 0
 have y1 := zaa hc1 1
 have y2 := zaa hc1 2
 simp at y0 y1 y2
 unfold confV
 rw [htc]
 clear htc
 have HW1 := Hi hw1
 clear hs hd hc1 hE1 hq hw1
 go_enter Tryz.func23, Tryz.ntmps23
 go_upto_region 1 with fail
 rw [HW1.out, HQ.out]
 clear hbx
 go_wp2_with fail
 refine (zdq _ c w1 ⟨_, _, by unfold confV; rw [HTC.out], HS.out.below HC1.out.2, HD.out.below HC1.out.2⟩).mono ?_
 rintro e w2 ⟨rfl, hE2⟩
 have HC2 := Hi (And.intro (zad HC1.out.1 hE2) (HC1.out.2.trans hE2))
 clear hE2 y0 y1 y2 HV
 cases hr : Term.right c with
 | false =>
  have HR := Hi hr
  clear hr
  go_wp2_with fail
  go_ret2
  exact ⟨.inr ⟨HR.out, rfl⟩, HC2.out.2⟩
 | true =>
  have HR := Hi hr
  have h4 := (Term.right_ok hr).2.2.2.1
  have HSL := Hi (show c.seqs.length <= 140737488355328 by omega)
  have HSM := Hi (show c.seqs.length <= 1000000 by omega)
  obtain ⟨N, hN⟩ : ∃ N, Term.majority c = N := ⟨_, rfl⟩
  have HN := Hi hN
  have HMJ := Hi (show ∀ wy, Ext w2 wy -> Calls Tryz.prog 31 #[.agg #[.int .i64 tc, .slice a0 n0 k0, .slice a1 n1 k1]] wy fun e w' => e = .returned (.int .i64 (N : Nat)) /\ Ext wy w' from fun wy hl => by
   have := zen (.agg #[.int .i64 tc, .slice a0 n0 k0, .slice a1 n1 k1]) c wy ⟨_, _, by unfold confV; rw [HTC.out], HS.out.below (HC2.out.2.trans hl), HD.out.below (HC2.out.2.trans hl)⟩ HSL.out
   rw [HN.out] at this
   exact this)
  have HCL := Hi (show ∀ wy, Ext w2 wy -> Calls Tryz.prog 48 #[.slice a0 n0 k0] wy fun e w' => ∃ u, e = .returned u /\ Ext wy w' /\ RowN w2.heap.size w' u c.seqs from fun wy hl => (zds _ c.seqs wy (HS.out.below (HC2.out.2.trans hl)) HSM.out).mono fun e w' ⟨u, h1, h2, h3⟩ => ⟨u, h1, h3, wy.heap.size, _, hl.size, h2⟩)
  clear hr h4 hN
  go_upto_region 3 with fail
  refine zat (by kernel_rfl) Ext (fun iop v w => match iop with
   | 0 => v = .pointer (some ⟨q, 1, none⟩)
   | 1 => v = .slice a0 n0 k0
   | 2 => RowN w2.heap.size w v c.seqs
   | 3 => v = .agg #[.int .i64 tc, .slice a0 n0 k0, .slice a1 n1 k1]
   | 4 => v = .int .i64 (N : Nat)
   | 5 => ∃ kb, v = .map (some kb) /\ w2.heap.size <= kb /\ MapB Tryz.prog 3 w kb []
   | 6 => ∃ kb sv, v = .agg #[sv, .int .i64 (N : Nat), .map (some kb), .slice none 0 0] /\ w2.heap.size <= kb /\ RowN w2.heap.size w sv c.seqs /\ MapB Tryz.prog 3 w kb []
   | 7 => ∃ x kb sv, v = .pointer (some ⟨x, 0, none⟩) /\ w2.heap.size <= x /\ w2.heap.size <= kb /\ x ≠ kb /\ RowN w2.heap.size w sv c.seqs /\ w.heap[x]? = some (.cells #[sv, .int .i64 (N : Nat), .map (some kb), .slice none 0 0] 119 (0, 0)) /\ MapB Tryz.prog 3 w kb []
   | 8 => ∃ x kb sv, v = .pointer (some ⟨x, 0, none⟩) /\ w2.heap.size <= x /\ w2.heap.size <= kb /\ x ≠ kb /\ RowN w2.heap.size w sv c.seqs /\ w.heap[x]? = some (.cells #[sv, .int .i64 (N : Nat), .map (some kb), .slice none 0 0] 119 (0, 0)) /\ MapB Tryz.prog 3 w kb []
   | _ => v = (Value.int IntKind.i64 0)
   ) (by kernel_rfl) (fun _ _ _ h k => Ext.trans h k) (fun a => Ext.refl a) (Ext.drew _) ?_ ?_ ?_
  . intro iop v wa wb hF hL
    iterate 2 (rcases iop with _ | iop; exact hF)
    rcases iop with _ | iop; (first | exact hF | exact RowN.ext hF hL | (obtain ⟨kb, e, h1, h2⟩ := hF; exact ⟨kb, e, h1, h2.block (hL.block _ h2.lt)⟩) | (obtain ⟨kb, sv, e, h1, h2, h3⟩ := hF; exact ⟨kb, sv, e, h1, h2.ext hL, h3.block (hL.block _ h3.lt)⟩) | (obtain ⟨x, kb, sv, e, h0, h1, h2, h5, h3, h4⟩ := hF; exact ⟨x, kb, sv, e, h0, h1, h2, h5.ext hL, zad h3 hL, h4.block (hL.block _ h4.lt)⟩))
    iterate 2 (rcases iop with _ | iop; exact hF)
    iterate 4 (rcases iop with _ | iop; (first | exact hF | exact RowN.ext hF hL | (obtain ⟨kb, e, h1, h2⟩ := hF; exact ⟨kb, e, h1, h2.block (hL.block _ h2.lt)⟩) | (obtain ⟨kb, sv, e, h1, h2, h3⟩ := hF; exact ⟨kb, sv, e, h1, h2.ext hL, h3.block (hL.block _ h3.lt)⟩) | (obtain ⟨x, kb, sv, e, h0, h1, h2, h5, h3, h4⟩ := hF; exact ⟨x, kb, sv, e, h0, h1, h2, h5.ext hL, zad h3 hL, h4.block (hL.block _ h4.lt)⟩)))
    exact hF
  . refine Obls.cons ?_ (Obls.cons ?_ (Obls.cons ?_ (Obls.cons ?_ (Obls.cons ?_ (Obls.cons ?_ (Obls.cons ?_ (Obls.cons ?_ (Obls.cons ?_ (Obls.cons ?_ (Obls.nil))))))))))
    . intro ev wy hp hl hk hd
      have e1 : ev _ = .pointer (some ⟨q, 0, none⟩) := hk 1 (by decide)
      exact Yield.oq (by simp [execOp, go_sem, e1])
    . intro ev wy hp hl hk hd
      have e7 : ev _ = _ := hk 7 (by decide)
      exact Yield.op (v := .slice a0 n0 k0) (w' := wy) (by simp [execOp, go_sem, e7, zaa (zad HC2.out.1 hl) 1]) ⟨Ext.refl _, rfl⟩
    . intro ev wy hp hl hk hd
      have e8 : ev _ = _ := hk 8 (by decide)
      refine Yield.call rfl hp Tryz.func48 rfl (by kernel_rfl) ?_
      simp only [List.map_toArray, List.map_cons, List.map_nil, e8]
      exact (HCL.out wy hl).mono fun _ _ ⟨u, he, hb, hu⟩ => ⟨u, he, hb, hu⟩
    . intro ev wy hp hl hk hd
      have e1 : ev _ = .pointer (some ⟨q, 0, none⟩) := hk 1 (by decide)
      exact Yield.op (v := .agg #[.int .i64 tc, .slice a0 n0 k0, .slice a1 n1 k1]) (w' := wy) (by simp [execOp, go_sem, e1, zaa (zad HC2.out.1 hl) 0, zaa (zad HC2.out.1 hl) 1, zaa (zad HC2.out.1 hl) 2]) ⟨Ext.refl _, rfl⟩
    . intro ev wy hp hl hk hd
      have e10 : ev _ = _ := hk 10 (by decide)
      refine Yield.call rfl hp Tryz.func31 rfl (by kernel_rfl) ?_
      simp only [List.map_toArray, List.map_cons, List.map_nil, e10]
      exact (HMJ.out wy hl).mono fun _ _ ⟨he, hb⟩ => ⟨_, he, hb, by first | rfl | simp⟩
    . intro ev wy hp hl hk hd
      exact Yield.op (v := .map (some wy.heap.size)) (w' := wy.alloc (.map #[] 0)) (by simp [execOp, run_makeMap, Sem.run_bind]) ⟨Ext.alloc _ _, _, rfl, hl.size, MapB.made _ _ _⟩
    . intro ev wy hp hl hk hd
      have f9 : (fun (v : Value) (w : World) => RowN w2.heap.size w v c.seqs) (ev (.tmp 9)) wy := hk 9 (by decide)
      generalize hx9 : ev (.tmp 9) = x9 at *
      have e11 : ev _ = _ := hk 11 (by decide)
      have f12 : (fun (v : Value) (w : World) => ∃ kb, v = .map (some kb) /\ w2.heap.size <= kb /\ MapB Tryz.prog 3 w kb []) (ev (.tmp 12)) wy := hk 12 (by decide)
      generalize hx12 : ev (.tmp 12) = x12 at *
      obtain ⟨kb, ekb, h1, h2⟩ := f12
      exact Yield.op (v := .agg #[x9, .int .i64 (N : Nat), .map (some kb), .slice none 0 0]) (w' := wy) (by simp [execOp, hx9, e11, hx12, ekb, zmq _ x9 (RowN.slice f9), Sem.run_bind]) ⟨Ext.refl _, _, _, rfl, h1, f9, h2⟩
    . intro ev wy hp hl hk hd
      have f13 : (fun (v : Value) (w : World) => ∃ kb sv, v = .agg #[sv, .int .i64 (N : Nat), .map (some kb), .slice none 0 0] /\ w2.heap.size <= kb /\ RowN w2.heap.size w sv c.seqs /\ MapB Tryz.prog 3 w kb []) (ev (.tmp 13)) wy := hk 13 (by decide)
      generalize hx13 : ev (.tmp 13) = x13 at *
      obtain ⟨kb, sv, ekb, h1, h2, h3⟩ := f13
      exact Yield.op (v := .pointer (some ⟨wy.heap.size, 0, none⟩)) (w' := wy.alloc (.cells #[sv, .int .i64 (N : Nat), .map (some kb), .slice none 0 0] 119)) (by simp [execOp, hx13, ekb, zr4 _ sv (RowN.slice h2), Sem.run_bind]) ⟨Ext.alloc _ _, _, _, _, rfl, hl.size, h1, (fun e => by have := h3.lt; omega), h2.ext (Ext.alloc _ _), heap_alloc_new _ _, h3.block ((Ext.alloc _ _).block _ h3.lt)⟩
    . intro ev wy hp hl hk hd
      have f14 : (fun (v : Value) (w : World) => ∃ x kb sv, v = .pointer (some ⟨x, 0, none⟩) /\ w2.heap.size <= x /\ w2.heap.size <= kb /\ x ≠ kb /\ RowN w2.heap.size w sv c.seqs /\ w.heap[x]? = some (.cells #[sv, .int .i64 (N : Nat), .map (some kb), .slice none 0 0] 119 (0, 0)) /\ MapB Tryz.prog 3 w kb []) (ev (.tmp 14)) wy := hk 14 (by decide)
      generalize hx14 : ev (.tmp 14) = x14 at *
      exact Yield.as rfl ⟨Ext.refl _, by rw [hx14]; exact f14⟩
    . intro ev wy hp hl hk hd
      exact Yield.as rfl ⟨Ext.refl _, hp.const _⟩
  . intro vals wz hz hv
    have g7 : vals 0 = _ := hv 0 (by decide)
    have g8 : vals 1 = _ := hv 1 (by decide)
    have g9 : (fun (v : Value) (w : World) => RowN w2.heap.size w v c.seqs) (vals 2) wz := hv 2 (by decide)
    have g10 : vals 3 = _ := hv 3 (by decide)
    have g11 : vals 4 = _ := hv 4 (by decide)
    have g12 : (fun (v : Value) (w : World) => ∃ kb, v = .map (some kb) /\ w2.heap.size <= kb /\ MapB Tryz.prog 3 w kb []) (vals 5) wz := hv 5 (by decide)
    have g13 : (fun (v : Value) (w : World) => ∃ kb sv, v = .agg #[sv, .int .i64 (N : Nat), .map (some kb), .slice none 0 0] /\ w2.heap.size <= kb /\ RowN w2.heap.size w sv c.seqs /\ MapB Tryz.prog 3 w kb []) (vals 6) wz := hv 6 (by decide)
    have g14 : (fun (v : Value) (w : World) => ∃ x kb sv, v = .pointer (some ⟨x, 0, none⟩) /\ w2.heap.size <= x /\ w2.heap.size <= kb /\ x ≠ kb /\ RowN w2.heap.size w sv c.seqs /\ w.heap[x]? = some (.cells #[sv, .int .i64 (N : Nat), .map (some kb), .slice none 0 0] 119 (0, 0)) /\ MapB Tryz.prog 3 w kb []) (vals 7) wz := hv 7 (by decide)
    have g2 : (fun (v : Value) (w : World) => ∃ x kb sv, v = .pointer (some ⟨x, 0, none⟩) /\ w2.heap.size <= x /\ w2.heap.size <= kb /\ x ≠ kb /\ RowN w2.heap.size w sv c.seqs /\ w.heap[x]? = some (.cells #[sv, .int .i64 (N : Nat), .map (some kb), .slice none 0 0] 119 (0, 0)) /\ MapB Tryz.prog 3 w kb []) (vals 8) wz := hv 8 (by decide)
    have g3 : vals 9 = _ := hv 9 (by decide)
    clear hv
    simp only [zar, Act.put, List.setIfInBounds_toArray, List.set_cons_zero, List.set_cons_succ, g7, g8, g10, g11, g3]
    clear g7 g8 g10 g11 g3
    generalize vals 2 = v9 at *
    generalize vals 5 = v12 at *
    generalize vals 6 = v13 at *
    generalize vals 7 = v14 at *
    generalize vals 8 = v2 at *
    obtain ⟨x, kb, sv, rfl, h0, h1, h2, h3, h4, h5⟩ := g2
    have HX := Hi (show ∃ S, IsSe wz w.heap.size S x ⟨c, []⟩ from ⟨zr8 x kb sv (.slice none 0 0) [], kb, sv, .slice none 0 0, [], fun _ h => h, (fun k hk => by
     rcases hk with rfl | rfl | hk | hk | ⟨q, hq, _⟩
     . exact ⟨Nat.le_trans HC2.out.2.size h0, (Array.getElem?_eq_some_iff.1 h4).1⟩
     . exact ⟨Nat.le_trans HC2.out.2.size h1, h5.lt⟩
     . exact ⟨Nat.le_trans HC2.out.2.size (h3.lt k hk).1, (h3.lt k hk).2⟩
     . cases hk
     . cases hq), ⟨by rw [HN.out]; exact h4, h3.lower HC2.out.2.size, World.ownsRow_nil _ _ _ _, rfl, fun q hq => (by cases hq), h5⟩, Quo.Se.new_ok HR.out, Nat.zero_le _⟩)
    have HZ := Hi hz
    clear h0 h1 h2 h3 h4 h5 hz g9 g12 g13 g14
    go_wp2_with fail
    go_ret2
    exact ⟨.inl ⟨x, HR.out, rfl, HX.out⟩, HC2.out.2.trans HZ.out⟩
theorem zng {w : World} {B x : Nat} {S : Nat -> Prop} {s : Quo.Se} (h : IsSe w B S x s) :
 Calls Tryz.prog 55 #[.pointer (some ⟨x, 0, none⟩)] w fun e w' => e = .returned (.bool s.done) /\ Ext w w' := by
 obtain ⟨kb, sv, ev, es, h⟩ := h
 have h1 := h.at'.ext (Ext.drew w)
 obtain ⟨M, hM⟩ : ∃ z, Term.majority s.c = z := ⟨_, rfl⟩
 obtain ⟨L, hL⟩ : ∃ z, s.ps.length = z := ⟨_, rfl⟩
 have hlen := fun ty => h1.map.runLen (ty := ty) Tryz.underlying117
 rw [zo3, hL] at hlen
 have hd : s.done = decide (M <= L) := by
  unfold Quo.Se.done
  rw [hM, hL]
 have HD := Hi hd
 have x2 : w.drew.cell? ⟨x, 2, none⟩ = some (.map (some kb)) := zaa h1.heap 2
 have x1 : w.drew.cell? ⟨x, 1, none⟩ = some (.int .i64 (M : Nat)) := by have := zaa h1.heap 1; rw [hM] at this; exact this
 clear h h1 hM hL hd
 go_enter Tryz.func55, Tryz.ntmps55
 go_wp2_with fail
 go_region
 go_wp2_with fail
 go_ret
 exact ⟨by rw [HD.out]; rfl, Ext.drew w⟩
def zkg : Bool -> List Ent.E -> List Ent.E
 | true, l => l
 | false, _ => []
def zd6 (w : World) (l : List Ent.E) (b : Bool) (e : Ending) (w' : World) : Prop := ∃ u qs, e = .returned (.tuple #[u, .bool b]) /\ Ext w w' /\ w'.ownsRow w.heap.size 84 6 u qs.length (zah qs) /\ qs.map (·.2) = l /\ ∀ q ∈ qs, RowN w.heap.size w' q.1 q.2.cut
theorem zgz {w : World} {B x : Nat} {S : Nat -> Prop} {s : Quo.Se} (h : IsSe w B S x s) :
 Calls Tryz.prog 27 #[.pointer (some ⟨x, 0, none⟩)] w (zd6 w (zkg s.done s.long) s.done) := by
 have HDN := Hi (zng h)
 obtain ⟨kb, sv, ev, es, h⟩ := h
 have H := Hi h
 obtain ⟨b, hb⟩ : ∃ b, s.done = b := ⟨_, rfl⟩
 rw [hb] at HDN ⊢
 clear hb
 go_enter Tryz.func27, Tryz.ntmps27
 go_wp2_with fail
 refine HDN.out.mono ?_
 rintro e w2 ⟨rfl, hE2⟩
 have HE2 := Hi hE2
 cases b with
 | false =>
  clear h hE2
  go_wp2_with fail
  go_ret2
  exact ⟨_, [], rfl, HE2.out, World.ownsRow_nil _ _ _ _, rfl, fun q hq => (by cases hq)⟩
 | true =>
  have h2 := h.ext hE2
  have hbd := h.ok.bounds
  have hmem : ∀ q ∈ es, q.2 ∈ s.long := fun q hq => by rw [<- h.at'.ents]; exact List.mem_map.2 ⟨q, hq, rfl⟩
  have HOW := Hi (zem ev es w2 (SlN.ofOwn h2.at'.row) h2.at'.ints (by rw [h.at'.len]; exact h.short) (fun q hq => by have := hbd q.2 (hmem q hq); omega))
  obtain ⟨a, c, hev, _⟩ := h.at'.open
  subst hev
  have x3 : w2.cell? ⟨x, 3, none⟩ = some (.slice a es.length c) := zaa h2.at'.heap 3
  clear h h2 hE2 hbd hmem
  go_wp2_with fail
  refine HOW.out.mono ?_
  rintro e w3 ⟨u, qs, rfl, hE3, hrow, hqs, hq⟩
  have HR := Hi (show zd6 w (zkg true s.long) true (.returned (.tuple #[u, .bool true])) w3 from ⟨u, qs, rfl, HE2.out.trans hE3, zaw hrow HE2.out.size, by rw [hqs, H.out.at'.ents]; rfl, fun q h => (hq q h).lower HE2.out.size⟩)
  clear hE3 hrow hqs hq x3
  go_wp2_with fail
  go_ret2
  exact HR.out
theorem zsu (w : World) : (zeroValue 122).run Tryz.prog w = .ok (.agg #[]) w := by kernel_rfl
theorem SeAt.look {w : World} {B x kb : Nat} {sv ev : Value} {es : List (Value × Ent.E)} {s : Quo.Se} (h : SeAt w B x kb sv ev es s) {n : Int} (hn : Wf64 n) : ∃ (b : Bool), (Instr.lookup 117 (.map (some kb)) (.int .i64 n) true).run Tryz.prog w = .ok (.tuple #[.agg #[], .bool b]) w /\ (b = true ↔ n ∈ s.ps.map (·.1)) := by
 by_cases hm : n ∈ s.ps.map (·.1)
 . exact ⟨true, h.map.found zbv Tryz.underlying117 (zpg hm), ⟨fun _ => hm, fun _ => rfl⟩⟩
 . exact ⟨false, h.map.lost zbv Tryz.underlying117 (zej hn) (zh6 hm) (zsu w), ⟨(fun e => by cases e), fun e => absurd e hm⟩⟩
theorem Quo.sehears_not {s : Quo.Se} {n : Int} {l : List Ent.E} (h : ¬ (n ∈ s.c.seqs /\ Ent.chain l = l.length /\ n ∉ s.ps.map (·.1))) : s.hears n l = false := by
 unfold Quo.Se.hears
 rw [decide_eq_false h]
 rfl
theorem Quo.sehears_is {s : Quo.Se} {n : Int} {l : List Ent.E} (h : n ∈ s.c.seqs /\ Ent.chain l = l.length /\ n ∉ s.ps.map (·.1)) {b : Bool} {k : Nat} (hk : k = min l.length s.long.length) (hb : b = true ↔ l.take k = s.long.take k) : s.hears n l = b := by
 unfold Quo.Se.hears Quo.agrees
 rw [decide_eq_true h, <- hk, Bool.true_and]
 cases b with
 | true => exact decide_eq_true (hb.1 rfl)
 | false => exact decide_eq_false fun e => by have := hb.2 e; cases this
theorem SeAt.heard {w w1 : World} {B x kb : Nat} {sv ev : Value} {es : List (Value × Ent.E)} {s s' : Quo.Se} (h : SeAt w B x kb sv ev es s) (hB : But kb w w1) (hmap : MapB Tryz.prog 3 w1 kb (set12 s'.ps)) (hc : s'.c = s.c) :
 w1.heap[x]? = w.heap[x]? /\ (s'.long = s.long -> SeAt w1 B x kb sv ev es s') /\ ∀ w2 u qs, Ext w1 w2 -> w2.ownsRow B 84 6 u qs.length (zah qs) -> (∀ q ∈ qs, RowN B w2 q.1 q.2.cut) -> qs.map (·.2) = s'.long -> SeAt (w2.setCell ⟨x, 3, none⟩ u) B x kb sv u qs s' := by
 have hne : ∀ (k : Nat) {cs : Array Value} {t : TypeId} {fr : Nat × Nat}, w.heap[k]? = some (.cells cs t fr) -> k ≠ kb := fun k {cs t fr} hk e => h.map.no_cells (by rw [<- e]; exact hk)
 have hx : w1.heap[x]? = w.heap[x]? := hB.block x h.lt (hne x h.heap)
 have hrow : ∀ {b n : Nat} {t : TypeId} {sz : Nat} {v : Value} {xs : List Value}, w.ownsRow b t sz v n xs -> ∀ k, v.ownBlock = some k -> w1.heap[k]? = w.heap[k]? := fun ho k hk => by
  obtain ⟨cur, hcur⟩ := ownAt ho hk
  exact hB.block k (ho.lt k hk).2 (hne k hcur)
 have hrn : ∀ {v : Value} {l : List Int}, RowN B w v l -> RowN B w1 v l := fun hv => by
  obtain ⟨b, n, hb, ho⟩ := id hv
  exact hv.blocks (hrow ho)
 refine ⟨hx, fun hl => ⟨by rw [hc]; exact hx.trans h.heap, by rw [hc]; exact hrn h.seqs, za1 h.row (hrow h.row), by rw [hl]; exact h.ents, fun q hq => hrn (h.cuts q hq), hmap⟩, fun w2 u qs hE ho hq hl => ?_⟩
 have hx2 := zad (hx.trans h.heap) hE
 have hb2 : But x w2 (w2.setCell ⟨x, 3, none⟩ u) := za2 _ _ _ _
 have hnx : ∀ {b n : Nat} {t : TypeId} {sz : Nat} {v : Value} {xs : List Value}, w2.ownsRow b t sz v n xs -> t ≠ 119 -> ∀ k, v.ownBlock = some k -> (w2.setCell ⟨x, 3, none⟩ u).heap[k]? = w2.heap[k]? := fun ho ht k hk => by
  obtain ⟨cur, hcur⟩ := ownAt ho hk
  refine hb2.block k (ho.lt k hk).2 (fun e => ?_)
  rw [e, hx2] at hcur
  injection hcur with hcur
  injection hcur with _ e2 _
  exact ht e2.symm
 have hrn2 : ∀ {v : Value} {l : List Int}, RowN B w2 v l -> RowN B (w2.setCell ⟨x, 3, none⟩ u) v l := fun hv => by
  obtain ⟨b, n, hb, ho⟩ := id hv
  exact hv.blocks (hnx ho (by decide))
 refine ⟨?_, hrn2 (by rw [hc]; exact (hrn h.seqs).ext hE), za1 ho (hnx ho (by decide)), hl, fun q h => hrn2 (hq q h), hmap.block ((hb2.block kb (Nat.lt_of_lt_of_le hmap.lt hE.size) (fun e => h.map.no_cells (by rw [e]; exact h.heap))).trans (hE.block kb hmap.lt))⟩
 rw [hc]
 exact heap_setCell hx2 3 u
def zc9 (B : Nat) (S : Nat -> Prop) (x : Nat) (w : World) (s : Quo.Se) (n : Int) (l : List Ent.E) (e : Ending) (w' : World) : Prop := e = .returned (.bool (s.hears n l)) /\ LeavesSe B S x w (s.hear n l) w'
set_option maxHeartbeats 40000000 in
theorem zdn {w : World} {B x : Nat} {S : Nat -> Prop} {s : Quo.Se} (h : IsSe w B S x s) (n : Int) (hn : Wf64 n) (v : Value) (ps : List (Value × Ent.E)) (hps : ps.length <= 13107) (hv : ∀ w', TwS S w w' -> SlN 6 w' v ps.length (zah ps) /\ ∀ q ∈ ps, Ints w' q.1 q.2.cut) :
 Calls Tryz.prog 25 #[.pointer (some ⟨x, 0, none⟩), .int .i64 n, v] w (zc9 B S x w s n (ps.map (·.2))) := by
 obtain ⟨kb, sv, ev, es, h⟩ := h
 obtain ⟨b, hlk, hb⟩ := h.at'.look hn
 have H := Hi h
 have HB := Hi hb
 have HV := Hi hv
 obtain ⟨l, hl⟩ : ∃ l, ps.map (·.2) = l := ⟨_, rfl⟩
 have HL := Hi hl
 have HPS := Hi hps
 have hents : ∀ w', TwS S w w' -> Ents w' v l := fun w' ht => by
  have := zbb (hv w' ht).2 (hv w' ht).1
  rw [hl] at this
  exact this
 have HENT := Hi hents
 obtain ⟨va, vc, hva, hvc, hvm⟩ := (hents w (TwS.ext (Ext.refl _))).shape
 subst hva
 obtain ⟨N, hN⟩ : ∃ N, l.length = N := ⟨_, rfl⟩
 have HN := Hi hN
 rw [hN] at hvc HENT HV ⊢
 obtain ⟨sa, sn, sc, rfl⟩ := h.at'.seqs.slice
 obtain ⟨ea, ec, hea, hec, hem, _⟩ := h.at'.open
 subst hea
 obtain ⟨M, hM⟩ : ∃ M, es.length = M := ⟨_, rfl⟩
 have HM := Hi (show s.long.length = M by rw [<- hM]; exact h.at'.len.symm)
 rw [hM] at H hec
 rw [hl]
 unfold maxLen at hem
 have x2 : w.cell? ⟨x, 2, none⟩ = some (.map (some kb)) := zaa h.at'.heap 2
 have hE1 : Ext w (w.alloc (.cells #[] 122)) := Ext.alloc _ _
 obtain ⟨w1, hw1⟩ : ∃ z, w.alloc (.cells #[] 122) = z := ⟨_, rfl⟩
 rw [hw1] at hE1
 have HW1 := Hi hw1
 have HE1 := Hi hE1
 have h1 := H.out.ext hE1
 have H1 := Hi h1
 have y0 : w1.cell? ⟨x, 0, none⟩ = some (.slice sa sn sc) := zaa h1.at'.heap 0
 have y3 : w1.cell? ⟨x, 3, none⟩ = some (.slice ea M ec) := zaa h1.at'.heap 3
 have hno : ∀ W, ¬ (n ∈ s.c.seqs /\ Ent.chain l = l.length /\ n ∉ s.ps.map (·.1)) -> Ext w W -> zc9 B S x w s n l (.returned (.bool false)) W := fun W hc hE => by
  have h0 := Quo.sehears_not hc
  refine ⟨by rw [h0], ?_⟩
  unfold Quo.Se.hear
  rw [if_neg (by rw [h0]; simp)]
  exact LeavesSe.refl ⟨_, _, _, _, H.out⟩ hE
 have HNO := Hi hno
 clear h hb hv hl hps hents hN hM hw1 hE1 h1 hno
 go_enter Tryz.func25, Tryz.ntmps25
 go_upto_region 2 with fail
 rw [HW1.out]
 cases b with
 | true =>
  have hin := HB.out.1 rfl
  have HIN := Hi hin
  clear hin hlk
  go_wp2_with fail
  go_ret
  exact HNO.out _ (fun e => e.2.2 HIN.out) HE1.out
 | false =>
  have HNI := Hi (show n ∉ s.ps.map (·.1) from fun e => by have := HB.out.2 e; cases this)
  clear hlk
  go_wp2_with fail
  refine (zfe _ s.c.seqs n w1 H1.out.at'.seqs.row.ints).mono ?_
  rintro e w2 ⟨rfl, rfl⟩
  obtain ⟨hs, hhs⟩ : ∃ z, hasI s.c.seqs n = z := ⟨_, rfl⟩
  rw [hhs]
  have HHS := Hi hhs
  clear hhs
  cases hs with
  | false =>
   go_wp2_with fail
   go_ret
   refine HNO.out _ (fun e => ?_) HE1.out
   have h1 := HHS.out
   unfold hasI at h1
   rw [List.contains_iff_mem.2 e.1] at h1
   cases h1
  | true =>
   have HSQ := Hi (show n ∈ s.c.seqs by have h1 := HHS.out; unfold hasI at h1; exact List.contains_iff_mem.1 h1)
   go_wp2_with fail
   refine (ze0 _ l w1 (HENT.out w1 (TwS.ext HE1.out))).mono ?_
   rintro e w2 ⟨rfl, hE2⟩
   obtain ⟨C, hC⟩ : ∃ C, Ent.chain l = C := ⟨_, rfl⟩
   rw [hC]
   have HC := Hi hC
   have HE2 := Hi (HE1.out.trans hE2)
   have h2 := H1.out.ext hE2
   have H2 := Hi h2
   have z2 : w2.cell? ⟨x, 2, none⟩ = some (.map (some kb)) := zaa h2.at'.heap 2
   have z3 : w2.cell? ⟨x, 3, none⟩ = some (.slice ea M ec) := zaa h2.at'.heap 3
   clear hC hE2 h2 y0 y3 x2
   by_cases hCN : C = N
   case neg =>
    have hci : ((C : Int) != (N : Int)) = true := by rw [bne_iff_ne]; omega
    go_wp2_with fail
    go_ret
    exact HNO.out _ (fun e => hCN (by rw [<- HC.out, <- HN.out]; exact e.2.1)) HE2.out
   case pos =>
    have hci : ((C : Int) != (N : Int)) = false := by rw [hCN]; simp
    have HALL := Hi (show n ∈ s.c.seqs /\ Ent.chain l = l.length /\ n ∉ s.ps.map (·.1) from ⟨HSQ.out, by rw [HC.out, hCN, HN.out], HNI.out⟩)
    clear hCN
    go_upto_region 4 with fail
    obtain ⟨K, hK⟩ : ∃ K, min N M = K := ⟨_, rfl⟩
    have HKN := Hi (show K <= N /\ K <= M /\ K = min l.length s.long.length from ⟨by omega, by omega, by rw [HN.out, HM.out]; exact hK.symm⟩)
    go_cut [9] (fun s9 wx => s9 = .int .i64 (K : Nat) /\ wx = w2)
    case first =>
     by_cases hlt : (M : Int) < (N : Int)
     . have hmn : K = M := by omega
       have hmi : min (N : Int) (M : Int) = (K : Int) := by omega
       have HMN := Hi hmi
       clear hK hmn hmi
       go_wp2_with fail
       go_meet
       exact ⟨by rw [HMN.out], rfl⟩
     . have hmn : K = N := by omega
       have hmi : min (N : Int) (M : Int) = (K : Int) := by omega
       have HMN := Hi hmi
       clear hK hmn hmi
       go_wp2_with fail
       go_meet
       exact ⟨by rw [HMN.out], rfl⟩
    case rest =>
     obtain ⟨rfl, hwc⟩ := hcut
     obtain ⟨W2, hw2⟩ : ∃ z, z = wc := ⟨_, rfl⟩
     subst hw2
     subst hwc
     have HK := Hi hK
     have sl1 : ∀ wy : World, (Instr.sliceAt 61 (.slice va N vc) none (some (.int .i64 (K : Int))) none).run Tryz.prog wy = .ok (.slice va K vc) wy := fun wy => runTo (size := 6) Tryz.underlying61 (by kernel_rfl) K (by omega) .i64
     have sl2 : ∀ wy : World, (Instr.sliceAt 61 (.slice ea M ec) none (some (.int .i64 (K : Int))) none).run Tryz.prog wy = .ok (.slice ea K ec) wy := fun wy => runTo (size := 6) Tryz.underlying61 (by kernel_rfl) K (by omega) .i64
     have hEd := Ext.drew W2
     have hv1 := (HENT.out W2.drew (TwS.ext (HE2.out.trans hEd))).take K (by have := HKN.out; have := HN.out; omega)
     have hv2 := ((H2.out.ext hEd).at'.entsAt).take K (by have := HKN.out; have := HM.out; omega)
     have HEQ := Hi (zm0 _ _ (l.take K) (s.long.take K) W2.drew hv1 hv2)
     have k3 : W2.drew.cell? ⟨x, 3, none⟩ = some (.slice ea M ec) := zaa (H2.out.ext hEd).at'.heap 3
     have HED := Hi (HE2.out.trans hEd)
     clear hK hEd hv1 hv2
     go_upto_region 5 with fail
     go_still_tail 9, (by kernel_rfl)
     change wpList _ _ _ _ _ W2.drew
     go_wp2_with fail
     refine HEQ.out.mono ?_
     rintro e w3 ⟨b, rfl, hbi, hE3⟩
     have HHR := Hi (Quo.sehears_is HALL.out HKN.out.2.2 hbi)
     have HE3 := Hi (HED.out.trans hE3)
     clear hbi hE3 sl1 sl2 k3 z2 z3
     cases b with
     | false =>
      go_wp2_with fail
      go_ret
      refine ⟨by rw [HHR.out]; rfl, ?_⟩
      unfold Quo.Se.hear
      rw [if_neg (by rw [HHR.out]; simp)]
      exact LeavesSe.refl ⟨_, _, _, _, H.out⟩ HE3.out
     | true =>
      have h3 := H.out.ext HE3.out
      have H3 := Hi h3
      have x2 : w3.cell? ⟨x, 2, none⟩ = some (.map (some kb)) := zaa h3.at'.heap 2
      obtain ⟨o, hrun, hmap⟩ := h3.at'.map.put zbv Tryz.underlying117 (zej hn) (zh6 HNI.out) (val := .agg #[])
      rw [<- zms s.ps n l] at hmap
      have hB4 := zfd w3 kb o
      obtain ⟨w4, hw4⟩ : ∃ z, setBlock w3 kb o = z := ⟨_, rfl⟩
      rw [hw4] at hrun hmap hB4
      have HB4 := Hi (And.intro hB4 hmap)
      clear h3 hmap hB4 hw4
      have HHE := Hi (show s.hear n l = ⟨s.c, s.ps ++ [(n, l)]⟩ by unfold Quo.Se.hear; rw [if_pos HHR.out])
      have HLG := Hi (show (s.hear n l).long = if s.long.length < l.length then l else s.long by rw [HHE.out]; exact Quo.longest_snoc _ _)
      have HTU := Hi (H3.out.at'.heard (s' := s.hear n l) HB4.out.1 (by rw [HHE.out]; exact HB4.out.2) (by rw [HHE.out]))
      have hTW : TwS S w3 w4 := TwS.but HB4.out.1 (H.out.sub _ (.inr (.inl rfl)))
      have HT4 := Hi ((TwS.ext HE3.out).trans hTW)
      clear hTW
      by_cases hlt : (K : Int) < (N : Int)
      case neg =>
       have hlong : (s.hear n l).long = s.long := by
        rw [HLG.out, if_neg]
        have := HKN.out.2.1; have := HN.out; have := HM.out
        omega
       have HFIN := Hi (show LeavesSe B S x w (s.hear n l) w4 from ⟨S, ⟨_, _, _, _, H.out.sub, fun k hk => ⟨(H.out.lt k hk).1, Nat.lt_of_lt_of_le (H.out.lt k hk).2 HT4.out.size⟩, HTU.out.2.1 hlong, H.out.ok.hear _ _, by rw [hlong]; exact H.out.short⟩, HT4.out, fun _ _ h => h⟩)
       clear hlong
       go_wp2_with fail
       go_ret
       exact ⟨by rw [HHR.out]; rfl, HFIN.out⟩
      case pos =>
       have hlong : (s.hear n l).long = l := by
        rw [HLG.out, if_pos]
        have := HN.out; have := HM.out; have := HKN.out.2.2
        omega
       have HLONG := Hi hlong
       have hv4 := HV.out w4 HT4.out
       have hcut : ∀ q ∈ ps, q.2.cut.length <= 1000000 := fun q hq => by
        have hm : q.2 ∈ l := by rw [<- HL.out]; exact List.mem_map.2 ⟨q, hq, rfl⟩
        have hch : Ent.isChain l := by unfold Ent.isChain; exact HALL.out.2.1
        have := zlc (Ent.isChain_right _ _ rfl hch _ hm)
        omega
       have HOW := Hi (zem _ ps w4 hv4.1 hv4.2 HPS.out hcut)
       clear hlong hv4 hcut
       go_wp2_with fail
       refine HOW.out.mono ?_
       rintro e w5 ⟨u, qs, rfl, hE5, hrow, hqs, hq⟩
       have hB5 : B <= w4.heap.size := Nat.le_trans (Nat.le_trans (H.out.lt x (H.out.sub _ (.inl rfl))).1 (Nat.le_of_lt (H.out.lt x (H.out.sub _ (.inl rfl))).2)) HT4.out.size
       obtain ⟨ua, un, uc, rfl⟩ := zao hrow
       have hat5 := HTU.out.2.2 w5 _ qs hE5 (zaw hrow hB5) (fun q h => (hq q h).lower hB5) (by rw [hqs, HL.out, HLONG.out])
       have hx5 := zad (HTU.out.1.trans H3.out.at'.heap) hE5
       have z5 := zac hx5 3
       have y5 := zaa hx5 3
       simp at y5
       have hB6 : But x w5 (w5.setCell ⟨x, 3, none⟩ (.slice ua un uc)) := za2 _ _ _ _
       have HFIN := Hi (show LeavesSe B S x w (s.hear n l) (w5.setCell ⟨x, 3, none⟩ (.slice ua un uc)) from ⟨fun k => S k \/ (w4.heap.size <= k /\ k < w5.heap.size), ⟨_, _, _, _, fun k hk => by
        rcases hk with rfl | rfl | hk | hk | ⟨q, hq', hk⟩
        . exact .inl (H.out.sub _ (.inl rfl))
        . exact .inl (H.out.sub _ (.inr (.inl rfl)))
        . exact .inl (H.out.sub _ (.inr (.inr (.inl hk))))
        . exact .inr (hrow.lt k hk)
        . exact .inr ((hq q hq').lt k hk), fun k hk => by
        have hz : (w5.setCell ⟨x, 3, none⟩ (.slice ua un uc)).heap.size = w5.heap.size := by simp
        rw [hz]
        rcases hk with hk | hk
        . exact ⟨(H.out.lt k hk).1, Nat.lt_of_lt_of_le (H.out.lt k hk).2 (Nat.le_trans HT4.out.size hE5.size)⟩
        . exact ⟨Nat.le_trans hB5 hk.1, hk.2⟩, hat5, H.out.ok.hear _ _, by rw [HLONG.out, <- HL.out, List.length_map]; exact HPS.out⟩, (HT4.out.trans (TwS.ext hE5)).trans (TwS.but hB6 (H.out.sub _ (.inl rfl))), fun k hk h => h.elim id (fun h => by have := HT4.out.size; omega)⟩)
       clear hE5 hrow hqs hq hat5 hx5 hB6 hB5
       go_wp2_with fail
       go_ret
       exact ⟨by rw [HHR.out]; rfl, HFIN.out⟩
end Go.Proofs.YtnoeconcpgdjlaaGreat
namespace Go.Proofs.YtnoeconcpgdjlaaGreat
set_option linter.unusedSimpArgs false
set_option linter.unusedVariables false
set_option maxRecDepth 100000
open Go.RowKit
theorem tER12 : ElemN Tryz.prog 35 46 (.agg #[.int .i64 0, .int .i64 0, .slice none 0 0, .int .i64 0, .int .i64 0, .int .i64 0]) 6 64 := ⟨Tryz.underlying35, by kernel_rfl, rfl, by omega⟩
set_option maxHeartbeats 8000000 in
theorem zd0 (v : Value) (ps : List (Value × Ent.E)) (w : World) (hv : SlN 6 w v ps.length (zah ps)) (hi : ∀ q ∈ ps, Ints w q.1 q.2.cut) (hl : ps.length <= 13107) :
 Calls Tryz.prog 18 #[v] w fun x w' => ∃ u, x = .returned u /\ w'.ownsRow w.heap.size 46 6 u ps.length (zah ps) /\ Ext w w' := by
 have HV := Hi hv
 have HI := Hi hi
 obtain ⟨a, cap, rfl, hcap, hmax, hnone, _, _⟩ := hv
 unfold maxLen at hmax
 obtain ⟨n, hn⟩ : ∃ n, ps.length = n := ⟨_, rfl⟩
 rw [hn] at HV hcap hl ⊢
 have HN := Hi hn
 have te := tER12
 clear hi hn hnone
 go_enter Tryz.func18, Tryz.ntmps18
 go_wp2_with fail
 go_loopw [3, 8] (fun o i wr => ∃ k : Nat, k <= n /\ i = .int .i64 k /\ (∃ a n c, o = .slice a n c) /\ Hid (wr.ownsRow w.heap.size 46 6 o k (zah (ps.take k)) /\ Ext w wr)) (fun _ i _ => n - (intOf i).toNat)
 case atStart => exact ⟨0, by omega, rfl, ⟨_, _, _, rfl⟩, Hi ⟨World.ownsRow_nil _ _ _ _, Ext.refl _⟩⟩
 case round =>
  obtain ⟨k, hk, rfl, ⟨ao, no, co, rfl⟩, hI⟩ := hrel
  by_cases hlt : k < n
  . have hkp : k < ps.length := by rw [HN.out]; exact hlt
    obtain ⟨_, _, e', _, _, _, hlen, hc⟩ := HV.out
    injection e' with e1 e2 e3
    obtain ⟨b, off, hab, hx0⟩ := hc (k * 6) (by rw [hlen]; omega)
    rw [<- e1] at hab
    subst hab
    have hat : ∀ j, j < 6 -> wr.cell? ⟨b, off + (k * 6 + j), none⟩ = [Value.int .i64 ps[k].2.number, .int .i64 ps[k].2.kind, ps[k].1, .int .i64 ps[k].2.tag, .int .i64 ps[k].2.term, .int .i64 ps[k].2.pos][j]? := fun j hj => by
     obtain ⟨b', off', hab', hcell⟩ := hc (k * 6 + j) (by rw [hlen]; omega)
     rw [<- e1] at hab'
     injection hab' with hab'
     injection hab' with h1 h2
     subst h1 h2
     have hcw := zbh hI.out.2 hcell
     rw [hcw, <- zcf ps k j hkp hj]
     exact (List.getElem?_eq_getElem _).symm
    have hti := HI.out ps[k] (List.getElem_mem hkp)
    have htake : ps.take (k + 1) = ps.take k ++ [ps[k]] := List.take_succ_eq_append_getElem hkp
    obtain ⟨⟨t, E⟩, hP⟩ : ∃ z, ps[k] = z := ⟨_, rfl⟩
    rw [hP] at hat hti htake
    simp only at hat hti
    obtain ⟨ta, tn, tc, rfl⟩ := zan hti
    have HT := Hi hti
    have HTK := Hi htake
    obtain ⟨e0, e1', e2', e3', e4', e5'⟩ := E
    have hidx : ∀ j, off + (k * 6 + j) = off + k * 6 + j := fun j => by omega
    have p0 : wr.cell? ⟨b, off + k * 6, none⟩ = some (.int .i64 e0) := hat 0 (by omega)
    have p1 : wr.cell? ⟨b, off + k * 6 + 1, none⟩ = some (.int .i64 e1') := hat 1 (by omega)
    have p2 : wr.cell? ⟨b, off + k * 6 + 2, none⟩ = some (.slice ta tn tc) := hat 2 (by omega)
    have p3 : wr.cell? ⟨b, off + k * 6 + 3, none⟩ = some (.int .i64 e3') := hat 3 (by omega)
    have p4 : wr.cell? ⟨b, off + k * 6 + 4, none⟩ = some (.int .i64 e4') := hat 4 (by omega)
    have p5 : wr.cell? ⟨b, off + k * 6 + 5, none⟩ = some (.int .i64 e5') := hat 5 (by omega)
    have hEa : Ext wr (wr.alloc (.cells #[.int .i64 e0, .int .i64 e1', .slice ta tn tc, .int .i64 e3', .int .i64 e4', .int .i64 e5'] 84)) := Ext.alloc _ _
    have hEb : Ext (wr.alloc (.cells #[.int .i64 e0, .int .i64 e1', .slice ta tn tc, .int .i64 e3', .int .i64 e4', .int .i64 e5'] 84)) ((wr.alloc (.cells #[.int .i64 e0, .int .i64 e1', .slice ta tn tc, .int .i64 e3', .int .i64 e4', .int .i64 e5'] 84)).alloc (.cells #[.int .i64 e0, .int .i64 e1', .slice ta tn tc, .int .i64 e3', .int .i64 e4', .int .i64 e5'] 46)) := Ext.alloc _ _
    have O2 := Hi (za0 (za0 hI.out.1 hEa) hEb)
    have HSL := Hi (SlN.one6 (T := 46) (wr.alloc (.cells #[.int .i64 e0, .int .i64 e1', .slice ta tn tc, .int .i64 e3', .int .i64 e4', .int .i64 e5'] 84)) (.slice ta tn tc) ⟨e0, e1', e2', e3', e4', e5'⟩)
    have HSL2 := Hi (show SlN 6 ((wr.alloc (.cells #[.int .i64 e0, .int .i64 e1', .slice ta tn tc, .int .i64 e3', .int .i64 e4', .int .i64 e5'] 84)).alloc (.cells #[.int .i64 e0, .int .i64 e1', .slice ta tn tc, .int .i64 e3', .int .i64 e4', .int .i64 e5'] 46)) (.slice (some ⟨wr.heap.size + 1, 0, none⟩) 1 1) 1 (zah [(.slice ta tn tc, ⟨e0, e1', e2', e3', e4', e5'⟩)]) by have := HSL.out; rwa [World.size_alloc] at this)
    have hone := zb3 (w := w) (ps := [(.slice ta tn tc, ⟨e0, e1', e2', e3', e4', e5'⟩)]) (by intro q hq; obtain rfl := List.mem_singleton.1 hq; exact HT.out)
    have hk1 : k + 1 <= maxLen := by unfold maxLen; omega
    have hk2 : (k + 1) * 64 <= 140737488355328 := by omega
    have hEw := Hi ((hI.out.2.trans hEa).trans hEb)
    have HKP := Hi hkp
    clear hx0 hc hlen hat hti htake hP hEa hEb e1 e2 e3
    go_wp2_with (at_builtin; refine zeb rfl (.tmp 12) (.tmp 14) te rfl rfl rfl O2.out HSL2.out hone hk1 hk2 hEw.out.size ?_; intro v9 w9 hown9 hg9)
    obtain ⟨a9, n9, c9, rfl⟩ := zao hown9
    have hE9 : Ext w w9 := Below.grown hEw.out hg9 hEw.out.size (fun j hj => (O2.out.lt j hj).1)
    have HO9 := Hi (show w9.ownsRow w.heap.size 46 6 (.slice a9 n9 c9) (k + 1) (zah (ps.take (k + 1))) /\ Ext w w9 from ⟨by rw [HTK.out, zbm]; exact hown9, hE9⟩)
    clear hown9 hg9 hE9
    go_wp2_with fail
    go_roundw
    case rel => exact ⟨k + 1, by omega, by go_num, ⟨_, _, _, rfl⟩, HO9⟩
    case measure => simp [intOf]; omega
  . obtain rfl : k = n := by omega
    have hall : ps.take k = ps := List.take_of_length_le (by rw [HN.out]; exact Nat.le_refl _)
    rw [hall] at hI
    clear hall
    go_wp2_with fail
    go_ret
    exact ⟨_, rfl, hI.out.1, hI.out.2⟩
def EAtR12 (w : World) (q : Nat) (t : Value) (e : Ent.E) : Prop := w.heap[q]? = some (.cells (zab t e) 46 (0, 0))
section
variable {w w' : World} {q : Nat} {t : Value} {e : Ent.E}
theorem EAtR12.lt (h : EAtR12 w q t e) : q < w.heap.size := (Array.getElem?_eq_some_iff.1 h).1
theorem EAtR12.ext (h : EAtR12 w q t e) (hE : Ext w w') : EAtR12 w' q t e := zad h hE
theorem EAtR12.but {p : Nat} (h : EAtR12 w q t e) (hb : But p w w') (hq : q ≠ p) : EAtR12 w' q t e := (hb.block q h.lt hq).trans h
theorem EAtR12.block (h : EAtR12 w q t e) (hb : w'.heap[q]? = w.heap[q]?) : EAtR12 w' q t e := hb.trans h
theorem EAtR12.range (h : EAtR12 w q t e) : w.rangeAt q 0 (zab t e).toList := fun j v hj => by
 rw [zaa h, <- Array.getElem?_toList]
 simpa using hj
theorem EAtR12.ld (h : EAtR12 w q t e) (ht : ∃ a n c, t = .slice a n c) : (Instr.loadAt 46 (.pointer (some ⟨q, 0, none⟩))).run Tryz.prog w = .ok (.agg (zab t e)) w := by
 obtain ⟨a, n, c, rfl⟩ := ht
 exact run_loadAt_mid w q 0 46 (zab (.slice a n c) e).toList _ h.range Tryz.underlying46 rfl (by kernel_rfl)
theorem EAtR12.ldVar (h : EAtR12 w q t e) (ht : ∃ a n c, t = .slice a n c) : (loadVar 46 ⟨q, 0, none⟩).run Tryz.prog w = .ok (.agg (zab t e)) w := by
 obtain ⟨a, n, c, rfl⟩ := ht
 exact run_loadVar_mid w q 0 46 (zab (.slice a n c) e).toList _ h.range Tryz.underlying46 rfl (by kernel_rfl)
theorem EAtR12.number (h : EAtR12 w q t e) (n : Int) : EAtR12 (w.setCell ⟨q, 0, none⟩ (.int .i64 n)) q t ⟨n, e.kind, e.cut, e.tag, e.term, e.pos⟩ := heap_setCell h 0 (.int .i64 n)
end
section
variable {ops : Array Oper} {rest : List Oper} {op : Oper} {a : Act} {w : World} {Q : Exit -> Act -> World -> Prop}
end
def zb9 (o : Quo.Op) (vv rt et sv dv : Value) : Array Value := #[.int .i64 o.kind, .int .i64 o.tag, vv, .int .i64 o.term, .int .i64 o.pos, .int .i64 o.m.kind, .int .i64 o.m.src, .int .i64 o.m.dst, .int .i64 o.m.term, .int .i64 o.m.shard, .int .i64 o.m.number, .bool o.m.is, .int .i64 o.m.reco.client, .int .i64 o.m.reco.number, rt, .string ⟨o.m.reco.data.toArray⟩, .int .i64 o.m.ent.number, .int .i64 o.m.ent.kind, et, .int .i64 o.m.ent.tag, .int .i64 o.m.ent.term, .int .i64 o.m.ent.pos, .int .i64 o.m.ballot, .int .i64 o.m.old, .int .i64 o.m.conf.term, sv, dv]
structure IsOp12 (w : World) (o : Quo.Op) (vv rt et sv dv : Value) : Prop where
 hvv : Ints w vv o.v
 hrt : Ints w rt o.m.reco.tags
 het : Ints w et o.m.ent.cut
 hsv : Ints w sv o.m.conf.seqs
 hdv : IRows w dv o.m.conf.shards
theorem IsOp12.below {w w' : World} {o : Quo.Op} {vv rt et sv dv : Value} (h : IsOp12 w o vv rt et sv dv) (hb : Below w.heap.size w w') : IsOp12 w' o vv rt et sv dv := ⟨h.hvv.below hb, h.hrt.below hb, h.het.below hb, h.hsv.below hb, h.hdv.below hb⟩
theorem IsOp12.slices {w : World} {o : Quo.Op} {vv rt et sv dv : Value} (h : IsOp12 w o vv rt et sv dv) : (∃ a n c, vv = .slice a n c) /\ (∃ a n c, rt = .slice a n c) /\ (∃ a n c, et = .slice a n c) /\ (∃ a n c, sv = .slice a n c) /\ (∃ a n c, dv = .slice a n c) := ⟨zan h.hvv, zan h.hrt, zan h.het, zan h.hsv, zbw h.hdv⟩
def OpAt12 (w : World) (b : Nat) (o : Quo.Op) (vv rt et sv dv : Value) : Prop := w.heap[b]? = some (.cells (zb9 o vv rt et sv dv) 50 (0, 0))
theorem zfl (o : Quo.Op) (vv rt et sv dv : Value) : (zb9 o vv rt et sv dv).toList = [.int .i64 o.kind, .int .i64 o.tag, vv, .int .i64 o.term, .int .i64 o.pos] ++ (zag o.m rt et sv dv).toList := rfl
theorem OpAt12.range {w : World} {b : Nat} {o : Quo.Op} {vv rt et sv dv : Value} (h : OpAt12 w b o vv rt et sv dv) : w.rangeAt b 5 (zag o.m rt et sv dv).toList := fun j v hj => by
 rw [zaa h, <- Array.getElem?_toList, zfl, List.getElem?_append_right (by simp)]
 simpa using hj
end Go.Proofs.YtnoeconcpgdjlaaGreat
namespace Go.Proofs.YtnoeconcpgdjlaaGreat
set_option linter.unusedSimpArgs false
set_option linter.unusedVariables false
set_option maxRecDepth 100000
open Go.ChangeShapes Go.WideShapes Go.ChangeAt Go.RowKit
def OpHere12 (w : World) (b off : Nat) (o : Quo.Op) : Prop := ∃ vv rt et sv dv, w.rangeAt b off (zb9 o vv rt et sv dv).toList /\ IsOp12 w o vv rt et sv dv
theorem OpHere12.below {w w' : World} {b off : Nat} {o : Quo.Op} (h : OpHere12 w b off o) (hb : Below w.heap.size w w') : OpHere12 w' b off o := by
 obtain ⟨vv, rt, et, sv, dv, h1, h2⟩ := h
 exact ⟨vv, rt, et, sv, dv, fun j v hj => (hb.cell (p := ⟨b, off + j, none⟩) (World.block_lt_of_cell? w _ (h1 j v hj))).trans (h1 j v hj), h2.below hb⟩
def Ops12 (w : World) (v : Value) (l : List Quo.Op) : Prop :=
 ∃ (a : Option Addr) (cap : Nat), v = .slice a l.length cap /\ l.length <= cap /\ cap <= maxLen /\ (a = none -> cap = 0) /\ ∀ i (h : i < l.length), ∃ b off, a = some ⟨b, off, none⟩ /\ OpHere12 w b (off + i * 27) l[i]
theorem Ops12.below {w w' : World} {v : Value} {l : List Quo.Op} (h : Ops12 w v l) (hb : Below w.heap.size w w') : Ops12 w' v l := by
 obtain ⟨a, cap, rfl, h1, h2, h4, h3⟩ := h
 refine ⟨a, cap, rfl, h1, h2, h4, fun i hi => ?_⟩
 obtain ⟨b, off, e, hc⟩ := h3 i hi
 exact ⟨b, off, e, hc.below hb⟩
theorem Ops12.len {w : World} {a : Option Addr} {n c : Nat} {l : List Quo.Op} (h : Ops12 w (.slice a n c) l) : n = l.length /\ n <= c /\ c <= 9223372036854775807 := by
 obtain ⟨_, _, e, h1, h2, _⟩ := h
 injection e with e1 e2 e3
 subst e3
 unfold maxLen at h2
 omega
theorem Ops12.nil (w : World) : Ops12 w (.slice none 0 0) [] := ⟨none, 0, rfl, Nat.le_refl _, by simp [maxLen], fun _ => rfl, fun i hi => absurd hi (by simp)⟩
theorem OpHere12.ld {w : World} {b off : Nat} {o : Quo.Op} {vv rt et sv dv : Value} (h : w.rangeAt b off (zb9 o vv rt et sv dv).toList) : (Instr.loadAt 50 (.pointer (some ⟨b, off, none⟩))).run Tryz.prog w = .ok (.agg (zb9 o vv rt et sv dv)) w :=
 run_loadAt_mid w b off 50 (zb9 o vv rt et sv dv).toList _ h Tryz.underlying50 rfl (by kernel_rfl)
section
variable {H : Type} {enc : TypeId × Value -> H} {w : World} {base : Nat} {spare : Nat -> Bool} {held : Bool}
end
section
variable {ops : Array Oper} {rest : List Oper} {op : Oper} {a : Act} {w : World} {Q : Exit -> Act -> World -> Prop}
end
theorem OpAt12.ld {w : World} {b : Nat} {o : Quo.Op} {vv rt et sv dv : Value} (h : OpAt12 w b o vv rt et sv dv) : (Instr.loadAt 50 (.pointer (some ⟨b, 0, none⟩))).run Tryz.prog w = .ok (.agg (zb9 o vv rt et sv dv)) w :=
 OpHere12.ld (fun j v hj => by rw [zaa h, <- Array.getElem?_toList]; simpa using hj)
theorem Ops12.at {W : World} {a : Option Addr} {n c : Nat} {l : List Quo.Op} (h : Ops12 W (.slice a n c) l) (k : Nat) (hk : k < l.length) : ∃ b off a2 n2 c2 a3 n3 c3 a4 n4 c4 a5 n5 c5 a6 n6 c6, a = some ⟨b, off, none⟩ ∧
 (∀ w', Below W.heap.size W w' -> IsOp12 w' l[k] (.slice a2 n2 c2) (.slice a3 n3 c3) (.slice a4 n4 c4) (.slice a5 n5 c5) (.slice a6 n6 c6)) ∧
 ∀ w', Below W.heap.size W w' -> (Instr.loadAt 50 (.pointer (some ⟨b, off + k * 27, none⟩))).run Tryz.prog w' = .ok (.agg (zb9 l[k] (.slice a2 n2 c2) (.slice a3 n3 c3) (.slice a4 n4 c4) (.slice a5 n5 c5) (.slice a6 n6 c6))) w' := by
 obtain ⟨_, _, e', _, _, _, hc⟩ := h
 obtain ⟨b, off, rfl, vv, rt, et, sv, dv, hr, ho⟩ := hc k hk
 injection e' with e1 e2 e3
 subst e1
 obtain ⟨⟨a2, n2, c2, rfl⟩, ⟨a3, n3, c3, rfl⟩, ⟨a4, n4, c4, rfl⟩, ⟨a5, n5, c5, rfl⟩, ⟨a6, n6, c6, rfl⟩⟩ := ho.slices
 exact ⟨b, off, a2, n2, c2, a3, n3, c3, a4, n4, c4, a5, n5, c5, a6, n6, c6, rfl, fun w' hb => ho.below hb, fun w' hb => OpHere12.ld fun j v hj => (hb.cell (p := ⟨b, off + k * 27 + j, none⟩) (World.block_lt_of_cell? W _ (hr j v hj))).trans (hr j v hj)⟩
theorem IRows.rowAt12 {w : World} {a : Option Addr} {n c : Nat} {ls : List (List Int)} (h : IRows w (.slice a n c) ls) : n <= c /\ c <= 9223372036854775807 /\ ∀ j, j < n -> ∃ b off a' n' c', a = some ⟨b, off, none⟩ /\ w.cell? ⟨b, off + j, none⟩ = some (.slice a' n' c') := by
 obtain ⟨a', cap, e, h1, h2, h3⟩ := h.open
 injection e with e1 e2 e3
 subst e1 e2 e3
 unfold maxLen at h2
 refine ⟨h1, h2, fun j hj => ?_⟩
 obtain ⟨b, off, x, e, hc, hi⟩ := h3 j hj
 obtain ⟨a2, n2, c2, rfl⟩ := zan hi
 exact ⟨b, off, a2, n2, c2, e, hc⟩
end Go.Proofs.YtnoeconcpgdjlaaGreat
namespace Go.Proofs.YtnoeconcpgdjlaaGreat
set_option linter.unusedSimpArgs false
set_option linter.unusedVariables false
set_option maxRecDepth 100000
open Go.RowKit
theorem IsPr.lower12 {w : World} {B B' x : Nat} {S K : Nat -> Prop} {p : Quo.Pr} (h : IsPr w B S K x p) (hB : B' <= B) : IsPr w B' S K x p := by
 obtain ⟨kb, ev, es, h⟩ := h
 exact ⟨kb, ev, es, h.lower hB⟩
theorem IsSe.lower12 {w : World} {B B' x : Nat} {S : Nat -> Prop} {s : Quo.Se} (h : IsSe w B S x s) (hB : B' <= B) : IsSe w B' S x s := by
 obtain ⟨kb, sv, ev, es, h⟩ := h
 exact ⟨kb, sv, ev, es, h.sub, fun k hk => ⟨Nat.le_trans hB (h.lt k hk).1, (h.lt k hk).2⟩, h.at'.lower hB, h.ok, h.short⟩
structure Al12 (W : World) (SP KP SS F : Nat -> Prop) (xp xs : Nat) (p : Quo.Pr) (s : Quo.Se) (w : World) : Prop where
 pr : IsPr w W.heap.size SP KP xp p
 se : IsSe w W.heap.size SS xs s
 ext : Ext W w
 dis : ∀ k, SS k -> ¬ SP k /\ ¬ KP k
 fre : ∀ k, F k -> (W.heap.size <= k /\ k < w.heap.size) /\ ¬ SP k /\ ¬ KP k /\ ¬ SS k
def Fix12 (F : Nat -> Prop) (w w' : World) : Prop := ∀ k, F k -> w'.heap[k]? = w.heap[k]?
section
variable {W w w' : World} {SP KP SS F : Nat -> Prop} {xp xs : Nat} {p p' : Quo.Pr} {s s' : Quo.Se}
theorem zhf (hE : Ext W w) (ht : TwS SP w w') (hl : ∀ k, SP k -> W.heap.size <= k) : Ext W w' :=
 ⟨ht.os.trans hE.os, ht.tape.trans hE.tape, ht.output.trans hE.output, Nat.le_trans hE.size ht.size, fun k hk => (ht.block k (Nat.lt_of_lt_of_le hk hE.size) (fun hs => by have := hl k hs; omega)).trans (hE.block k hk)⟩
theorem Al12.grow (h : Al12 W SP KP SS F xp xs p s w) (hE : Ext w w') : Al12 W SP KP SS (fun k => F k \/ (w.heap.size <= k /\ k < w'.heap.size)) xp xs p s w' :=
 ⟨h.pr.ext hE, h.se.ext hE, h.ext.trans hE, h.dis, fun k hk => by
  rcases hk with hk | hk
  . have := h.fre k hk
    exact ⟨⟨this.1.1, Nat.lt_of_lt_of_le this.1.2 hE.size⟩, this.2⟩
  . exact ⟨⟨Nat.le_trans h.ext.size hk.1, hk.2⟩, fun e => by have := (h.pr.lt e).2; omega, fun e => by have := (h.pr.ltK e).2; omega, fun e => by have := (h.se.lt k e).2; omega⟩⟩
theorem Al12.extend (h : Al12 W SP KP SS F xp xs p s w) (hE : Ext w w') : Al12 W SP KP SS F xp xs p s w' :=
 ⟨h.pr.ext hE, h.se.ext hE, h.ext.trans hE, h.dis, fun k hk => ⟨⟨(h.fre k hk).1.1, Nat.lt_of_lt_of_le (h.fre k hk).1.2 hE.size⟩, (h.fre k hk).2⟩⟩
theorem Al12.but {q : Nat} (h : Al12 W SP KP SS F xp xs p s w) (hq : F q) (hb : But q w w') : Al12 W SP KP SS F xp xs p s w' := by
 have hf := h.fre q hq
 refine ⟨h.pr.keep fun k hk hs => hb.block k hk (fun e => ?_), h.se.keep hb.size fun k hk hs => hb.block k hk (fun e => hf.2.2.2 (e ▸ hs)), Ext.newQ11 h.ext hf.1.1 hb, h.dis, fun k hk => ⟨⟨(h.fre k hk).1.1, Nat.lt_of_lt_of_le (h.fre k hk).1.2 hb.size⟩, (h.fre k hk).2⟩⟩
 subst e
 rcases hs with hs | hs
 . exact hf.2.1 hs
 . exact hf.2.2.1 hs
theorem Al12.stepP (h : Al12 W SP KP SS F xp xs p s w) (hl : LeavesPr W.heap.size SP KP xp w p' w') : ∃ SP' KP', Al12 W SP' KP' SS F xp xs p' s w' /\ TwS SP w w' /\ Fix12 F w w' := by
 obtain ⟨SP', KP', h1, h2, h3, h4⟩ := hl
 refine ⟨SP', KP', ⟨h1, h.se.tws h2 (fun k hk => (h.dis k hk).1), zhf h.ext h2 (fun k hk => (h.pr.lt hk).1), fun k hk => ⟨fun e => (h.dis k hk).1 (h3 k (h.se.lt k hk).2 e), fun e => (h.dis k hk).2 (h4 k (h.se.lt k hk).2 e)⟩, fun k hk => ?_⟩, h2, fun k hk => h2.block k (h.fre k hk).1.2 (h.fre k hk).2.1⟩
 have := h.fre k hk
 exact ⟨⟨this.1.1, Nat.lt_of_lt_of_le this.1.2 h2.size⟩, fun e => this.2.1 (h3 k this.1.2 e), fun e => this.2.2.1 (h4 k this.1.2 e), this.2.2.2⟩
theorem Al12.stepS (h : Al12 W SP KP SS F xp xs p s w) (hl : LeavesSe W.heap.size SS xs w s' w') : ∃ SS', Al12 W SP KP SS' F xp xs p s' w' /\ Fix12 F w w' := by
 obtain ⟨SS', h1, h2, h3⟩ := hl
 refine ⟨SS', ⟨h.pr.keep fun k hk hs => h2.block k hk (fun e => ?_), h1, zhf h.ext h2 (fun k hk => (h.se.lt k hk).1), fun k hk => ⟨fun e => ?_, fun e => ?_⟩, fun k hk => ?_⟩, fun k hk => h2.block k (h.fre k hk).1.2 (h.fre k hk).2.2.2⟩
 . rcases hs with hs | hs
   . exact (h.dis k e).1 hs
   . exact (h.dis k e).2 hs
 . have hlt := (h.pr.lt e).2
   exact (h.dis k (h3 k hlt hk)).1 e
 . have hlt := (h.pr.ltK e).2
   exact (h.dis k (h3 k hlt hk)).2 e
 . have := h.fre k hk
   exact ⟨⟨this.1.1, Nat.lt_of_lt_of_le this.1.2 h2.size⟩, this.2.1, this.2.2.1, fun e => this.2.2.2 (h3 k this.1.2 e)⟩
end
theorem RowN.pr12 {B : Nat} {w w' : World} {v : Value} {l : List Int} {C x : Nat} {S K : Nat -> Prop} {p : Quo.Pr} (h : RowN B w v l) (hp : IsPr w C S K x p) (ht : TwS S w w') : RowN B w' v l := by
 obtain ⟨b, n, hb, ho⟩ := id h
 exact h.blocks fun g hg => ht.block g (h.lt g hg).2 (by obtain ⟨cur, hc⟩ := ownAt ho hg; exact hp.ints hc)
def al12 (w : World) : World := (((w.alloc (.cells #[.int .i64 0, .int .i64 1, .int .i64 2] 3)).alloc (.cells #[.int .i64 3] 3)).alloc (.cells #[.int .i64 4] 3)).alloc (.cells #[.slice (some ⟨w.heap.size + 1, 0, none⟩) 1 1, .slice (some ⟨w.heap.size + 1 + 1, 0, none⟩) 1 1] 22)
theorem zcb (w : World) (cs : List Value) (e : TypeId) (hm : cs.length <= maxLen) : (w.alloc (.cells cs.toArray e)).ownsRow w.heap.size e 1 (.slice (some ⟨w.heap.size, 0, none⟩) cs.length cs.length) cs.length cs :=
 ⟨by simp, .inr ⟨_, cs.length, cs.toArray, rfl, Nat.le_refl _, heap_alloc_new w _, Nat.le_refl _, hm, by simp, by simp⟩⟩
theorem zoe (w : World) : IsConf (al12 w) (confV 1 (.slice (some ⟨w.heap.size, 0, none⟩) 3 3) (.slice (some ⟨w.heap.size + 1 + 1 + 1, 0, none⟩) 2 2)) Quo.exC := by
 obtain ⟨w1, h1⟩ : ∃ z, w.alloc (.cells #[.int .i64 0, .int .i64 1, .int .i64 2] 3) = z := ⟨_, rfl⟩
 obtain ⟨w2, h2⟩ : ∃ z, w1.alloc (.cells #[.int .i64 3] 3) = z := ⟨_, rfl⟩
 obtain ⟨w3, h3⟩ : ∃ z, w2.alloc (.cells #[.int .i64 4] 3) = z := ⟨_, rfl⟩
 have r1 := zcb w [.int .i64 0, .int .i64 1, .int .i64 2] 3 (by simp [maxLen])
 have r2 := zcb w1 [.int .i64 3] 3 (by simp [maxLen])
 have r3 := zcb w2 [.int .i64 4] 3 (by simp [maxLen])
 have r4 := zcb w3 [.slice (some ⟨w.heap.size + 1, 0, none⟩) 1 1, .slice (some ⟨w.heap.size + 1 + 1, 0, none⟩) 1 1] 22 (by simp [maxLen])
 have z1 : w1.heap.size = w.heap.size + 1 := by rw [<- h1, World.size_alloc]
 have z2 : w2.heap.size = w.heap.size + 1 + 1 := by rw [<- h2, World.size_alloc, z1]
 have z3 : w3.heap.size = w.heap.size + 1 + 1 + 1 := by rw [<- h3, World.size_alloc, z2]
 have hal : al12 w = w3.alloc (.cells #[.slice (some ⟨w.heap.size + 1, 0, none⟩) 1 1, .slice (some ⟨w.heap.size + 1 + 1, 0, none⟩) 1 1] 22) := by unfold al12; rw [h1, h2, h3]
 have e2 : Ext w1 w2 := by rw [<- h2]; exact Ext.alloc _ _
 have e3 : Ext w2 w3 := by rw [<- h3]; exact Ext.alloc _ _
 have e4 : Ext w3 (al12 w) := by rw [hal]; exact Ext.alloc _ _
 simp only [List.length_cons, List.length_nil] at r1 r2 r3 r4
 rw [show w.alloc (.cells [Value.int .i64 0, Value.int .i64 1, Value.int .i64 2].toArray 3) = w1 from h1] at r1
 rw [show w1.alloc (.cells [Value.int .i64 3].toArray 3) = w2 from h2, z1] at r2
 rw [show w2.alloc (.cells [Value.int .i64 4].toArray 3) = w3 from h3, z2] at r3
 rw [show w3.alloc (.cells [Value.slice (some ⟨w.heap.size + 1, 0, none⟩) 1 1, .slice (some ⟨w.heap.size + 1 + 1, 0, none⟩) 1 1].toArray 22) = al12 w from hal.symm, z3] at r4
 refine ⟨_, _, rfl, (show OwnI (al12 w) w.heap.size _ [0, 1, 2] from za0 r1 ((e2.trans e3).trans e4)).ints, (show OwnRR (al12 w) w.heap.size (.slice (some ⟨w.heap.size + 1 + 1 + 1, 0, none⟩) 2 2) [[3], [4]] from ⟨[.slice (some ⟨w.heap.size + 1, 0, none⟩) 1 1, .slice (some ⟨w.heap.size + 1 + 1, 0, none⟩) 1 1], zaw r4 (by omega), rfl, fun i h h' => ?_⟩).rows⟩
 match i, h with
 | 0, _ => exact zaw (za0 r2 (e3.trans e4)) (by omega)
 | 1, _ => exact zaw (za0 r3 e4) (by omega)
theorem zm6 (w : World) : (Instr.build 89 #[(0, .int .i64 4), (3, .int .i64 1), (5, .int .i64 1)]).run Tryz.prog w = .ok (.agg (zag Quo.exM0 (.slice none 0 0) (.slice none 0 0) (.slice none 0 0) (.slice none 0 0))) w := by kernel_rfl
theorem znk (w : World) : (Instr.build 89 #[(0, .int .i64 6), (1, .int .i64 1), (3, .int .i64 1), (5, .int .i64 1), (6, .bool true)]).run Tryz.prog w = .ok (.agg (zag Quo.exM1 (.slice none 0 0) (.slice none 0 0) (.slice none 0 0) (.slice none 0 0))) w := by kernel_rfl
theorem zes (w : World) {m : Msg.M} (h1 : m.reco.tags = []) (h2 : m.ent.cut = []) (h3 : m.conf.seqs = []) (h4 : m.conf.shards = []) : IsMsg w (.agg (zag m (.slice none 0 0) (.slice none 0 0) (.slice none 0 0) (.slice none 0 0))) m := ⟨_, _, _, _, rfl, by rw [h1]; exact ints0 w, by rw [h2]; exact ints0 w, by rw [h3]; exact ints0 w, by rw [h4]; exact zjl w⟩
set_option maxHeartbeats 40000000 in
theorem zfp (w : World) : Calls Tryz.prog 6 #[] w fun e w' => e = .returned (.bool true) /\ Ext w w' := by
 go_enter Tryz.func6, Tryz.ntmps6
 go_upto_region 2 with fail
 have hal := zoe w
 have hE0 : Ext w (al12 w) := (((Ext.alloc _ _).trans (Ext.alloc _ _)).trans (Ext.alloc _ _)).trans (Ext.alloc _ _)
 have hz0 : (al12 w).heap.size = w.heap.size + 1 + 1 + 1 + 1 := by unfold al12; simp [World.size_alloc]
 obtain ⟨w0, hw0⟩ : ∃ z, al12 w = z := ⟨_, rfl⟩
 rw [hw0] at hal hE0 hz0
 unfold al12 at hw0
 rw [hw0]
 obtain ⟨g, hg⟩ : ∃ z, w.heap.size = z := ⟨_, rfl⟩
 rw [hg] at hal hz0 ⊢
 have hE1 : Ext w0 (w0.alloc (.cells #[.int .i64 1, .slice (some ⟨g, 0, none⟩) 3 3, .slice (some ⟨g + 1 + 1 + 1, 0, none⟩) 2 2] 33)) := Ext.alloc _ _
 have hc1 := heap_alloc_new w0 (.cells #[.int .i64 1, .slice (some ⟨g, 0, none⟩) 3 3, .slice (some ⟨g + 1 + 1 + 1, 0, none⟩) 2 2] 33)
 rw [hz0] at hc1
 obtain ⟨w1, hw1⟩ : ∃ z, w0.alloc (.cells #[.int .i64 1, .slice (some ⟨g, 0, none⟩) 3 3, .slice (some ⟨g + 1 + 1 + 1, 0, none⟩) 2 2] 33) = z := ⟨_, rfl⟩
 rw [hw1] at hE1 hc1 ⊢
 have HCF := Hi (show ∀ w', Ext w1 w' -> IsConf w' (.agg #[.int .i64 1, .slice (some ⟨g, 0, none⟩) 3 3, .slice (some ⟨g + 1 + 1 + 1, 0, none⟩) 2 2]) Quo.exC from fun w' h => by
  obtain ⟨s, d, e, h1, h2⟩ := hal
  exact ⟨s, d, e, h1.below (hE1.trans h), h2.below (hE1.trans h)⟩)
 have HC1 := Hi (And.intro hc1 (hE0.trans hE1))
 have y0 := zaa hc1 0
 have y1 := zaa hc1 1
 have y2 := zaa hc1 2
 simp at y0 y1 y2
 clear hal hE0 hz0 hw0 hg hE1 hc1 hw1
 go_wp2_with fail
 refine (zji w1 _ Quo.exC (HCF.out w1 (Ext.refl _))).mono ?_
 rintro e w2 ⟨h, hE2⟩
 rcases h with ⟨x, _, rfl, SP0, KP0, hpr⟩ | ⟨h, _⟩
 case inr => exact absurd Quo.exC_right (by rw [h]; decide)
 have HPR := Hi (hpr.lower12 HC1.out.2.size)
 have HC2 := Hi (And.intro (zad HC1.out.1 hE2) (HC1.out.2.trans hE2))
 have HCF2 := Hi (HCF.out w2 hE2)
 have z0 := zaa HC2.out.1 0
 have z1 := zaa HC2.out.1 1
 have z2 := zaa HC2.out.1 2
 simp at z0 z1 z2
 clear hpr hE2 y0 y1 y2 HCF HC1
 go_wp2_with fail
 refine (zg1 w2 _ Quo.exC HCF2.out).mono ?_
 rintro e w3 ⟨h, hE3⟩
 rcases h with ⟨xs, _, rfl, SS0, hse⟩ | ⟨h, _⟩
 case inr => exact absurd Quo.exC_right (by rw [h]; decide)
 have hA3 : Al12 w SP0 KP0 SS0 (fun _ => False) x xs (Quo.new Quo.exC) Quo.exS0 w3 := ⟨HPR.out.ext hE3, hse.lower12 HC2.out.2.size, HC2.out.2.trans hE3, fun k hk => ⟨fun e => by have := (HPR.out.lt e).2; have := (hse.lt k hk).1; omega, fun e => by have := (HPR.out.ltK e).2; have := (hse.lt k hk).1; omega⟩, fun k hk => hk.elim⟩
 have HA3 := Hi hA3
 clear hA3 hse hE3 HPR HC2 HCF2 z0 z1 z2
 go_upto_region 6 with fail
 have hE4 : Ext w3 (w3.alloc (.cells #[.int .i64 1, .int .i64 0] 3)) := Ext.alloc _ _
 have how4 := zcb w3 [.int .i64 1, .int .i64 0] 3 (by simp [maxLen])
 simp only [List.length_cons, List.length_nil] at how4
 go_wp2_with fail
 obtain ⟨w4, hw4⟩ : ∃ z, w3.alloc (.cells #[.int .i64 1, .int .i64 0] 3) = z := ⟨_, rfl⟩
 rw [hw4] at hE4 ⊢
 rw [show w3.alloc (.cells [Value.int .i64 1, Value.int .i64 0].toArray 3) = w4 from hw4] at how4
 refine (zeo (HA3.out.extend hE4).pr (.slice (some ⟨w3.heap.size, 0, none⟩) 2 2) [1, 0] (show OwnI w4 w3.heap.size _ [1, 0] from how4).ints).mono ?_
 rw [Quo.ex_cut1.1, Quo.ex_cut1.2.1, Quo.ex_cut1.2.2]
 rintro e w5 ⟨u, rfl, hu, hl⟩
 obtain ⟨ua, un, uc, rfl⟩ := zan hu.row.ints
 obtain ⟨SP5, KP5, hA5, _, _⟩ := (HA3.out.extend hE4).stepP hl
 have HA5 := Hi hA5
 have HU5 := Hi (show RowN w3.heap.size w5 (.slice ua un uc) Quo.exE.cut from hu.lower hE4.size)
 have HSS := Hi (show ∀ k, SS0 k -> k < w3.heap.size from fun k hk => (HA3.out.se.lt k hk).2)
 clear hE4 how4 hw4 hu hl hA5 HA3
 go_upto_region 7 with (first
  | (refine zeh (by rfl) rfl ?_; intro W6 q6 hat6 hE6 hq6)
  | (refine putE12 (t2 := .slice ua un uc) (e2 := Quo.exE) (by rfl) _ _ rfl rfl rfl hat6.out ⟨_, _, _, rfl⟩ ?_; intro W7 hat7 hB7))
 have hE7 : Ext w5 W7 := Ext.newQ11 hE6.out (Nat.le_of_eq hq6.out.symm) hB7.out
 have HA7 := Hi (HA5.out.grow hE7)
 have HU7 := Hi (HU5.out.ext hE7)
 have HAT7 := Hi hat7.out
 have HF7 := Hi (show (fun k => False \/ (w5.heap.size <= k /\ k < W7.heap.size)) q6 from .inr ⟨Nat.le_of_eq hq6.out.symm, hat7.out.lt⟩)
 obtain ⟨F, hF⟩ : ∃ F : Nat -> Prop, F = fun k => False \/ (w5.heap.size <= k /\ k < W7.heap.size) := ⟨_, rfl⟩
 rw [<- hF] at HA7 HF7
 clear hE7 hF hat6 hE6 hq6 hat7 hB7 HA5 HU5
 have hE8 : Ext W7 (W7.alloc (.cells #[.int .i64 1, .int .i64 0] 3)) := Ext.alloc _ _
 have how8 := zcb W7 [.int .i64 1, .int .i64 0] 3 (by simp [maxLen])
 simp only [List.length_cons, List.length_nil] at how8
 go_wp2_with fail
 obtain ⟨w8, hw8⟩ : ∃ z, W7.alloc (.cells #[.int .i64 1, .int .i64 0] 3) = z := ⟨_, rfl⟩
 rw [hw8] at hE8 ⊢
 rw [show W7.alloc (.cells [Value.int .i64 1, Value.int .i64 0].toArray 3) = w8 from hw8] at how8
 refine (zeo (HA7.out.extend hE8).pr (.slice (some ⟨W7.heap.size, 0, none⟩) 2 2) [1, 0] (show OwnI w8 W7.heap.size _ [1, 0] from how8).ints).mono ?_
 rw [Quo.ex_cut2.1, Quo.ex_cut2.2.1, Quo.ex_cut2.2.2]
 rintro e w9 ⟨u9, rfl, hu9, hl9⟩
 obtain ⟨u9a, u9n, u9c, rfl⟩ := zan hu9.row.ints
 obtain ⟨SP9, KP9, hA9, ht9, hf9⟩ := (HA7.out.extend hE8).stepP hl9
 have HA9 := Hi hA9
 have HU9 := Hi ((HU7.out.ext hE8).pr12 (HA7.out.extend hE8).pr ht9)
 have HAT9 := Hi ((HAT7.out.ext hE8).block (hf9 q6 HF7.out))
 clear hE8 how8 hw8 hu9 hl9 hA9 ht9 hf9 HA7 HU7 HAT7
 have hb0 := zm6
 have hb1 := znk
 go_upto_region 8 with (first
  | (refine zeh (by rfl) rfl ?_; intro W10 q10 hat10 hE10 hq10)
  | (refine putE12 (t2 := .slice u9a u9n u9c) (e2 := Msg.ent0) (by rfl) _ _ rfl rfl rfl hat10.out ⟨_, _, _, rfl⟩ ?_; intro W11 hat11 hB11))
 have hE11 : Ext w9 W11 := Ext.newQ11 hE10.out (Nat.le_of_eq hq10.out.symm) hB11.out
 have HA11 := Hi (HA9.out.extend hE11)
 have HU11 := Hi (HU9.out.ext hE11)
 have HAT11 := Hi (HAT9.out.ext hE11)
 clear hE11 hat10 hE10 hq10 hat11 hB11 HA9 HU9 HAT9
 go_wp2_with fail
 refine (zcm HA11.out.pr _ Quo.exM0 (zes _ rfl rfl rfl rfl) (show Wf64 _ from rfl)).mono ?_
 rw [Quo.ex_hear1]
 rintro e w12 ⟨rfl, hl12⟩
 obtain ⟨SP12, KP12, hA12, ht12, hf12⟩ := HA11.out.stepP hl12
 have HA12 := Hi (show Al12 w SP12 KP12 SS0 F x xs Quo.exP2 Quo.exS0 w12 from hA12)
 have HU12 := Hi (HU11.out.pr12 HA11.out.pr ht12)
 have HAT12 := Hi (HAT11.out.block (hf12 q6 HF7.out))
 clear hl12 hA12 ht12 hf12 HA11 HU11 HAT11
 go_wp2_with fail
 refine (zcm HA12.out.pr _ Quo.exM1 (zes _ rfl rfl rfl rfl) (show Wf64 _ from rfl)).mono ?_
 rw [Quo.ex_hear2]
 rintro e w13 ⟨rfl, hl13⟩
 obtain ⟨SP13, KP13, hA13, ht13, hf13⟩ := HA12.out.stepP hl13
 have HA13 := Hi (show Al12 w SP13 KP13 SS0 F x xs Quo.exP3 Quo.exS0 w13 from hA13)
 have HU13 := Hi (HU12.out.pr12 HA12.out.pr ht13)
 have HAT13 := Hi (HAT12.out.block (hf13 q6 HF7.out))
 clear hl13 hA13 ht13 hf13 HA12 HU12 HAT12 hb0 hb1
 have hE14 : Ext w13 (w13.alloc (.cells #[.int .i64 2, .int .i64 0] 3)) := Ext.alloc _ _
 have how14 := zcb w13 [.int .i64 2, .int .i64 0] 3 (by simp [maxLen])
 simp only [List.length_cons, List.length_nil] at how14
 go_wp2_with fail
 obtain ⟨w14, hw14⟩ : ∃ z, w13.alloc (.cells #[.int .i64 2, .int .i64 0] 3) = z := ⟨_, rfl⟩
 rw [hw14] at hE14 ⊢
 rw [show w13.alloc (.cells [Value.int .i64 2, Value.int .i64 0].toArray 3) = w14 from hw14] at how14
 refine (zeo (HA13.out.extend hE14).pr (.slice (some ⟨w13.heap.size, 0, none⟩) 2 2) [2, 0] (show OwnI w14 w13.heap.size _ [2, 0] from how14).ints).mono ?_
 rw [Quo.ex_cut3.1, Quo.ex_cut3.2.1, Quo.ex_cut3.2.2]
 rintro e w15 ⟨u15, rfl, hu15, hl15⟩
 obtain ⟨u15a, u15n, u15c, rfl⟩ := zan hu15.row.ints
 obtain ⟨SP15, KP15, hA15, ht15, hf15⟩ := (HA13.out.extend hE14).stepP hl15
 have HA15 := Hi hA15
 have HU15 := Hi ((HU13.out.ext hE14).pr12 (HA13.out.extend hE14).pr ht15)
 have HAT15 := Hi ((HAT13.out.ext hE14).block (hf15 q6 HF7.out))
 clear hE14 how14 hw14 hu15 hl15 hA15 ht15 hf15 HA13 HU13 HAT13
 go_upto_region 11 with (first
  | (refine zeh (by rfl) rfl ?_; intro W16 q16 hat16 hE16 hq16)
  | (refine putE12 (t2 := .slice u15a u15n u15c) (e2 := Msg.ent0) (by rfl) _ _ rfl rfl rfl hat16.out ⟨_, _, _, rfl⟩ ?_; intro W17 hat17 hB17))
 have hE17 : Ext w15 W17 := Ext.newQ11 hE16.out (Nat.le_of_eq hq16.out.symm) hB17.out
 have HA17 := Hi (HA15.out.extend hE17)
 have HU17 := Hi (HU15.out.ext hE17)
 have HAT17 := Hi (HAT15.out.ext hE17)
 clear hE17 hat16 hE16 hq16 hat17 hB17 HA15 HU15 HAT15
 have hle := HAT17.out.ld ⟨_, _, _, rfl⟩
 have hE18 : Ext W17 (W17.alloc (.cells (zab (.slice ua un uc) Quo.exE) 84)) := Ext.alloc _ _
 have hrow18 : (W17.alloc (.cells (zab (.slice ua un uc) Quo.exE) 84)).ownsRow W17.heap.size 84 6 (.slice (some ⟨W17.heap.size, 0, none⟩) 1 1) 1 (zah [(.slice ua un uc, Quo.exE)]) := ⟨by simp [zah], .inr ⟨_, 1, _, rfl, Nat.le_refl _, heap_alloc_new W17 _, Nat.le_refl _, by simp [maxLen], by simp [zab], by rfl⟩⟩
 go_wp2_with (first
  | (refine ldAny (by rfl) _ rfl rfl hle ?_)
  | (refine zod (.slice (some ⟨W17.heap.size, 0, none⟩) 1 1) (o := .buildSlice 61 _ _) rfl (by kernel_rfl) (w' := W17.alloc (.cells (zab (.slice ua un uc) Quo.exE) 84)) (by kernel_rfl) ?_))
 obtain ⟨w18, hw18⟩ : ∃ z, W17.alloc (.cells (zab (.slice ua un uc) Quo.exE) 84) = z := ⟨_, rfl⟩
 rw [hw18] at hE18 hrow18 ⊢
 have hA18 := HA17.out.extend hE18
 have hnS : ∀ k, SS0 k -> k < w3.heap.size := HSS.out
 refine (zdn hA18.se 0 rfl (.slice (some ⟨W17.heap.size, 0, none⟩) 1 1) [(.slice ua un uc, Quo.exE)] (by simp) (fun w' ht => ⟨SlN.ofOwn (za1 hrow18 fun k hk => ht.block k (hrow18.lt k hk).2 (fun hs => by have h1 := HA17.out.se.lt k hs; have h2 := (hrow18.lt k hk).1; omega)), fun q hq => by
  obtain rfl := List.mem_singleton.1 hq
  have hu := HU17.out.ext hE18
  exact (hu.blocks fun k hk => ht.block k (hu.lt k hk).2 (fun hs => by have h1 := hnS k hs; have h2 := (hu.lt k hk).1; omega)).row.ints⟩)).mono ?_
 rintro e w19 ⟨rfl, hl19⟩
 obtain ⟨SS19, hA19, hf19⟩ := hA18.stepS hl19
 have HAT19 := Hi ((HAT17.out.ext hE18).block (hf19 q6 HF7.out))
 have HA19 := Hi (show Al12 w SP15 KP15 SS19 F x xs Quo.exP3 Quo.exS1 w19 from hA19)
 rw [show Quo.exS0.hears 0 ([(Value.slice ua un uc, Quo.exE)].map (·.2)) = true from Quo.ex_s1h]
 clear hle hE18 hrow18 hw18 hA18 hnS hl19 hA19 hf19 HA17 HU17 HAT17
 go_wp2_with fail
 refine (zdn HA19.out.se 1 rfl (.slice none 0 0) [] (by simp) (fun w' ht => ⟨SlN.ofOwn (World.ownsRow_nil w' w'.heap.size 84 6), fun q hq => by cases hq⟩)).mono ?_
 rintro e w20 ⟨rfl, hl20⟩
 obtain ⟨SS20, hA20, hf20⟩ := HA19.out.stepS hl20
 have HAT20 := Hi (HAT19.out.block (hf20 q6 HF7.out))
 have HA20 := Hi (show Al12 w SP15 KP15 SS20 F x xs Quo.exP3 Quo.exS2 w20 from hA20)
 rw [show Quo.exS1.hears 1 (([] : List (Value × Ent.E)).map (·.2)) = true from Quo.ex_s2h]
 clear hl20 hA20 hf20 HA19 HAT19
 go_wp2_with fail
 refine (zgz HA20.out.se).mono ?_
 rw [Quo.ex_done, Quo.ex_long]
 rintro e w21 ⟨ut, qt, rfl, hE21, hrow21, hqs21, _⟩
 obtain ⟨ta, tn, tc, rfl⟩ := zao hrow21
 have htn : tn = 1 := by
  have h1 := zcv hrow21
  have h2 := congrArg List.length hqs21
  simp [zkg] at h2
  omega
 subst htn
 have HA21 := Hi (HA20.out.extend hE21)
 have y0 : w21.cell? ⟨q6, 0, none⟩ = some (.int .i64 1) := zaa (HAT20.out.ext hE21) 0
 clear hE21 hrow21 hqs21 HA20 HAT20
 go_wp2_with fail
 refine (zdg HA21.out.pr).mono ?_
 rw [Quo.ex_committed]
 rintro e w22 ⟨rfl, hE22⟩
 have HA22 := Hi (HA21.out.extend hE22)
 clear hE22 HA21 y0
 go_wp2_with fail
 refine (zhl HA22.out.pr 2 rfl).mono ?_
 rw [Quo.ex_missing]
 rintro e w23 ⟨um, qm, rfl, hE23, hrow23, hqs23, _⟩
 obtain ⟨ma, mn, mc, rfl⟩ := zao hrow23
 have hmn : mn = 1 := by
  have h1 := zcv hrow23
  have h2 := congrArg List.length hqs23
  simp at h2
  omega
 subst hmn
 have HA23 := Hi (HA22.out.extend hE23)
 clear hE23 hrow23 hqs23 HA22
 go_wp2_with fail
 go_ret
 exact ⟨rfl, HA23.out.ext⟩
structure Seat12 (W : World) (S K : Nat -> Prop) (x : Nat) (p : Quo.Pr) (w : World) : Prop where
 pr : IsPr w W.heap.size S K x p
 ext : Ext W w
section
variable {W w w' : World} {S K : Nat -> Prop} {x : Nat} {p p' : Quo.Pr}
theorem Seat12.extend (h : Seat12 W S K x p w) (hE : Ext w w') : Seat12 W S K x p w' := ⟨h.pr.ext hE, h.ext.trans hE⟩
theorem Seat12.step (h : Seat12 W S K x p w) (hl : LeavesPr W.heap.size S K x w p' w') : ∃ S' K', Seat12 W S' K' x p' w' /\ TwS S w w' /\ (∀ k, k < w.heap.size -> S' k -> S k) /\ ∀ k, k < w.heap.size -> K' k -> K k := by
 obtain ⟨S', K', h1, h2, h3, h4⟩ := hl
 exact ⟨S', K', ⟨h1, zhf h.ext h2 (fun k hk => (h.pr.lt hk).1)⟩, h2, h3, h4⟩
theorem Seat12.but {q : Nat} (h : Seat12 W S K x p w) (hb : But q w w') (hW : W.heap.size <= q) (hq : ¬ S q) (hk : ¬ K q) : Seat12 W S K x p w' :=
 ⟨h.pr.keep fun k _ hs => hb.block k (by assumption) (fun e => by subst e; exact hs.elim hq hk), Ext.newQ11 h.ext hW hb⟩
theorem Seat12.new {q : Nat} (h : Seat12 W S K x p w) (hq : w.heap.size <= q) : W.heap.size <= q /\ ¬ S q /\ ¬ K q := ⟨Nat.le_trans h.ext.size hq, fun e => by have := (h.pr.lt e).2; omega, fun e => by have := (h.pr.ltK e).2; omega⟩
end
structure Fx12 (W : World) (q : Nat) (F : Nat -> Prop) (n xp : Nat) (X : Nat -> Nat) (lv mv : Value) (ps : List (Value × Ent.E)) (x : Quo.Fx) (SP KP : Nat -> Prop) (SR : Nat -> Nat -> Prop) (w : World) : Prop where
 pr : Seat12 W SP KP xp x.p w
 re : ∀ i, i < n -> Seat11 W (SR i) (X i) (x.r i) w
 apart : ∀ i j k, i < n -> j < n -> i ≠ j -> SR i k -> ¬ SR j k
 dis : ∀ i k, i < n -> SR i k -> ¬ SP k /\ ¬ KP k
 at' : w.heap[q]? = some (.cells #[.pointer (some ⟨xp, 0, none⟩), lv, mv] 68 (0, 0))
 lrow : w.ownsRow W.heap.size 69 1 lv n ((List.range n).map fun i => .pointer (some ⟨X i, 0, none⟩))
 made : w.ownsRow W.heap.size 84 6 mv ps.length (zah ps)
 cuts : ∀ c ∈ ps, RowN W.heap.size w c.1 c.2.cut
 fre : ∀ k, F k -> (W.heap.size <= k /\ k < w.heap.size) /\ ¬ SP k /\ ¬ KP k /\ ∀ i, i < n -> ¬ SR i k
 fq : F q
 fl : ∀ k, lv.ownBlock = some k -> F k
 fm : ∀ k, mv.ownBlock = some k -> F k
 fc : ∀ c ∈ ps, ∀ k, c.1.ownBlock = some k -> ∀ i, i < n -> ¬ SR i k
def Held12 (F : Nat -> Prop) (q : Nat) (lv mv : Value) (k : Nat) : Prop := F k /\ k ≠ q /\ lv.ownBlock ≠ some k /\ mv.ownBlock ≠ some k
section
variable {W w w' : World} {q n xp : Nat} {F : Nat -> Prop} {X : Nat -> Nat} {lv mv : Value} {ps : List (Value × Ent.E)} {x : Quo.Fx} {SP KP : Nat -> Prop} {SR : Nat -> Nat -> Prop}
theorem Fx12.ext (h : Fx12 W q F n xp X lv mv ps x SP KP SR w) : Ext W w := h.pr.ext
theorem Fx12.extend (h : Fx12 W q F n xp X lv mv ps x SP KP SR w) (hE : Ext w w') : Fx12 W q F n xp X lv mv ps x SP KP SR w' :=
 ⟨h.pr.extend hE, fun i hi => (h.re i hi).extend hE, h.apart, h.dis, zad h.at' hE, za0 h.lrow hE, za0 h.made hE, fun c hc => (h.cuts c hc).ext hE, fun k hk => ⟨⟨(h.fre k hk).1.1, Nat.lt_of_lt_of_le (h.fre k hk).1.2 hE.size⟩, (h.fre k hk).2⟩, h.fq, h.fl, h.fm, h.fc⟩
theorem Fx12.new {k : Nat} (h : Fx12 W q F n xp X lv mv ps x SP KP SR w) (hk : w.heap.size <= k) : W.heap.size <= k /\ ¬ SP k /\ ¬ KP k /\ ∀ i, i < n -> ¬ SR i k :=
 ⟨Nat.le_trans h.ext.size hk, (h.pr.new hk).2.1, (h.pr.new hk).2.2, fun i hi e => by have := ((h.re i hi).low k e).2; omega⟩
theorem Fx12.grow (h : Fx12 W q F n xp X lv mv ps x SP KP SR w) (hE : Ext w w') : Fx12 W q (Later F w w') n xp X lv mv ps x SP KP SR w' := by
 have h' := h.extend hE
 refine ⟨h'.pr, h'.re, h'.apart, h'.dis, h'.at', h'.lrow, h'.made, h'.cuts, fun k hk => ?_, .inl h.fq, fun k hk => .inl (h.fl k hk), fun k hk => .inl (h.fm k hk), h.fc⟩
 rcases hk with hk | hk
 . exact h'.fre k hk
 . have := h.new hk.1
   exact ⟨⟨this.1, hk.2⟩, this.2⟩
theorem Fx12.atNot {cs : Array Value} {t : TypeId} {fr : Nat × Nat} {k : Nat} (h : Fx12 W q F n xp X lv mv ps x SP KP SR w) (hk : w.heap[k]? = some (.cells cs t fr)) (ht : t ≠ 68) : k ≠ q := fun e => by
 subst e
 have := h.at'
 rw [hk] at this
 injection this with this
 injection this with _ e2 _
 exact ht e2
theorem Fx12.cutAt {c : Value × Ent.E} {k : Nat} (h : Fx12 W q F n xp X lv mv ps x SP KP SR w) (hc : c ∈ ps) (hk : c.1.ownBlock = some k) : ∃ cur, w.heap[k]? = some (.cells cur 3 (0, 0)) := by
 obtain ⟨b, m, hb, ho⟩ := h.cuts c hc
 exact ownAt ho hk
theorem Fx12.cutNot {c : Value × Ent.E} {k : Nat} (h : Fx12 W q F n xp X lv mv ps x SP KP SR w) (hc : c ∈ ps) (hk : c.1.ownBlock = some k) : k ≠ q /\ lv.ownBlock ≠ some k /\ mv.ownBlock ≠ some k := by
 obtain ⟨cur, hcur⟩ := h.cutAt hc hk
 refine ⟨h.atNot hcur (by decide), fun e => ?_, fun e => ?_⟩
 . obtain ⟨cur2, h2⟩ := ownAt h.lrow e
   rw [hcur] at h2
   injection h2 with h2
   injection h2 with _ e2 _
   exact absurd e2 (by decide)
 . obtain ⟨cur2, h2⟩ := ownAt h.made e
   rw [hcur] at h2
   injection h2 with h2
   injection h2 with _ e2 _
   exact absurd e2 (by decide)
theorem Fx12.stepP {p' : Quo.Pr} (h : Fx12 W q F n xp X lv mv ps x SP KP SR w) (hl : LeavesPr W.heap.size SP KP xp w p' w') : ∃ SP' KP', Fx12 W q F n xp X lv mv ps ⟨p', x.r⟩ SP' KP' SR w' /\ TwS SP w w' := by
 obtain ⟨SP', KP', h1, ht, h3, h4⟩ := h.pr.step hl
 refine ⟨SP', KP', ⟨h1, fun i hi => ?_, h.apart, fun i k hi hk => ?_, ?_, ?_, ?_, fun c hc => (h.cuts c hc).pr12 h.pr.pr ht, fun k hk => ?_, h.fq, h.fl, h.fm, h.fc⟩, ht⟩
 . have hr := h.re i hi
   obtain ⟨p, va, vp, ev, es, hR⟩ := hr.rep
   exact ⟨⟨p, va, vp, ev, es, hR.keep fun k hk hs => ht.block k hk (h.dis i k hi hs).1⟩, h1.ext, fun k hk => ⟨(hr.low k hk).1, Nat.lt_of_lt_of_le (hr.low k hk).2 ht.size⟩⟩
 . have hlt := ((h.re i hi).low k hk).2
   exact ⟨fun e => (h.dis i k hi hk).1 (h3 k hlt e), fun e => (h.dis i k hi hk).2 (h4 k hlt e)⟩
 . exact (ht.block q (h.fre q h.fq).1.2 (h.fre q h.fq).2.1).trans h.at'
 . exact za1 h.lrow fun k hk => ht.block k (h.lrow.lt k hk).2 (h.fre k (h.fl k hk)).2.1
 . exact za1 h.made fun k hk => ht.block k (h.made.lt k hk).2 (h.fre k (h.fm k hk)).2.1
 . have hf := h.fre k hk
   exact ⟨⟨hf.1.1, Nat.lt_of_lt_of_le hf.1.2 ht.size⟩, fun e => hf.2.1 (h3 k hf.1.2 e), fun e => hf.2.2.1 (h4 k hf.1.2 e), hf.2.2.2⟩
theorem Fx12.stepR {j : Nat} {r' : Rep.Rp} (h : Fx12 W q F n xp X lv mv ps x SP KP SR w) (hj : j < n) (hl : LeavesRep W.heap.size (SR j) (X j) w r' w') : ∃ SR', Fx12 W q F n xp X lv mv ps ⟨x.p, fun i => if i = j then r' else x.r i⟩ SP KP SR' w' /\ TwS (SR j) w w' := by
 obtain ⟨S1, h1, ht, h3⟩ := (h.re j hj).step hl
 have hcut : ∀ c ∈ ps, RowN W.heap.size w' c.1 c.2.cut := fun c hc => (h.cuts c hc).blocks fun g hg => ht.block g ((h.cuts c hc).lt g hg).2 (h.fc c hc g hg j hj)
 have key : ∀ i, i < n -> i ≠ j -> ∀ k, SR i k -> ¬ S1 k := fun i hi hne k hs hs1 => h.apart i j k hi hj hne hs (h3 k ((h.re i hi).low k hs).2 hs1)
 have kp : ∀ k, k < w.heap.size -> SP k \/ KP k -> w'.heap[k]? = w.heap[k]? := fun k hk hs => ht.block k hk fun e => hs.elim (h.dis j k hj e).1 (h.dis j k hj e).2
 refine ⟨fun i => if i = j then S1 else SR i, ⟨⟨h.pr.pr.keep kp, h1.ext⟩, fun i hi => ?_, fun i i' k hi hi' hne hs => ?_, fun i k hi hs => ?_, (ht.block q (h.fre q h.fq).1.2 ((h.fre q h.fq).2.2.2 j hj)).trans h.at', za1 h.lrow fun k hk => ht.block k (h.lrow.lt k hk).2 ((h.fre k (h.fl k hk)).2.2.2 j hj), za1 h.made fun k hk => ht.block k (h.made.lt k hk).2 ((h.fre k (h.fm k hk)).2.2.2 j hj), hcut, fun k hk => ?_, h.fq, h.fl, h.fm, fun c hc k hk i hi => ?_⟩, ht⟩
 . by_cases e : i = j
   . subst e
     simp only [if_true]
     exact h1
   . simp only [e, if_false]
     have hi2 := h.re i hi
     obtain ⟨p, va, vp, ev, es, hr⟩ := hi2.rep
     exact ⟨⟨p, va, vp, ev, es, hr.keep fun k hk hs => ht.block k hk (h.apart i j k hi hj e hs)⟩, h1.ext, fun k hk => ⟨(hi2.low k hk).1, Nat.lt_of_lt_of_le (hi2.low k hk).2 ht.size⟩⟩
 . by_cases e : i = j
   . subst e
     have e' : ¬ i' = i := fun e' => hne e'.symm
     simp [e'] at hs ⊢
     exact fun hs' => key i' hi' e' k hs' hs
   . by_cases e' : i' = j
     . subst e'
       simp [e] at hs ⊢
       exact key i hi e k hs
     . simp [e, e'] at hs ⊢
       exact h.apart i i' k hi hi' hne hs
 . by_cases e : i = j
   . subst e
     simp at hs
     exact ⟨fun hp => (h.dis i k hi (h3 k (h.pr.pr.lt hp).2 hs)).1 hp, fun hp => (h.dis i k hi (h3 k (h.pr.pr.ltK hp).2 hs)).2 hp⟩
   . simp [e] at hs
     exact h.dis i k hi hs
 . have hf := h.fre k hk
   refine ⟨⟨hf.1.1, Nat.lt_of_lt_of_le hf.1.2 ht.size⟩, hf.2.1, hf.2.2.1, fun i hi => ?_⟩
   by_cases e : i = j
   . subst e
     simp
     exact fun hs => hf.2.2.2 i hi (h3 k hf.1.2 hs)
   . simp [e]
     exact hf.2.2.2 i hi
 . by_cases e : i = j
   . subst e
     simp
     exact fun hs => h.fc c hc k hk i hi (h3 k ((h.cuts c hc).lt k hk).2 hs)
   . simp [e]
     exact h.fc c hc k hk i hi
theorem Fx12.more {w9 w10 : World} {v9 u : Value} {e : Ent.E} (h : Fx12 W q F n xp X lv mv ps x SP KP SR w) (hg : w.grownBy w9 mv.ownBlock) (hown : w9.ownsRow W.heap.size 84 6 v9 (ps.length + 1) (zah ps ++ zah [(u, e)])) (hat : v9.ownBlock = mv.ownBlock \/ v9.ownBlock = some w.heap.size)
 (hu : RowN W.heap.size w u e.cut) (hun : ∀ k, u.ownBlock = some k -> ∀ i, i < n -> ¬ SR i k) (hb : But q w9 w10) (hq : w10.heap[q]? = some (.cells #[.pointer (some ⟨xp, 0, none⟩), lv, v9] 68 (0, 0))) :
 Fx12 W q (Later F w w10) n xp X lv v9 (ps ++ [(u, e)]) x SP KP SR w10 /\ (∀ k, Held12 F q lv mv k -> Held12 (Later F w w10) q lv v9 k /\ w10.heap[k]? = w.heap[k]?) := by
 have hqw : q < w.heap.size := (h.fre q h.fq).1.2
 have hk : ∀ k, k < w.heap.size -> k ≠ q -> mv.ownBlock ≠ some k -> w10.heap[k]? = w.heap[k]? := fun k hk h1 h2 => (hb.block k (Nat.lt_of_lt_of_le hk hg.size) h1).trans (hg.block k hk (fun e => h2 e.symm))
 have hsz : w.heap.size <= w10.heap.size := Nat.le_trans hg.size hb.size
 have hWb : W.heap.size <= q := (h.fre q h.fq).1.1
 have hE10 : Ext W w10 := Ext.newQ11 (Below.grown h.ext hg h.ext.size (fun j hj => (h.made.lt j hj).1)) hWb hb
 have hF : ∀ k, F k -> ∀ i, i < n -> ¬ SR i k := fun k hk => (h.fre k hk).2.2.2
 have hmq : ∀ k, mv.ownBlock = some k -> k ≠ q := fun k e => by
  obtain ⟨cur, hc⟩ := ownAt h.made e
  exact h.atNot hc (by decide)
 have hlq : ∀ k, lv.ownBlock = some k -> k ≠ q /\ mv.ownBlock ≠ some k := fun k e => by
  obtain ⟨cur, hc⟩ := ownAt h.lrow e
  refine ⟨h.atNot hc (by decide), fun e2 => ?_⟩
  obtain ⟨cur2, h2⟩ := ownAt h.made e2
  rw [hc] at h2
  injection h2 with h2
  injection h2 with _ e2 _
  exact absurd e2 (by decide)
 have hnew := h.new (Nat.le_refl w.heap.size)
 have hrn : ∀ {t : Value} {l : List Int}, RowN W.heap.size w t l -> RowN W.heap.size w10 t l := fun {t l} ht => by
  obtain ⟨b, m, hb', ho⟩ := id ht
  refine ht.blocks fun g hgk => ?_
  obtain ⟨cur, hc⟩ := ownAt ho hgk
  refine hk g (ht.lt g hgk).2 (h.atNot hc (by decide)) fun e => ?_
  obtain ⟨cur2, hc2⟩ := ownAt h.made e
  rw [hc] at hc2
  injection hc2 with hc2
  injection hc2 with _ e2 _
  exact absurd e2 (by decide)
 refine ⟨⟨⟨h.pr.pr.keep fun k hk1 hs => hk k hk1 (fun e => by subst e; exact hs.elim (h.fre k h.fq).2.1 (h.fre k h.fq).2.2.1) (fun e => hs.elim (h.fre k (h.fm k e)).2.1 (h.fre k (h.fm k e)).2.2.1), hE10⟩, fun i hi => ?_, h.apart, h.dis, hq, ?_, ?_, fun c hc => ?_, fun k hk1 => ?_, .inl h.fq, fun k e => .inl (h.fl k e), fun k e => ?_, fun c hc k e i hi => ?_⟩, fun k hH => ?_⟩
 . have hr := h.re i hi
   obtain ⟨p, va, vp, ev, es, hR⟩ := hr.rep
   exact ⟨⟨p, va, vp, ev, es, hR.keep fun k hk1 hs => hk k hk1 (fun e => by subst e; exact hF k h.fq i hi hs) (fun e => hF k (h.fm k e) i hi hs)⟩, hE10, fun k hk1 => ⟨(hr.low k hk1).1, Nat.lt_of_lt_of_le (hr.low k hk1).2 hsz⟩⟩
 . exact za1 h.lrow fun k e => hk k (h.lrow.lt k e).2 (hlq k e).1 (hlq k e).2
 . rw [List.length_append, zbm]
   refine za1 hown fun k e => ?_
   have hlt := (hown.lt k e).2
   refine hb.block k hlt fun e2 => ?_
   subst e2
   rcases hat with h1 | h1
   . rw [e] at h1
     exact hmq k h1.symm rfl
   . rw [e] at h1
     injection h1 with h1
     omega
 . rcases List.mem_append.1 hc with hc | hc
   . exact hrn (h.cuts c hc)
   . obtain rfl := List.mem_singleton.1 hc
     exact hrn hu
 . rcases hk1 with hk1 | hk1
   . have hf := h.fre k hk1
     exact ⟨⟨hf.1.1, Nat.lt_of_lt_of_le hf.1.2 hsz⟩, hf.2⟩
   . have := h.new hk1.1
     exact ⟨⟨this.1, hk1.2⟩, this.2⟩
 . rcases hat with h1 | h1
   . exact .inl (h.fm k (by rw [<- h1]; exact e))
   . rw [e] at h1
     injection h1 with h1
     exact .inr ⟨by omega, Nat.lt_of_lt_of_le (hown.lt k e).2 hb.size⟩
 . rcases List.mem_append.1 hc with hc | hc
   . exact h.fc c hc k e i hi
   . obtain rfl := List.mem_singleton.1 hc
     exact hun k e i hi
 . have hlt := (h.fre k hH.1).1.2
   refine ⟨⟨.inl hH.1, hH.2.1, hH.2.2.1, fun e => ?_⟩, hk k hlt hH.2.1 hH.2.2.2⟩
   rcases hat with h1 | h1
   . exact hH.2.2.2 (by rw [<- h1]; exact e)
   . rw [e] at h1
     injection h1 with h1
     omega
end
end Go.Proofs.YtnoeconcpgdjlaaGreat
