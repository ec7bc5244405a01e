/-
  Merged: Layer 12: a sealer in memory: NewSealer, Done, Tail.
-/
import Derived.Test.YtnoeconcpgdjlaaBsEnt2
import Derived.Test.YtnoeconcpgdjlaaBsQuH
import Derived.Test.YtnoeconcpgdjlaaBsQuI

namespace Go.Proofs.Ytnoeconcpgdjlaa
set_option linter.unusedSimpArgs false
set_option linter.unusedVariables false
set_option maxRecDepth 100000
open Go.RowKit Go.ChangeMaps
/- Layer 12: a sealer in memory: NewSealer, Done, Tail. -/
/-- The length of a map. -/
theorem MapB.runLen {P : Program} {k : TypeId} {w : World} {b : Nat} {m : List (Value × Value)} (h : MapB P k w b m) {t e ty : TypeId} (ht : P.underlying t = some (.map k e)) :
    (Builtin.len_ #[t] ty #[.map (some b)]).run P w = .ok (goInt m.length) w := by
  obtain ⟨⟨es, c, h1, h2, _⟩, _⟩ := h
  have hl : es.size = m.length := by rw [← h2]; simp
  unfold Builtin.len_
  simp [run_underlying ht, MapKept.run_getObj_map h1, Result.andThen, hl]
/-- What a map of nodes that were heard holds. -/
def set12 (ps : List (Int × List Ent.E)) : List (Value × Value) := ps.map fun p => (.int .i64 p.1, .agg #[])
theorem set12_keys (ps : List (Int × List Ent.E)) : (set12 ps).map (·.1) = (ps.map (·.1)).map (Value.int .i64) := by simp [set12]
theorem set12_mem {ps : List (Int × List Ent.E)} {n : Int} (h : n ∈ ps.map (·.1)) : (Value.int .i64 n, Value.agg #[]) ∈ set12 ps := by
  obtain ⟨p, hp, rfl⟩ := List.mem_map.1 h
  exact List.mem_map.2 ⟨p, hp, rfl⟩
theorem set12_not {ps : List (Int × List Ent.E)} {n : Int} (h : n ∉ ps.map (·.1)) : Value.int .i64 n ∉ (set12 ps).map (·.1) := fun hm => by
  rw [set12_keys] at hm
  obtain ⟨x, hx, he⟩ := List.mem_map.1 hm
  injection he with _ he
  exact h (he ▸ hx)
theorem set12_snoc (ps : List (Int × List Ent.E)) (n : Int) (l : List Ent.E) : set12 (ps ++ [(n, l)]) = set12 ps ++ [(.int .i64 n, .agg #[])] := by simp [set12]
theorem set12_len (ps : List (Int × List Ent.E)) : (set12 ps).length = ps.length := by simp [set12]

/-- A sealer's block, its rows, its map. -/
structure SeAt (w : World) (B x kb : Nat) (sv ev : Value) (es : List (Value × Ent.E)) (s : Quo.Se) : Prop where
  heap : w.heap[x]? = some (.cells #[sv, .int .i64 (Term.majority s.c : Nat), .map (some kb), ev] 88 (0, 0))
  seqs : RowN B w sv s.c.seqs
  row : w.ownsRow B 74 6 ev es.length (entFlat es)
  ents : es.map (·.2) = s.long
  cuts : ∀ q ∈ es, RowN B w q.1 q.2.cut
  map : MapB Try.prog 3 w kb (set12 s.ps)
section
variable {w w' : World} {B x kb : Nat} {sv ev : Value} {es : List (Value × Ent.E)} {s : Quo.Se}
theorem SeAt.lt (h : SeAt w B x kb sv ev es s) : x < w.heap.size := (Array.getElem?_eq_some_iff.1 h.heap).1
theorem SeAt.blocks (h : SeAt w B x kb sv ev es s) (h1 : w'.heap[x]? = w.heap[x]?) (h2 : w'.heap[kb]? = w.heap[kb]?) (h5 : ∀ k, sv.ownBlock = some k → w'.heap[k]? = w.heap[k]?) (h3 : ∀ k, ev.ownBlock = some k → w'.heap[k]? = w.heap[k]?) (h4 : ∀ q ∈ es, ∀ k, q.1.ownBlock = some k → w'.heap[k]? = w.heap[k]?) : SeAt w' B x kb sv ev es s :=
  ⟨h1.trans h.heap, h.seqs.blocks h5, rowOwn h.row h3, h.ents, fun q hq => (h.cuts q hq).blocks (h4 q hq), h.map.block h2⟩
theorem SeAt.ext (h : SeAt w B x kb sv ev es s) (hE : Ext w w') : SeAt w' B x kb sv ev es s :=
  h.blocks (hE.block _ h.lt) (hE.block _ h.map.lt) (fun k hk => hE.block k (h.seqs.lt k hk).2) (fun k hk => hE.block k (h.row.lt k hk).2) (fun q hq k hk => hE.block k ((h.cuts q hq).lt k hk).2)
theorem SeAt.lower {B' : Nat} (h : SeAt w B x kb sv ev es s) (hB : B' ≤ B) : SeAt w B' x kb sv ev es s := ⟨h.heap, h.seqs.lower hB, rowLower h.row hB, h.ents, fun q hq => (h.cuts q hq).lower hB, h.map⟩
theorem SeAt.len (h : SeAt w B x kb sv ev es s) : es.length = s.long.length := by
  have := congrArg List.length h.ents
  simpa using this
theorem SeAt.ints (h : SeAt w B x kb sv ev es s) : ∀ q ∈ es, Ints w q.1 q.2.cut := fun q hq => (h.cuts q hq).row.ints
theorem SeAt.entsAt (h : SeAt w B x kb sv ev es s) : Ents w ev s.long := by
  have := ents_of_flat h.ints (SlN.ofOwn h.row)
  rw [h.ents] at this
  exact this
theorem SeAt.open (h : SeAt w B x kb sv ev es s) : ∃ a c, ev = .slice a es.length c ∧ es.length ≤ c ∧ c ≤ maxLen ∧ (a = none → c = 0) := by
  obtain ⟨a, c, e, h1, h2, h3, _⟩ := SlN.ofOwn h.row
  exact ⟨a, c, e, h1, h2, h3⟩
end
theorem cut_le12 {e : Ent.E} (h : Ent.right e = true) : e.cut.length ≤ 8 := by
  rcases (Ent.right_ok h).2 with ⟨_, hv, _⟩ | ⟨_, hv, _⟩
  · exact (Vec.right_ok hv).2.2
  · rw [hv]; simp
/-- The blocks of a sealer. -/
def own12s (x kb : Nat) (sv ev : Value) (es : List (Value × Ent.E)) (k : Nat) : Prop := k = x ∨ k = kb ∨ sv.ownBlock = some k ∨ ev.ownBlock = some k ∨ ∃ q ∈ es, q.1.ownBlock = some k
/-- A sealer: S has its blocks. -/
structure IsSeS (w : World) (B : Nat) (S : Nat → Prop) (x kb : Nat) (sv ev : Value) (es : List (Value × Ent.E)) (s : Quo.Se) : Prop where
  sub : ∀ k, own12s x kb sv ev es k → S k
  lt : ∀ k, S k → B ≤ k ∧ k < w.heap.size
  at' : SeAt w B x kb sv ev es s
  ok : s.Ok
  short : s.long.length ≤ 13107
def IsSe (w : World) (B : Nat) (S : Nat → Prop) (x : Nat) (s : Quo.Se) : Prop := ∃ kb sv ev es, IsSeS w B S x kb sv ev es s
section
variable {w w' : World} {B x kb : Nat} {S : Nat → Prop} {sv ev : Value} {es : List (Value × Ent.E)} {s : Quo.Se}
theorem IsSeS.keep (h : IsSeS w B S x kb sv ev es s) (hz : w.heap.size ≤ w'.heap.size) (hb : ∀ k, k < w.heap.size → S k → w'.heap[k]? = w.heap[k]?) : IsSeS w' B S x kb sv ev es s :=
  ⟨h.sub, fun k hk => ⟨(h.lt k hk).1, Nat.lt_of_lt_of_le (h.lt k hk).2 hz⟩, h.at'.blocks (hb _ h.at'.lt (h.sub _ (.inl rfl))) (hb _ h.at'.map.lt (h.sub _ (.inr (.inl rfl)))) (fun k hk => hb k (h.at'.seqs.lt k hk).2 (h.sub _ (.inr (.inr (.inl hk))))) (fun k hk => hb k (h.at'.row.lt k hk).2 (h.sub _ (.inr (.inr (.inr (.inl hk)))))) (fun q hq k hk => hb k ((h.at'.cuts q hq).lt k hk).2 (h.sub _ (.inr (.inr (.inr (.inr ⟨q, hq, hk⟩)))))), h.ok, h.short⟩
theorem IsSeS.ext (h : IsSeS w B S x kb sv ev es s) (hE : Ext w w') : IsSeS w' B S x kb sv ev es s := h.keep hE.size fun k hk _ => hE.block k hk
theorem IsSe.keep (h : IsSe w B S x s) (hz : w.heap.size ≤ w'.heap.size) (hb : ∀ k, k < w.heap.size → S k → w'.heap[k]? = w.heap[k]?) : IsSe w' B S x s := by
  obtain ⟨kb, sv, ev, es, h⟩ := h
  exact ⟨kb, sv, ev, es, h.keep hz hb⟩
theorem IsSe.ext (h : IsSe w B S x s) (hE : Ext w w') : IsSe w' B S x s := h.keep hE.size fun k hk _ => hE.block k hk
theorem IsSe.lt (h : IsSe w B S x s) : ∀ k, S k → B ≤ k ∧ k < w.heap.size := by
  obtain ⟨kb, sv, ev, es, h⟩ := h
  exact h.lt
theorem IsSe.ok (h : IsSe w B S x s) : s.Ok := by
  obtain ⟨kb, sv, ev, es, h⟩ := h
  exact h.ok
theorem IsSe.tws {T : Nat → Prop} (h : IsSe w B S x s) (ht : TwS T w w') (hd : ∀ k, S k → ¬ T k) : IsSe w' B S x s := h.keep ht.size fun k hk hs => ht.block k hk (hd k hs)
/-- How long its cuts are. -/
theorem Quo.Se.Ok.bounds {s : Quo.Se} (h : s.Ok) : ∀ e ∈ s.long, e.cut.length ≤ 8 := fun e he => cut_le12 (Ent.isChain_right _ _ rfl h.chain _ he)
end
def LeavesSe (B : Nat) (S : Nat → Prop) (x : Nat) (w : World) (s : Quo.Se) (w' : World) : Prop := ∃ S', IsSe w' B S' x s ∧ TwS S w w' ∧ ∀ k, k < w.heap.size → S' k → S k
theorem LeavesSe.refl {B x : Nat} {S : Nat → Prop} {w w' : World} {s : Quo.Se} (h : IsSe w B S x s) (hE : Ext w w') : LeavesSe B S x w s w' := ⟨S, h.ext hE, TwS.ext hE, fun _ _ h => h⟩
theorem LeavesSe.ext {B x : Nat} {S : Nat → Prop} {w w' w2 : World} {s : Quo.Se} (h : LeavesSe B S x w s w') (hE : Ext w' w2) : LeavesSe B S x w s w2 := by
  obtain ⟨S', h1, h2, h3⟩ := h
  exact ⟨S', h1.ext hE, h2.trans (TwS.ext hE), h3⟩

def GivesNewS12 (w : World) (c : Term.C) (e : Ending) (w' : World) : Prop :=
  ((∃ x, Term.right c = true ∧ e = .returned (.tuple #[.pointer (some ⟨x, 0, none⟩), .int .i64 0]) ∧ ∃ S, IsSe w' w.heap.size S x ⟨c, []⟩) ∨
   (Term.right c = false ∧ e = .returned (.tuple #[.pointer none, .int .i64 1]))) ∧ Ext w w'
theorem build_se12 (w : World) (sv : Value) (hs : ∃ a n c, sv = .slice a n c) (m : Int) (kb : Nat) : (Instr.build 88 #[(0, sv), (1, .int .i64 m), (2, .map (some kb))]).run Try.prog w = .ok (.agg #[sv, .int .i64 m, .map (some kb), .slice none 0 0]) w := by
  obtain ⟨a, n, c, rfl⟩ := hs
  kernel_rfl
theorem box_se12 (w : World) (sv : Value) (hs : ∃ a n c, sv = .slice a n c) (m : Int) (kb : Nat) : (Instr.box 88 (.agg #[sv, .int .i64 m, .map (some kb), .slice none 0 0])).run Try.prog w = .ok (.pointer (some ⟨w.heap.size, 0, none⟩)) (w.alloc (.cells #[sv, .int .i64 m, .map (some kb), .slice none 0 0] 88)) := by
  obtain ⟨a, n, c, rfl⟩ := hs
  kernel_rfl
theorem RowN.slice {B : Nat} {w : World} {v : Value} {l : List Int} (h : RowN B w v l) : ∃ a n c, v = .slice a n c := by
  exact intsSlice h.row.ints
set_option maxHeartbeats 40000000 in
theorem newS12_any (w : World) (v : Value) (c : Term.C) (hv : IsConf w v c) :
    Calls Try.prog 10 #[v] w (GivesNewS12 w c) := by
  have hbx := box_conf
  have HV := Lib.hid hv
  obtain ⟨s, d, rfl, hs, hd⟩ := hv
  obtain ⟨a0, n0, k0, rfl⟩ := intsSlice hs
  obtain ⟨a1, n1, k1, rfl⟩ := irowsSlice hd
  obtain ⟨tc, htc⟩ : ∃ z, c.term = z := ⟨_, rfl⟩
  have HS := Lib.hid hs
  have HD := Lib.hid hd
  have HTC := Lib.hid htc
  obtain ⟨w1, hw1⟩ : ∃ z, w.alloc (.cells #[.int .i64 tc, .slice a0 n0 k0, .slice a1 n1 k1] 36) = z := ⟨_, rfl⟩
  obtain ⟨q, hq⟩ : ∃ z, w.heap.size = z := ⟨_, rfl⟩
  have hE1 : Ext w w1 := by rw [← hw1]; exact Ext.alloc _ _
  have hc1 : w1.heap[q]? = some (.cells #[.int .i64 tc, .slice a0 n0 k0, .slice a1 n1 k1] 36 (0, 0)) := by rw [← hw1, ← hq]; exact heap_alloc_new _ _
  have HC1 := Lib.hid (And.intro hc1 hE1)
  have HQ := Lib.hid hq
  have y0 := cell_of_heap hc1 0
  have y1 := cell_of_heap hc1 1
  have y2 := cell_of_heap hc1 2
  simp at y0 y1 y2
  unfold confV
  rw [htc]
  clear htc
  have HW1 := Lib.hid hw1
  clear hs hd hc1 hE1 hq hw1
  go_enter Try.func10, Try.ntmps10
  go_upto_region 1 with fail
  rw [HW1.out, HQ.out]
  clear hbx
  go_wp2_with fail
  refine (right6_any _ c w1 ⟨_, _, by unfold confV; rw [HTC.out], HS.out.below HC1.out.2, HD.out.below HC1.out.2⟩).mono ?_
  rintro e w2 ⟨rfl, hE2⟩
  have HC2 := Lib.hid (And.intro (heap_ext HC1.out.1 hE2) (HC1.out.2.trans hE2))
  clear hE2 y0 y1 y2 HV
  cases hr : Term.right c with
  | false =>
    have HR := Lib.hid hr
    clear hr
    go_wp2_with fail
    go_ret2
    exact ⟨.inr ⟨HR.out, rfl⟩, HC2.out.2⟩
  | true =>
    have HR := Lib.hid hr
    have h4 := (Term.right_ok hr).2.2.2.1
    have HSL := Lib.hid (show c.seqs.length ≤ 140737488355328 by omega)
    have HSM := Lib.hid (show c.seqs.length ≤ 1000000 by omega)
    obtain ⟨N, hN⟩ : ∃ N, Term.majority c = N := ⟨_, rfl⟩
    have HN := Lib.hid hN
    have HMJ := Lib.hid (show ∀ wy, Ext w2 wy → Calls Try.prog 32 #[.agg #[.int .i64 tc, .slice a0 n0 k0, .slice a1 n1 k1]] wy fun e w' => e = .returned (.int .i64 (N : Nat)) ∧ Ext wy w' from fun wy hl => by
      have := majority6_any (.agg #[.int .i64 tc, .slice a0 n0 k0, .slice a1 n1 k1]) c wy ⟨_, _, by unfold confV; rw [HTC.out], HS.out.below (HC2.out.2.trans hl), HD.out.below (HC2.out.2.trans hl)⟩ HSL.out
      rw [HN.out] at this
      exact this)
    have HCL := Lib.hid (show ∀ wy, Ext w2 wy → Calls Try.prog 31 #[.slice a0 n0 k0] wy fun e w' => ∃ u, e = .returned u ∧ Ext wy w' ∧ RowN w2.heap.size w' u c.seqs from fun wy hl => (cloneI_any _ c.seqs wy (HS.out.below (HC2.out.2.trans hl)) HSM.out).mono fun e w' ⟨u, h1, h2, h3⟩ => ⟨u, h1, h3, wy.heap.size, _, hl.size, h2⟩)
    clear hr h4 hN
    go_upto_region 3 with fail
    refine wp_region_facts (by kernel_rfl) Ext (fun iop v w => match iop with
        | 0 => v = .pointer (some ⟨q, 1, none⟩)
        | 1 => v = .slice a0 n0 k0
        | 2 => RowN w2.heap.size w v c.seqs
        | 3 => v = .agg #[.int .i64 tc, .slice a0 n0 k0, .slice a1 n1 k1]
        | 4 => v = .int .i64 (N : Nat)
        | 5 => ∃ kb, v = .map (some kb) ∧ w2.heap.size ≤ kb ∧ MapB Try.prog 3 w kb []
        | 6 => ∃ kb sv, v = .agg #[sv, .int .i64 (N : Nat), .map (some kb), .slice none 0 0] ∧ w2.heap.size ≤ kb ∧ RowN w2.heap.size w sv c.seqs ∧ MapB Try.prog 3 w kb []
        | 7 => ∃ x kb sv, v = .pointer (some ⟨x, 0, none⟩) ∧ w2.heap.size ≤ x ∧ w2.heap.size ≤ kb ∧ x ≠ kb ∧ RowN w2.heap.size w sv c.seqs ∧ w.heap[x]? = some (.cells #[sv, .int .i64 (N : Nat), .map (some kb), .slice none 0 0] 88 (0, 0)) ∧ MapB Try.prog 3 w kb []
        | 8 => ∃ x kb sv, v = .pointer (some ⟨x, 0, none⟩) ∧ w2.heap.size ≤ x ∧ w2.heap.size ≤ kb ∧ x ≠ kb ∧ RowN w2.heap.size w sv c.seqs ∧ w.heap[x]? = some (.cells #[sv, .int .i64 (N : Nat), .map (some kb), .slice none 0 0] 88 (0, 0)) ∧ MapB Try.prog 3 w kb []
        | _ => v = (Value.int IntKind.i64 0)
        ) (by kernel_rfl) (fun _ _ _ h k => Ext.trans h k) (fun a => Ext.refl a) (Ext.drew _) ?_ ?_ ?_
    · intro iop v wa wb hF hL
      iterate 2 (rcases iop with _ | iop; exact hF)
      rcases iop with _ | iop; (first | exact hF | exact RowN.ext hF hL | (obtain ⟨kb, e, h1, h2⟩ := hF; exact ⟨kb, e, h1, h2.block (hL.block _ h2.lt)⟩) | (obtain ⟨kb, sv, e, h1, h2, h3⟩ := hF; exact ⟨kb, sv, e, h1, h2.ext hL, h3.block (hL.block _ h3.lt)⟩) | (obtain ⟨x, kb, sv, e, h0, h1, h2, h5, h3, h4⟩ := hF; exact ⟨x, kb, sv, e, h0, h1, h2, h5.ext hL, heap_ext h3 hL, h4.block (hL.block _ h4.lt)⟩))
      iterate 2 (rcases iop with _ | iop; exact hF)
      iterate 4 (rcases iop with _ | iop; (first | exact hF | exact RowN.ext hF hL | (obtain ⟨kb, e, h1, h2⟩ := hF; exact ⟨kb, e, h1, h2.block (hL.block _ h2.lt)⟩) | (obtain ⟨kb, sv, e, h1, h2, h3⟩ := hF; exact ⟨kb, sv, e, h1, h2.ext hL, h3.block (hL.block _ h3.lt)⟩) | (obtain ⟨x, kb, sv, e, h0, h1, h2, h5, h3, h4⟩ := hF; exact ⟨x, kb, sv, e, h0, h1, h2, h5.ext hL, heap_ext h3 hL, h4.block (hL.block _ h4.lt)⟩)))
      exact hF
    · refine Obls.cons ?_ (Obls.cons ?_ (Obls.cons ?_ (Obls.cons ?_ (Obls.cons ?_ (Obls.cons ?_ (Obls.cons ?_ (Obls.cons ?_ (Obls.cons ?_ (Obls.cons ?_ (Obls.nil))))))))))
      · intro ev wy hp hl hk hd
        have e1 : ev (.tmp 1) = .pointer (some ⟨q, 0, none⟩) := hk 1 (by decide)
        clear hk hd
        exact Yield.op (v := .pointer (some ⟨q, 1, none⟩)) (w' := wy) (by simp [execOp, go_sem, e1]) ⟨Ext.refl _, rfl⟩
      · intro ev wy hp hl hk hd
        have e7 : ev (.tmp 7) = .pointer (some ⟨q, 1, none⟩) := hk 7 (by decide)
        clear hk hd
        exact Yield.op (v := .slice a0 n0 k0) (w' := wy) (by simp [execOp, go_sem, e7, cell_of_heap (heap_ext HC2.out.1 hl) 1]) ⟨Ext.refl _, rfl⟩
      · intro ev wy hp hl hk hd
        have e8 : ev (.tmp 8) = .slice a0 n0 k0 := hk 8 (by decide)
        clear hk hd
        refine Yield.call rfl hp Try.func31 rfl (by kernel_rfl) ?_
        simp only [List.map_toArray, List.map_cons, List.map_nil, e8]
        exact (HCL.out wy hl).mono fun _ _ ⟨u, he, hb, hu⟩ => ⟨u, he, hb, hu⟩
      · intro ev wy hp hl hk hd
        have e1 : ev (.tmp 1) = .pointer (some ⟨q, 0, none⟩) := hk 1 (by decide)
        clear hk hd
        exact Yield.op (v := .agg #[.int .i64 tc, .slice a0 n0 k0, .slice a1 n1 k1]) (w' := wy) (by simp [execOp, go_sem, e1, cell_of_heap (heap_ext HC2.out.1 hl) 0, cell_of_heap (heap_ext HC2.out.1 hl) 1, cell_of_heap (heap_ext HC2.out.1 hl) 2]) ⟨Ext.refl _, rfl⟩
      · intro ev wy hp hl hk hd
        have e10 : ev (.tmp 10) = .agg #[.int .i64 tc, .slice a0 n0 k0, .slice a1 n1 k1] := hk 10 (by decide)
        clear hk hd
        refine Yield.call rfl hp Try.func32 rfl (by kernel_rfl) ?_
        simp only [List.map_toArray, List.map_cons, List.map_nil, e10]
        exact (HMJ.out wy hl).mono fun _ _ ⟨he, hb⟩ => ⟨_, he, hb, by first | rfl | simp⟩
      · intro ev wy hp hl hk hd
        clear hk hd
        exact Yield.op (v := .map (some wy.heap.size)) (w' := wy.alloc (.map #[] 0)) (by simp [execOp, run_makeMap, Sem.run_bind]) ⟨Ext.alloc _ _, _, rfl, hl.size, MapB.made _ _ _⟩
      · intro ev wy hp hl hk hd
        have f9 : (fun (v : Value) (w : World) => RowN w2.heap.size w v c.seqs) (ev (.tmp 9)) wy := hk 9 (by decide)
        generalize hx9 : ev (.tmp 9) = x9 at *
        have e11 : ev (.tmp 11) = .int .i64 (N : Nat) := hk 11 (by decide)
        have f12 : (fun (v : Value) (w : World) => ∃ kb, v = .map (some kb) ∧ w2.heap.size ≤ kb ∧ MapB Try.prog 3 w kb []) (ev (.tmp 12)) wy := hk 12 (by decide)
        generalize hx12 : ev (.tmp 12) = x12 at *
        clear hk hd
        obtain ⟨kb, ekb, h1, h2⟩ := f12
        exact Yield.op (v := .agg #[x9, .int .i64 (N : Nat), .map (some kb), .slice none 0 0]) (w' := wy) (by simp [execOp, hx9, e11, hx12, ekb, build_se12 _ x9 (RowN.slice f9), Sem.run_bind]) ⟨Ext.refl _, _, _, rfl, h1, f9, h2⟩
      · intro ev wy hp hl hk hd
        have f13 : (fun (v : Value) (w : World) => ∃ kb sv, v = .agg #[sv, .int .i64 (N : Nat), .map (some kb), .slice none 0 0] ∧ w2.heap.size ≤ kb ∧ RowN w2.heap.size w sv c.seqs ∧ MapB Try.prog 3 w kb []) (ev (.tmp 13)) wy := hk 13 (by decide)
        generalize hx13 : ev (.tmp 13) = x13 at *
        clear hk hd
        obtain ⟨kb, sv, ekb, h1, h2, h3⟩ := f13
        exact Yield.op (v := .pointer (some ⟨wy.heap.size, 0, none⟩)) (w' := wy.alloc (.cells #[sv, .int .i64 (N : Nat), .map (some kb), .slice none 0 0] 88)) (by simp [execOp, hx13, ekb, box_se12 _ sv (RowN.slice h2), Sem.run_bind]) ⟨Ext.alloc _ _, _, _, _, rfl, hl.size, h1, (fun e => by have := h3.lt; omega), h2.ext (Ext.alloc _ _), heap_alloc_new _ _, h3.block ((Ext.alloc _ _).block _ h3.lt)⟩
      · intro ev wy hp hl hk hd
        have f14 : (fun (v : Value) (w : World) => ∃ x kb sv, v = .pointer (some ⟨x, 0, none⟩) ∧ w2.heap.size ≤ x ∧ w2.heap.size ≤ kb ∧ x ≠ kb ∧ RowN w2.heap.size w sv c.seqs ∧ w.heap[x]? = some (.cells #[sv, .int .i64 (N : Nat), .map (some kb), .slice none 0 0] 88 (0, 0)) ∧ MapB Try.prog 3 w kb []) (ev (.tmp 14)) wy := hk 14 (by decide)
        generalize hx14 : ev (.tmp 14) = x14 at *
        clear hk hd
        exact Yield.as rfl ⟨Ext.refl _, by rw [hx14]; exact f14⟩
      · intro ev wy hp hl hk hd
        clear hk hd
        exact Yield.as rfl ⟨Ext.refl _, hp.const _⟩
    · intro vals wz hz hv
      have g7 : vals 0 = .pointer (some ⟨q, 1, none⟩) := hv 0 (by decide)
      have g8 : vals 1 = .slice a0 n0 k0 := hv 1 (by decide)
      have g9 : (fun (v : Value) (w : World) => RowN w2.heap.size w v c.seqs) (vals 2) wz := hv 2 (by decide)
      have g10 : vals 3 = .agg #[.int .i64 tc, .slice a0 n0 k0, .slice a1 n1 k1] := hv 3 (by decide)
      have g11 : vals 4 = .int .i64 (N : Nat) := hv 4 (by decide)
      have g12 : (fun (v : Value) (w : World) => ∃ kb, v = .map (some kb) ∧ w2.heap.size ≤ kb ∧ MapB Try.prog 3 w kb []) (vals 5) wz := hv 5 (by decide)
      have g13 : (fun (v : Value) (w : World) => ∃ kb sv, v = .agg #[sv, .int .i64 (N : Nat), .map (some kb), .slice none 0 0] ∧ w2.heap.size ≤ kb ∧ RowN w2.heap.size w sv c.seqs ∧ MapB Try.prog 3 w kb []) (vals 6) wz := hv 6 (by decide)
      have g14 : (fun (v : Value) (w : World) => ∃ x kb sv, v = .pointer (some ⟨x, 0, none⟩) ∧ w2.heap.size ≤ x ∧ w2.heap.size ≤ kb ∧ x ≠ kb ∧ RowN w2.heap.size w sv c.seqs ∧ w.heap[x]? = some (.cells #[sv, .int .i64 (N : Nat), .map (some kb), .slice none 0 0] 88 (0, 0)) ∧ MapB Try.prog 3 w kb []) (vals 7) wz := hv 7 (by decide)
      have g2 : (fun (v : Value) (w : World) => ∃ x kb sv, v = .pointer (some ⟨x, 0, none⟩) ∧ w2.heap.size ≤ x ∧ w2.heap.size ≤ kb ∧ x ≠ kb ∧ RowN w2.heap.size w sv c.seqs ∧ w.heap[x]? = some (.cells #[sv, .int .i64 (N : Nat), .map (some kb), .slice none 0 0] 88 (0, 0)) ∧ MapB Try.prog 3 w kb []) (vals 8) wz := hv 8 (by decide)
      have g3 : vals 9 = (Value.int IntKind.i64 0) := hv 9 (by decide)
      clear hv
      simp only [putAll, Act.put, List.setIfInBounds_toArray, List.set_cons_zero, List.set_cons_succ, g7, g8, g10, g11, g3]
      clear g7
      clear g8
      generalize vals 2 = v9 at *
      clear g10
      clear g11
      generalize vals 5 = v12 at *
      generalize vals 6 = v13 at *
      generalize vals 7 = v14 at *
      generalize vals 8 = v2 at *
      clear g3
      obtain ⟨x, kb, sv, rfl, h0, h1, h2, h3, h4, h5⟩ := g2
      have HX := Lib.hid (show ∃ S, IsSe wz w.heap.size S x ⟨c, []⟩ from ⟨own12s x kb sv (.slice none 0 0) [], kb, sv, .slice none 0 0, [], fun _ h => h, (fun k hk => by
        rcases hk with rfl | rfl | hk | hk | ⟨q, hq, _⟩
        · exact ⟨Nat.le_trans HC2.out.2.size h0, (Array.getElem?_eq_some_iff.1 h4).1⟩
        · exact ⟨Nat.le_trans HC2.out.2.size h1, h5.lt⟩
        · exact ⟨Nat.le_trans HC2.out.2.size (h3.lt k hk).1, (h3.lt k hk).2⟩
        · cases hk
        · cases hq), ⟨by rw [HN.out]; exact h4, h3.lower HC2.out.2.size, World.ownsRow_nil _ _ _ _, rfl, fun q hq => (by cases hq), h5⟩, Quo.Se.new_ok HR.out, Nat.zero_le _⟩)
      have HZ := Lib.hid hz
      clear h0 h1 h2 h3 h4 h5 hz g9 g12 g13 g14
      go_wp2_with fail
      go_ret2
      exact ⟨.inl ⟨x, HR.out, rfl, HX.out⟩, HC2.out.2.trans HZ.out⟩
theorem done12_any {w : World} {B x : Nat} {S : Nat → Prop} {s : Quo.Se} (h : IsSe w B S x s) :
    Calls Try.prog 15 #[.pointer (some ⟨x, 0, none⟩)] w fun e w' => e = .returned (.bool s.done) ∧ Ext w w' := by
  obtain ⟨kb, sv, ev, es, h⟩ := h
  have h1 := h.at'.ext (Ext.drew w)
  obtain ⟨M, hM⟩ : ∃ z, Term.majority s.c = z := ⟨_, rfl⟩
  obtain ⟨L, hL⟩ : ∃ z, s.ps.length = z := ⟨_, rfl⟩
  have hlen := fun ty => h1.map.runLen (ty := ty) Try.underlying86
  rw [set12_len, hL] at hlen
  have hd : s.done = decide (M ≤ L) := by
    unfold Quo.Se.done
    rw [hM, hL]
  have HD := Lib.hid hd
  have x2 : w.drew.cell? ⟨x, 2, none⟩ = some (.map (some kb)) := cell_of_heap h1.heap 2
  have x1 : w.drew.cell? ⟨x, 1, none⟩ = some (.int .i64 (M : Nat)) := by have := cell_of_heap h1.heap 1; rw [hM] at this; exact this
  clear h h1 hM hL hd
  go_enter Try.func15, Try.ntmps15
  go_wp2_with fail
  go_region
  go_wp2_with fail
  go_ret
  exact ⟨by rw [HD.out]; rfl, Ext.drew w⟩
def orNil12 : Bool → List Ent.E → List Ent.E
  | true, l => l
  | false, _ => []
/-- What Tail tells. -/
def GivesTail12 (w : World) (l : List Ent.E) (b : Bool) (e : Ending) (w' : World) : Prop := ∃ u qs, e = .returned (.tuple #[u, .bool b]) ∧ Ext w w' ∧ w'.ownsRow w.heap.size 74 6 u qs.length (entFlat qs) ∧ qs.map (·.2) = l ∧ ∀ q ∈ qs, RowN w.heap.size w' q.1 q.2.cut
theorem tail12_any {w : World} {B x : Nat} {S : Nat → Prop} {s : Quo.Se} (h : IsSe w B S x s) :
    Calls Try.prog 17 #[.pointer (some ⟨x, 0, none⟩)] w (GivesTail12 w (orNil12 s.done s.long) s.done) := by
  have HDN := Lib.hid (done12_any h)
  obtain ⟨kb, sv, ev, es, h⟩ := h
  have H := Lib.hid h
  obtain ⟨b, hb⟩ : ∃ b, s.done = b := ⟨_, rfl⟩
  rw [hb] at HDN ⊢
  clear hb
  go_enter Try.func17, Try.ntmps17
  go_wp2_with fail
  refine HDN.out.mono ?_
  rintro e w2 ⟨rfl, hE2⟩
  have HE2 := Lib.hid hE2
  cases b with
  | false =>
    clear h hE2
    go_wp2_with fail
    go_ret2
    exact ⟨_, [], rfl, HE2.out, World.ownsRow_nil _ _ _ _, rfl, fun q hq => (by cases hq)⟩
  | true =>
    have h2 := h.ext hE2
    have hbd := h.ok.bounds
    have hmem : ∀ q ∈ es, q.2 ∈ s.long := fun q hq => by rw [← h.at'.ents]; exact List.mem_map.2 ⟨q, hq, rfl⟩
    have HOW := Lib.hid (own12_any ev es w2 (SlN.ofOwn h2.at'.row) h2.at'.ints (by rw [h.at'.len]; exact h.short) (fun q hq => by have := hbd q.2 (hmem q hq); omega))
    obtain ⟨a, c, hev, _⟩ := h.at'.open
    subst hev
    have x3 : w2.cell? ⟨x, 3, none⟩ = some (.slice a es.length c) := cell_of_heap h2.at'.heap 3
    clear h h2 hE2 hbd hmem
    go_wp2_with fail
    refine HOW.out.mono ?_
    rintro e w3 ⟨u, qs, rfl, hE3, hrow, hqs, hq⟩
    have HR := Lib.hid (show GivesTail12 w (orNil12 true s.long) true (.returned (.tuple #[u, .bool true])) w3 from ⟨u, qs, rfl, HE2.out.trans hE3, rowLower hrow HE2.out.size, by rw [hqs, H.out.at'.ents]; rfl, fun q h => (hq q h).lower HE2.out.size⟩)
    clear hE3 hrow hqs hq x3
    go_wp2_with fail
    go_ret2
    exact HR.out
end Go.Proofs.Ytnoeconcpgdjlaa
