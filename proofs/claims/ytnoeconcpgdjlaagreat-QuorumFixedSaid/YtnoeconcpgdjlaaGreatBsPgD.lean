import Derived.Maps.AppendAt
import Derived.Test.YtnoeconcpgdjlaaGreatBsPgC
namespace Go.Proofs.YtnoeconcpgdjlaaGreat
set_option linter.unusedSimpArgs false
set_option linter.unusedVariables false
open Go.RowKit Go.Shelf
attribute [local go_sem] Oper.semAt_some
theorem ztv : (Tryz.prog.info? 141).map (fun i => (i.zero, i.size, i.bytes)) = some (some (.slice none 0 0), 1, 24) := by kernel_rfl
def zdd (xs : List Elem) : Nat := ((xs.map Elem.pos).getLast?).getD 0
theorem zfo (xs : List Elem) (x : Elem) : zdd (xs ++ [x]) = x.pos := by simp [zdd]
theorem zfi {xs : List Elem} {bs : List UInt8} (h : xs.map Elem.pos = Page.ends (Page.scan bs).1) : zdd xs = (Page.scan bs).2 := by
 have h3 := (Page.scan_is _ bs (Nat.le_refl _)).2.2
 unfold zdd
 rw [h, h3]
 rcases List.eq_nil_or_concat (Page.scan bs).1 with h0 | ⟨l, x, h0⟩
 . rw [h0]; rfl
 . rw [h0, List.concat_eq_append, Page.ends_snoc, Page.bytes_snoc, List.length_append]
   simp
theorem zew {W W' : World} {base n size : Nat} {e : TypeId} {v : Value} {xs : List Value} (h : W.ownsRow base e size v n xs) (hs : ∀ (g : Nat) (cs : Array Value), W.heap[g]? = some (.cells cs e (0, 0)) -> W'.heap[g]? = W.heap[g]?) : W'.ownsRow base e size v n xs := by
 refine ⟨h.1, ?_⟩
 rcases h.2 with h0 | ⟨g, cap, cur, rfl, hb, hg, hr⟩
 . exact .inl h0
 . exact .inr ⟨g, cap, cur, rfl, hb, (hs g cur hg).trans hg, hr⟩
theorem zcw {W W' : World} {row : Option Nat} (hg : W.grownBy W' row) (hr : ∀ r, row = some r -> ∃ o : Obj, W.heap[r]? = some o /\ o.isCells = false) {k : Nat} {cs : Array Value} {t : TypeId} {fr : Nat × Nat} (h : W.heap[k]? = some (.cells cs t fr)) : W'.heap[k]? = W.heap[k]? := by
 refine hg.block k (Array.getElem?_eq_some_iff.1 h).1 fun e => ?_
 obtain ⟨o, ho, hc⟩ := hr k e.symm
 rw [h] at ho
 cases ho
 cases hc
theorem KeepU.grown {W W' : World} {row : Option Nat} (hg : W.grownBy W' row) (hr : ∀ r, row = some r -> ∃ o : Obj, W.heap[r]? = some o /\ o.isCells = false) : KeepU W W' := fun k cs fr h => zcw hg hr h
theorem zf1 {B : Nat} {A C : World} (h : StF B A C) {k : Nat} {cs : Array Value} {t : TypeId} {fr : Nat × Nat} (hk : A.heap[k]? = some (.cells cs t fr)) (ht : t ≠ 234) : C.heap[k]? = A.heap[k]? :=
 (h.same k _ hk (.inr (by rintro ⟨cs', fr', e⟩; injection e with _ e _; exact ht e))).trans hk.symm
theorem zse {n B : Nat} {w A C : World} (h : Below n w A) (hs : StF B A C) (hn : n <= w.heap.size) (hB : n <= B) : Below n w C :=
 ⟨hs.os.trans h.os, hs.tape.trans h.tape, hs.output.trans h.output, Nat.le_trans h.size hs.size, fun k hk => by
  have h1 := h.block k hk
  have hlt : k < w.heap.size := by omega
  have h2 : w.heap[k]? = some w.heap[k] := by simp [hlt]
  rw [h2] at h1 ⊢
  exact hs.same k _ h1 (.inl (by omega))⟩
theorem rowNe {W : World} {base n size : Nat} {e : TypeId} {v : Value} {xs : List Value} (h : W.ownsRow base e size v n xs) {k : Nat} {o : Obj} (hk : W.heap[k]? = some o) (ho : ∀ cs, o ≠ .cells cs e (0, 0)) : some k ≠ v.ownBlock := by
 rcases h.2 with ⟨rfl, _⟩ | ⟨g, cap, cur, rfl, _, hgb, _⟩
 . simp [Value.ownBlock]
 . intro e'
   obtain rfl : k = g := by simpa [Value.ownBlock] using e'
   rw [hk] at hgb
   exact ho cur (Option.some.inj hgb)
theorem ziz {W : World} {base n size : Nat} {e : TypeId} {v : Value} {xs : List Value} (h : W.ownsRow base e size v n xs) {k : Nat} (hk : k < base) : some k ≠ v.ownBlock := fun e' => by
 have := (h.lt k e'.symm).1
 omega
structure TwoSet (W : World) (row : Option Nat) (p q : Nat) (C : World) : Prop where
 os : C.os = W.os
 tape : C.tape = W.tape
 output : C.output = W.output
 size : W.heap.size <= C.heap.size
 same : ∀ k, k < W.heap.size -> k ≠ p -> k ≠ q -> some k ≠ row -> C.heap[k]? = W.heap[k]?
theorem zr6 {W w1 : World} {o : Obj} {row : Option Nat} (hg : (W.alloc o).grownBy w1 row) (p i q j : Nat) (u v : Value) : TwoSet W row p q ((w1.setCell ⟨p, i, none⟩ u).setCell ⟨q, j, none⟩ v) :=
 ⟨hg.os, hg.tape, hg.output, by
  have := hg.size
  simp [World.setCell] at this ⊢
  omega, fun k hk hp hq hr => by
  rw [Below.heap_setCell _ _ _ k hq, Below.heap_setCell _ _ _ k hp, hg.block k (by simp; omega) hr]
  exact Below.heap_alloc _ _ _ hk⟩
def znu (w : World) (bs : List UInt8) (e : Ending) (w' : World) : Prop := ∃ (es : List Elem) (u : Value), e = .returned (.tuple #[u, .int .i64 ((Page.scan bs).2 : Nat)]) /\ es.map Elem.x = (Page.scan bs).1 ∧
 w'.ownsRow w.heap.size 141 1 u es.length (es.map Elem.val) /\ (∀ x ∈ es, x.Good w') /\ Ext w w'
set_option maxRecDepth 100000 in
set_option maxHeartbeats 4000000 in
theorem zpb (v : Value) (bs : List UInt8) (w : World) (hv : Bytes w v bs) (hlen : bs.length <= 200000) :
 Calls Tryz.prog 136 #[v] w (znu w bs) := by
 have HV := Hi hv
 obtain ⟨a, n, c, rfl⟩ := hv.isSlice
 clear hv
 refine (callsIn_wide (n := 3)).1 ?_
 refine callsIn_of_wp_marks Tryz.func136 rfl trivial ?_ rfl
 refine wpIn_wide.2 ?_
 simp only [Tryz.ntmps136, List.size_toArray, List.length_cons, List.length_nil, Nat.reduceAdd, Nat.reduceSub, Array.replicate_succ, Array.replicate_zero, List.push_toArray, List.append_toArray, List.nil_append, List.cons_append]
 go_wp2_with fail
 generalize hw2 : World.alloc _ _ = w2
 have hs2 : w2.heap.size = w.heap.size + 2 := by rw [<- hw2]; simp
 have h2 := zev w (.cells #[.slice none 0 0] 167) (.cells #[.int .i64 0] 3)
 rw [hw2] at h2
 have hE2 : Ext w w2 := by rw [<- hw2]; exact zf3 _ _ _
 clear hw2
 have hf := zgs (.slice a n c) w2 ⟨_, _, _, rfl⟩
 refine hf.mono ?_
 rintro e w3 ⟨rfl, hw3⟩
 have hs3 : w3.heap.size = w.heap.size + 3 := by rw [hw3]; simp [hs2]
 have hE3 : Ext w2 w3 := by rw [hw3]; exact Ext.alloc _ _
 have hB1 : w3.heap[w.heap.size]? = some (.cells #[.slice none 0 0] 167 (0, 0)) := zad h2.1 hE3
 have hB2 : w3.heap[w.heap.size + 1]? = some (.cells #[.int .i64 0] 3 (0, 0)) := zad h2.2 hE3
 have hB3 : w3.heap[w.heap.size + 2]? = some (.cells #[.slice a n c] 141 (0, 0)) := by rw [hw3, <- hs2]; exact World.alloc_heap_new _ _
 have hE : Ext w w3 := hE2.trans hE3
 have hc3 : w3.cell? ⟨w.heap.size + 2, 0, none⟩ = some (.slice a n c) := by rw [zaa hB3]; rfl
 have hv3 : Bytes w3 (.slice a n c) bs := HV.out.below hE
 have hoff : Off (fun k => k = w.heap.size \/ k = w.heap.size + 1) (.slice a n c) := HV.out.offNew (fun k hk => by omega)
 have htell := ze8 (3 - 1) (by omega) (w.heap.size + 2) (fun k => k = w.heap.size \/ k = w.heap.size + 1) (.slice a n c) bs w3 hv3 hoff hlen (by omega) (by omega) hc3
 rw [hs2]
 clear hw3 hs2 h2 hf hE2 hE3
 have HT := Hi htell
 clear htell
 go_wp2_with fail
 obtain ⟨i0, hi, hz0, hz1, hz2⟩ := info_parts ztv
 refine (wpIn_wide (n := 3)).1 ?_
 refine zdi (n := 3) rfl (by omega) (gf := 144) (lb := #[.pointer (some ⟨w.heap.size + 2, 0, none⟩)]) rfl trivial (enters_of Tryz.func144 (by kernel_rfl) rfl)
  HT.out (fun _ => rfl) (fun _ _ _ h k => h.trans k) (fun W l o o' h1 h2 h3 => KpF.put W l o o' h1 h2 h3) (fun x W l o o' h1 h2 h3 => h3.keep (KeepU.put W l o o' h1 h2))
  (fun A C k o h1 h2 h3 => h1.same k o h2 (.inr (by rintro ⟨cs, fr, rfl⟩; cases h3)))
  (fun pre W => (∃ u, W.heap[w.heap.size]? = some (.cells #[u] 167 (0, 0)) /\ W.ownsRow w3.heap.size 141 1 u pre.length (pre.map Elem.val)) /\ W.heap[w.heap.size + 1]? = some (.cells #[.int .i64 (zdd pre : Nat)] 3 (0, 0)) /\ Below w.heap.size w3 W /\ ∀ x ∈ pre, x.Good W)
  ?own ?st ?start
  (fun x => { tmps := #[.slice a n c, undef, .slice none 0 0, .int .i64 0, .pointer (some ⟨w.heap.size, 0, none⟩), .pointer (some ⟨w.heap.size + 1, 0, none⟩), .int .i64 (x.pos : Int), .slice x.a x.n x.c, .slice a n c, .func (.func 144) #[] #[.pointer (some ⟨w.heap.size + 2, 0, none⟩)], .int .i64 (x.pos : Int), .slice x.a x.n x.c, undef, undef, undef, undef, undef, undef, undef], defers := [] }) ?assign ?body ?done
 case own =>
  rintro pre W W' row ⟨⟨u, h1, h2⟩, h3, h4, h5⟩ hg hr
  have hr' := fun r e => (hr r e).2
  exact ⟨⟨u, (zcw hg hr' h1).trans h1, zew h2 fun g cs hgc => zcw hg hr' hgc⟩, (zcw hg hr' h3).trans h3, h4.grown hg (by have := h4.size; omega) (fun k e => by have := (hr k e).1; omega), fun x hx => (h5 x hx).keep (KeepU.grown hg hr')⟩
 case st =>
  rintro pre A C ⟨⟨u, h1, h2⟩, h3, h4, h5⟩ hst
  exact ⟨⟨u, (zf1 hst h1 (by decide)).trans h1, zew h2 fun g cs hgc => zf1 hst hgc (by decide)⟩, (zf1 hst h3 (by decide)).trans h3, zse h4 hst (by omega) (by omega), fun x hx => (h5 x hx).keep (KeepU.st hst (by decide))⟩
 case start => exact ⟨⟨_, hB1, World.ownsRow_nil _ _ _ _⟩, hB2, Below.refl _ _, by simp⟩
 case assign =>
  intro l x W K hK
  dsimp only [Elem.encs]
  gi_wp2
  exact hK
 case body =>
  rintro l pre x W ⟨⟨u, h1, h2⟩, h3, h4, h5⟩ hpl hG
  obtain ⟨ua, un, uc, rfl⟩ := zao h2
  have hlenu := h2.1
  have c1 : W.cell? ⟨w.heap.size, 0, none⟩ = some (.slice ua un uc) := by rw [zaa h1]; rfl
  have hsz := h4.size
  have h2' : W.ownsRow w3.heap.size 141 1 (.slice ua un uc) pre.length (pre.map Elem.val) := h2
  have hpl1 : pre.length + 1 <= maxLen := by unfold maxLen; omega
  have hpl2 : (pre.length + 1) * 24 <= 140737488355328 := by omega
  have hbz : w3.heap.size <= (W.alloc (.cells #[.slice x.a x.n x.c] 141)).heap.size := by simp; omega
  have hne1 := zaj h2 h1 (by decide)
  have hne3 := zaj h2 h3 (by decide)
  have hlt1 := (Array.getElem?_eq_some_iff.1 h1).1
  have hlt3 := (Array.getElem?_eq_some_iff.1 h3).1
  have ha1 : (W.alloc (.cells #[.slice x.a x.n x.c] 141)).heap[w.heap.size]? = some (.cells #[.slice ua un uc] 167 (0, 0)) := (Below.heap_alloc _ _ _ hlt1).trans h1
  have ha3 : (W.alloc (.cells #[.slice x.a x.n x.c] 141)).heap[w.heap.size + 1]? = some (.cells #[.int .i64 (zdd pre : Nat)] 3 (0, 0)) := (Below.heap_alloc _ _ _ hlt3).trans h3
  have HA1 := Hi ha1
  have HA3 := Hi ha3
  have hKU : KeepU W (W.alloc (.cells #[.slice x.a x.n x.c] 141)) := KeepU.ext (Ext.alloc _ _)
  clear ha1 ha3 h2
  gi_wp2_with (gi_at_builtin; refine wpListIn_append_own _ rfl _ _ 167 rfl w3.heap.size 141 i0 (.slice none 0 0) 1 24 Tryz.underlying167 hi hz0 hz1 hz2 rfl (by decide) _ _ _ rfl (h2'.alloc _) ⟨W.heap.size, 0, none⟩ 1 1 [.slice x.a x.n x.c] rfl rfl (cell_one_new _ _ _) (by simp [Value.oneCell']) hpl1 hpl2 hbz ?_; intro v' w1 hown' hgrow _; obtain ⟨g', cap', rfl⟩ := ownsRow_succ hown'; have hb1 := (hgrow.block _ (Array.getElem?_eq_some_iff.1 HA1.out).1 hne1).trans HA1.out; have hb3 := (hgrow.block _ (Array.getElem?_eq_some_iff.1 HA3.out).1 hne3).trans HA3.out; have hc1 := zaa hb1 0; have hf1 := zac hb1 0; have hc3 := zaa hb3 0; have hf3 := zac hb3 0)
  have ht := zr6 hgrow w.heap.size 0 (w.heap.size + 1) 0 (Value.slice (some ⟨g', 0, none⟩) (pre.length + 1) cap') (.int .i64 (x.pos : Int))
  obtain ⟨Wf, hWf⟩ : ∃ Wf, (w1.setCell ⟨w.heap.size, 0, none⟩ (Value.slice (some ⟨g', 0, none⟩) (pre.length + 1) cap')).setCell ⟨w.heap.size + 1, 0, none⟩ (.int .i64 (x.pos : Int)) = Wf := ⟨_, rfl⟩
  have e1 := heap_setCell hb1 0 (Value.slice (some ⟨g', 0, none⟩) (pre.length + 1) cap')
  have e3 : (w1.setCell ⟨w.heap.size, 0, none⟩ (Value.slice (some ⟨g', 0, none⟩) (pre.length + 1) cap')).heap[w.heap.size + 1]? = _ := (Below.heap_setCell _ _ _ _ (by simp)).trans hb3
  have e4 := heap_setCell e3 0 (.int .i64 (x.pos : Int))
  have e5 := (Below.heap_setCell (w1.setCell ⟨w.heap.size, 0, none⟩ (Value.slice (some ⟨g', 0, none⟩) (pre.length + 1) cap')) ⟨w.heap.size + 1, 0, none⟩ (.int .i64 (x.pos : Int)) w.heap.size (by simp)).trans e1
  have hk1 := zbe hown' (zaj hown' hb1 (by decide)) (za2 w1 w.heap.size 0 (Value.slice (some ⟨g', 0, none⟩) (pre.length + 1) cap'))
  have hk2 := zbe hk1 (zaj hk1 e3 (by decide)) (za2 _ (w.heap.size + 1) 0 (.int .i64 (x.pos : Int)))
  rw [hWf] at ht e4 e5 hk2 ⊢
  have hgrowU : KeepU W Wf := fun k cs fr hk => ht.same k (Array.getElem?_eq_some_iff.1 hk).1 (by rintro rfl; rw [h1] at hk; simp at hk) (by rintro rfl; rw [h3] at hk; simp at hk) (rowNe h2' hk (by intro cs' e; injection e with _ e _; exact absurd e (by decide)))
  refine ⟨⟨ht.size, fun k o hB hk ho => (ht.same k (Array.getElem?_eq_some_iff.1 hk).1 (by omega) (by omega) (rowNe h2' hk (by rintro cs rfl; cases ho))).trans hk⟩, ?_, ⟨⟨_, e5, ?_⟩, ?_, ?_, ?_⟩⟩
  . intro k o hk ho
    refine (ht.same k (Array.getElem?_eq_some_iff.1 hk).1 ?_ ?_ ?_).trans hk
    . rintro rfl
      rcases ho with ho | ⟨cs, fr, rfl⟩
      . exact ho.2 (.inl rfl)
      . rw [h1] at hk; simp at hk
    . rintro rfl
      rcases ho with ho | ⟨cs, fr, rfl⟩
      . exact ho.2 (.inr rfl)
      . rw [h3] at hk; simp at hk
    . rcases ho with ho | ⟨cs, fr, rfl⟩
      . exact ziz h2' ho.1
      . exact rowNe h2' hk (by intro cs' e; injection e with _ e _; exact absurd e (by decide))
  . rw [List.length_append, List.map_append]
    exact hk2
  . rw [zfo]
    exact e4
  . exact ⟨ht.os.trans h4.os, ht.tape.trans h4.tape, ht.output.trans h4.output, Nat.le_trans h4.size ht.size, fun k hk => (ht.same k (by omega) (by omega) (by omega) (ziz h2' (by omega))).trans (h4.block k hk)⟩
  . intro y hy
    rcases List.mem_append.1 hy with hy | hy
    . exact (h5 y hy).keep hgrowU
    . obtain rfl := List.mem_singleton.1 hy
      exact hG.keep hgrowU
 case done =>
  rintro D xs W hD ⟨hx1, hx2⟩ ⟨⟨u, h1, h2⟩, h3, h4, h5⟩ hK
  obtain ⟨ua, un, uc, rfl⟩ := zao h2
  have c1 : W.cell? ⟨w.heap.size, 0, none⟩ = some (.slice ua un uc) := by rw [zaa h1]; rfl
  have c3 : W.cell? ⟨w.heap.size + 1, 0, none⟩ = some (.int .i64 (zdd xs : Nat)) := by rw [zaa h3]; rfl
  have HX := Hi hx1
  have HX2 := Hi hx2
  clear hx1 hx2
  go_wp2_with fail
  have d1 : W.drew.cell? ⟨w.heap.size, 0, none⟩ = some (.slice ua un uc) := c1
  have d3 : W.drew.cell? ⟨w.heap.size + 1, 0, none⟩ = some (.int .i64 (zdd xs : Nat)) := c3
  go_region
  all_goals
   go_wp2_with fail
   refine ⟨by simp, .inl ⟨D, _, rfl, run_takeDeferred hK, ?_⟩⟩
   refine ⟨_, results_tmp2 rfl _ _ _, xs, .slice ua un uc, ?_, HX.out, ?_, ?_, ?_⟩
   . rw [zfi HX2.out]
     rfl
   . exact zaw (ownsRow_putObj (h2 : W.drew.ownsRow _ _ _ _ _ _) _ hK rfl) (by omega)
   . exact fun y hy => (h5 y hy).keep (KeepU.put W.drew D _ _ hK rfl)
   . exact Below.trans (B := w.heap.size) hE (h4.drew.trans (belowK_b (w := w) (Nat.le_refl _) W.drew D _ _ (by omega) hK rfl rfl))
end Go.Proofs.YtnoeconcpgdjlaaGreat
