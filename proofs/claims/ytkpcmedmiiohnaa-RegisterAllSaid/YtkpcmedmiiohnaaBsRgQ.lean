/-
  Merged: Layer 14, the document's: Install.
-/
import Derived.Test.YtkpcmedmiiohnaaBsLib
import Derived.Test.YtkpcmedmiiohnaaBsRgP
import Derived.Test.YtkpcmedmiiohnaaBsTerm

namespace Go.Proofs.Ytkpcmedmiiohnaa
set_option linter.unusedSimpArgs false
set_option linter.unusedVariables false
set_option maxRecDepth 100000
open Go.RowKit
/- Layer 14, the document's: Install. -/
theorem tC14 : ElemN Try.prog 35 25 (.agg #[.int .i64 0, .slice none 0 0, .slice none 0 0]) 3 56 := ⟨Try.underlying35, by kernel_rfl, rfl, by omega⟩
theorem tT14 : ElemN Try.prog 36 39 (.slice none 0 0) 1 24 := ⟨Try.underlying36, by kernel_rfl, rfl, by omega⟩
theorem RefReg.next {W w : World} {vL' vT' : Value} {pre : List Reg.Row} {a : Reg.Row} {c : Term.C} {l : List Ent.E} {s d tl : Value} {L : List RC14} {T : List (Value × List Ent.E)}
    (h1 : L.map (·.c) = (pre ++ [a]).map (·.c)) (h3 : ∀ r ∈ L, Ints W r.s r.c.seqs ∧ IRows W r.d r.c.shards) (h4 : T.map (·.2) = (pre ++ [a]).dropLast.map (·.tail)) (h6 : ∀ r ∈ T, Ents W r.1 r.2)
    (hs : Ints W s c.seqs) (hd : IRows W d c.shards) (ht : Ents W tl l) (k1 : w.ownsRow 0 25 3 vL' (L.length + 1) (flatC14 (L ++ [⟨s, d, c⟩]))) (k2 : w.ownsRow 0 39 1 vT' (T.length + 1) (T.map (·.1) ++ [tl])) (m : Int) :
    RefReg W w vL' vT' (pre ++ [⟨a.c, l, a.start⟩, ⟨c, [], m⟩]) := by
  refine ⟨⟨L ++ [⟨s, d, c⟩], ?_, by simpa using k1, fun r hr => ?_⟩, T ++ [(tl, l)], ?_, by simpa using k2, fun r hr => ?_⟩
  · rw [List.map_append, h1]
    simp
  · rcases List.mem_append.1 hr with hr | hr
    · exact h3 r hr
    · rw [List.mem_singleton.1 hr]; exact ⟨hs, hd⟩
  · rw [List.map_append, h4]
    simp
  · rcases List.mem_append.1 hr with hr | hr
    · exact h6 r hr
    · rw [List.mem_singleton.1 hr]; exact ht
theorem SlN.one14 (w : World) (T : TypeId) (cs : List Value) (hne : 0 < cs.length) : SlN cs.length (w.alloc (.cells cs.toArray T)) (.slice (some ⟨w.heap.size, 0, none⟩) 1 1) 1 cs := by
  refine ⟨_, _, rfl, Nat.le_refl _, by simp [maxLen], fun e => by simp at e, by simp, fun j hj => ⟨_, _, rfl, ?_⟩⟩
  rw [Nat.zero_add, World.cell?_alloc_mark]
  simp [hj]
theorem flatC14_one {W : World} {L : List RC14} (h : ∀ r ∈ L, Ints W r.s r.c.seqs ∧ IRows W r.d r.c.shards) : ∀ y ∈ flatC14 L, y.oneCell' = true := by
  intro y hy
  obtain ⟨r, hr, hy⟩ := List.mem_flatMap.1 hy
  obtain ⟨h1, h2⟩ := h r hr
  obtain ⟨a1, n1, c1, e1⟩ := h1.isSlice
  obtain ⟨a2, c2, e2, _⟩ := h2.open
  simp only [RC14.cells, e1, e2, List.mem_cons, List.not_mem_nil, or_false] at hy
  rcases hy with rfl | rfl | rfl <;> rfl
theorem rowAside14 {w w' : World} {b base n m size size2 : Nat} {T T2 : TypeId} {u v : Value} {xs ys : List Value} (hu : w.ownsRow b T size u n xs) (hg : w.grownBy w' u.ownBlock) (hv : w.ownsRow base T2 size2 v m ys) (hne : T2 ≠ T) : w'.ownsRow base T2 size2 v m ys := rowOwn hv fun k hk => by
  obtain ⟨cur, hc⟩ := ownAt hv hk
  exact hg.block k (Array.getElem?_eq_some_iff.1 hc).1 (rowBeside hu hc hne)
/-- What the document's Install gives. -/
def GivesRef14 (W : World) (R : List Reg.Row) (c : Term.C) (l : List Ent.E) (w : World) (e : Ending) (w' : World) : Prop :=
  ∃ code R' a1 n1 c1 a2 n2 c2, e = .returned (.tuple #[.agg #[.slice a1 n1 c1, .slice a2 n2 c2], .int .i64 code]) ∧ Reg.Inst R c l code R' ∧ RefReg W w' (.slice a1 n1 c1) (.slice a2 n2 c2) R' ∧ Ext w w'
theorem Reg.at_none {R : List Reg.Row} {t : Int} (h : Reg.look R t = none) (hk : Reg.Ok R) : Reg.at_ R t = -1 := by
  unfold Reg.at_
  by_cases hin : Reg.first R ≤ t ∧ t ≤ Reg.current R
  · obtain ⟨i, hi, hw, hl, _⟩ := hk.look_some hin.1 hin.2
    rw [hl] at h
    cases h
  · rw [(Reg.look_none hin).1]
theorem Reg.at_some {R : List Reg.Row} {t : Int} {x : Reg.Row} (h : Reg.look R t = some x) (hk : Reg.Ok R) : ∃ i, ∃ hi : i < R.length, Reg.at_ R t = (i : Int) ∧ R[i] = x ∧ t = Reg.first R + (i : Int) := by
  by_cases hin : Reg.first R ≤ t ∧ t ≤ Reg.current R
  · obtain ⟨i, hi, hw, hl, ht⟩ := hk.look_some hin.1 hin.2
    rw [hl] at h
    injection h with h
    exact ⟨i, hi, by unfold Reg.at_; rw [hw], h, ht⟩
  · rw [(Reg.look_none hin).2] at h
    cases h
set_option maxHeartbeats 8000000 in
theorem refInstall14_any {W w : World} {vL vT : Value} {R : List Reg.Row} (s d tl : Value) (c : Term.C) (l : List Ent.E) (h : RefReg W w vL vT R) (hk : Reg.Ok R) (hE0 : Ext W w) (hs : Ints W s c.seqs) (hd : IRows W d c.shards) (ht : Ents W tl l) (hl : l.length ≤ 4611686018427387904) (hterm : Wf64 c.term) :
    Calls Try.prog 11 #[.agg #[vL, vT], .agg #[.int .i64 c.term, s, d], tl] w (GivesRef14 W R c l w) := by
  have HK := Lib.hid hk
  have HLL := Lib.hid hl
  have HARG := Lib.hid (And.intro hs (And.intro hd ht))
  have HE0 := Lib.hid hE0
  obtain ⟨g, lc, hL, hnc, hcm, hcl⟩ := h.openL hk.ne
  obtain ⟨ta, tc, hT, htc, htm, hct⟩ := h.openT
  obtain ⟨n, hn⟩ : ∃ z, R.length = z := ⟨_, rfl⟩
  obtain ⟨m, hm⟩ : ∃ z, R.length - 1 = z := ⟨_, rfl⟩
  rw [hn] at hL hnc
  rw [hm] at hT htc
  subst hL hT
  have HCL := Lib.hid hcl
  have HCT := Lib.hid hct
  have HN := Lib.hid (And.intro hn hm)
  have HNC := Lib.hid (And.intro hnc (And.intro hcm (And.intro htc htm)))
  obtain ⟨sa, sn, sc, rfl⟩ := hs.isSlice
  obtain ⟨da, dc, rfl, _⟩ := hd.open
  obtain ⟨la, lcap, rfl, hlc, hlm⟩ := ht.shape
  obtain ⟨nd, hnd⟩ : ∃ z, c.shards.length = z := ⟨_, rfl⟩
  obtain ⟨len, hlen⟩ : ∃ z, l.length = z := ⟨_, rfl⟩
  obtain ⟨TT, hTT⟩ : ∃ z, c.term = z := ⟨_, rfl⟩
  have hcf : ∀ wy, Ext W wy → IsConf wy (.agg #[.int .i64 c.term, .slice sa sn sc, .slice da c.shards.length dc]) c := fun wy hy => ⟨_, _, rfl, hs.below hy, hd.below hy⟩
  rw [hnd, hTT] at hcf
  have HCF := Lib.hid hcf
  rw [hnd] at HARG ⊢
  rw [hlen] at HARG hlc ⊢
  rw [hTT] at hterm ⊢
  have HLN := Lib.hid (And.intro hnd (And.intro hlen hTT))
  have HWF := Lib.hid hterm
  have HH := Lib.hid h
  obtain ⟨q, hq⟩ : ∃ z, w.heap.size = z := ⟨_, rfl⟩
  obtain ⟨w1, hw1⟩ : ∃ z, w.alloc (.cells #[.slice (some ⟨g, 0, none⟩) n lc, .slice ta m tc] 38) = z := ⟨_, rfl⟩
  obtain ⟨w2, hw2⟩ : ∃ z, w1.alloc (.cells #[.int .i64 TT, .slice sa sn sc, .slice da nd dc] 25) = z := ⟨_, rfl⟩
  obtain ⟨w3, hw3⟩ : ∃ z, w2.alloc (.cells #[.slice none 0 0, .slice none 0 0] 38) = z := ⟨_, rfl⟩
  have hE1 : Ext w w1 := by rw [← hw1]; exact Ext.alloc _ _
  have hE2 : Ext w1 w2 := by rw [← hw2]; exact Ext.alloc _ _
  have hE3 : Ext w2 w3 := by rw [← hw3]; exact Ext.alloc _ _
  have hs1 : w1.heap.size = q + 1 := by rw [← hw1, World.size_alloc, hq]
  have hs2 : w2.heap.size = q + 1 + 1 := by rw [← hw2, World.size_alloc, hs1]
  have hB1 : w1.heap[q]? = some (.cells #[.slice (some ⟨g, 0, none⟩) n lc, .slice ta m tc] 38 (0, 0)) := by rw [← hw1, ← hq]; exact heap_alloc_new _ _
  have hB2 : w2.heap[q + 1]? = some (.cells #[.int .i64 TT, .slice sa sn sc, .slice da nd dc] 25 (0, 0)) := by rw [← hw2, ← hs1]; exact heap_alloc_new _ _
  have hB3 : w3.heap[q + 1 + 1]? = some (.cells #[.slice none 0 0, .slice none 0 0] 38 (0, 0)) := by rw [← hw3, ← hs2]; exact heap_alloc_new _ _
  have HQ := Lib.hid (And.intro hq (And.intro hw1 (And.intro hs1 (And.intro hw2 (And.intro hs2 hw3)))))
  have HE3 := Lib.hid (hE1.trans (hE2.trans hE3))
  have HB := Lib.hid (And.intro (heap_ext hB1 (hE2.trans hE3)) (And.intro (heap_ext hB2 hE3) hB3))
  -- what is left of it in any later world
  have hcells : ∀ wy, Ext w3 wy → wy.cell? ⟨q, 0, none⟩ = some (.slice (some ⟨g, 0, none⟩) n lc) ∧ wy.cell? ⟨q, 1, none⟩ = some (.slice ta m tc) ∧ wy.cell? ⟨q + 1, 0, none⟩ = some (.int .i64 TT) ∧ wy.cell? ⟨q + 1, 1, none⟩ = some (.slice sa sn sc) ∧ wy.cell? ⟨q + 1, 2, none⟩ = some (.slice da nd dc) ∧
      wy.cell? ⟨q + 1 + 1, 0, none⟩ = some (.slice none 0 0) ∧ wy.cell? ⟨q + 1 + 1, 1, none⟩ = some (.slice none 0 0) ∧ (∀ j, wy.frozen? ⟨q + 1 + 1, j, none⟩ = false) ∧ ∀ j, wy.frozen? ⟨q, j, none⟩ = false := fun wy hy =>
    ⟨cell_of_heap (heap_ext (heap_ext hB1 (hE2.trans hE3)) hy) 0, cell_of_heap (heap_ext (heap_ext hB1 (hE2.trans hE3)) hy) 1, cell_of_heap (heap_ext (heap_ext hB2 hE3) hy) 0, cell_of_heap (heap_ext (heap_ext hB2 hE3) hy) 1, cell_of_heap (heap_ext (heap_ext hB2 hE3) hy) 2, cell_of_heap (heap_ext hB3 hy) 0, cell_of_heap (heap_ext hB3 hy) 1, fun j => frozen_of_heap (heap_ext hB3 hy) j, fun j => frozen_of_heap (heap_ext (heap_ext hB1 (hE2.trans hE3)) hy) j⟩
  have HCE := Lib.hid hcells
  -- a refusal
  have hEND : ∀ (code : Int) (wy : World), Ext w3 wy → Reg.Inst R c l code R → GivesRef14 W R c l w (.returned (.tuple #[.agg #[.slice (some ⟨g, 0, none⟩) n lc, .slice ta m tc], .int .i64 code])) ((wy.setCell ⟨q + 1 + 1, 0, none⟩ (.slice (some ⟨g, 0, none⟩) n lc)).setCell ⟨q + 1 + 1, 1, none⟩ (.slice ta m tc)) := fun code wy hy hin => by
    have hB : But (q + 1 + 1) wy ((wy.setCell ⟨q + 1 + 1, 0, none⟩ (.slice (some ⟨g, 0, none⟩) n lc)).setCell ⟨q + 1 + 1, 1, none⟩ (.slice ta m tc)) := ((But.refl _ _).setCell 0 none _).setCell 1 none _
    have hE : Ext w ((wy.setCell ⟨q + 1 + 1, 0, none⟩ (.slice (some ⟨g, 0, none⟩) n lc)).setCell ⟨q + 1 + 1, 1, none⟩ (.slice ta m tc)) := Below.trans (B := w.heap.size) ((hE1.trans (hE2.trans hE3)).trans hy) (hB.below (by rw [hq]; omega) ((hE1.trans (hE2.trans hE3)).trans hy).size)
    exact ⟨code, R, _, _, _, _, _, _, rfl, hin, h.ext hE, hE⟩
  have HEND := Lib.hid hEND
  have hRES : ∀ (wy : World), Ext w3 wy → ((wy.setCell ⟨q + 1 + 1, 0, none⟩ (.slice (some ⟨g, 0, none⟩) n lc)).setCell ⟨q + 1 + 1, 1, none⟩ (.slice ta m tc)).cell? ⟨q + 1 + 1, 0, none⟩ = some (.slice (some ⟨g, 0, none⟩) n lc) ∧ ((wy.setCell ⟨q + 1 + 1, 0, none⟩ (.slice (some ⟨g, 0, none⟩) n lc)).setCell ⟨q + 1 + 1, 1, none⟩ (.slice ta m tc)).cell? ⟨q + 1 + 1, 1, none⟩ = some (.slice ta m tc) := fun wy hy => by
    have h2 := heap_setCell (heap_setCell (heap_ext hB3 hy) 0 (.slice (some ⟨g, 0, none⟩) n lc)) 1 (.slice ta m tc)
    exact ⟨cell_of_heap h2 0, cell_of_heap h2 1⟩
  have HRES := Lib.hid hRES
  have hTM1 : Reg.look R (IntKind.i64.wrap (TT - 1)) = Reg.look R (TT - 1) := by
    by_cases hz : TT = -9223372036854775808
    · rw [hz]
      have hp := hk.first_pos
      rw [(Reg.look_none (R := R) (t := -9223372036854775808 - 1) (by omega)).2]
      refine (Reg.look_none ?_).2
      rw [show IntKind.i64.wrap (-9223372036854775808 - 1) = 9223372036854775807 from by decide]
      omega
    · unfold Wf64 at hterm
      simp [Lit.wf, IntKind.min, IntKind.max, IntKind.signed, IntKind.bits] at hterm
      rw [IntWalk.i64_in _ (by omega)]
  obtain ⟨TM, hTM⟩ : ∃ z, IntKind.i64.wrap (TT - 1) = z := ⟨_, rfl⟩
  rw [hTM] at hTM1
  have HTM := Lib.hid (And.intro hTM hTM1)
  have hwt := HTM.out.1
  clear hk hl hs hd ht hE0 hcl hct hn hm hnd hlen hTT hcf hterm h hq hw1 hw2 hw3 hE1 hE2 hE3 hs1 hs2 hB1 hB2 hB3 hEND hRES hTM hTM1 hnc hcm htc htm hcells
  obtain ⟨z0, z1, z2, z3, z4, z5, z6, z7, z8⟩ := HCE.out w3 (Ext.refl _)
  go_enter Try.func11, Try.ntmps11
  go_upto_region 1 with fail
  rw [HQ.out.1, HQ.out.2.1]
  try rw [HQ.out.2.2.2.1]
  try rw [HQ.out.2.2.2.2.1]
  try rw [HQ.out.2.2.2.2.2]
  go_wp2_with fail
  refine (refFind14_any TM (HH.out.ext HE3.out) HK.out).mono ?_
  rintro e w4 ⟨rfl, hE4⟩
  obtain ⟨A8, hA8⟩ : ∃ z, Reg.at_ R TM = z := ⟨_, rfl⟩
  rw [hA8]
  have HA8 := Lib.hid hA8
  have HE4 := Lib.hid hE4
  clear z0 z1 z2 z3 z4 z5 z6 z7 z8
  obtain ⟨z0, z1, z2, z3, z4, z5, z6, z7, z8⟩ := HCE.out w4 HE4.out
  clear hA8 hE4 hwt
  go_wp2_with fail
  refine (refFind14_any TT (HH.out.ext (HE3.out.trans HE4.out)) HK.out).mono ?_
  rintro e w5 ⟨rfl, hE5⟩
  obtain ⟨K9, hK9⟩ : ∃ z, Reg.at_ R TT = z := ⟨_, rfl⟩
  rw [hK9]
  have HK9 := Lib.hid hK9
  have HE5 := Lib.hid (HE4.out.trans hE5)
  clear z0 z1 z2 z3 z4 z5 z6 z7 z8
  obtain ⟨z0, z1, z2, z3, z4, z5, z6, z7, z8⟩ := HCE.out w5 HE5.out
  clear hK9 hE5
  go_wp2_with fail
  refine (refRight6_any _ c w5 (HCF.out w5 (HE0.out.trans (HE3.out.trans HE5.out)))).mono ?_
  rintro e w6 ⟨rfl, hE6⟩
  have HE6 := Lib.hid (HE5.out.trans hE6)
  obtain ⟨br, hbr⟩ : ∃ z, Term.right c = z := ⟨_, rfl⟩
  rw [hbr]
  have HBR := Lib.hid hbr
  clear z0 z1 z2 z3 z4 z5 z6 z7 z8
  obtain ⟨z0, z1, z2, z3, z4, z5, z6, z7, z8⟩ := HCE.out w6 HE6.out
  clear hbr hE6
  cases br with
  | false =>
    go_wp2_with fail
    obtain ⟨m0, m1⟩ := HRES.out w6 HE6.out
    refine bodyPost_ret (v := .tuple #[.agg #[.slice (some ⟨g, 0, none⟩) n lc, .slice ta m tc], .int .i64 1]) (by simp [results, Try.results11, go_sem, m0, m1]) rfl ?_
    exact HEND.out 1 w6 HE6.out (Reg.Inst.bad fun hg => by rw [hg.1] at HBR; exact absurd HBR.out (by decide))
  | true =>
  go_wp2_with fail
  refine (refChain5_any _ l w6 (HARG.out.2.2.below (HE0.out.trans (HE3.out.trans HE6.out))) HLL.out).mono ?_
  rintro e w7 ⟨rfl, hE7⟩
  have HE7 := Lib.hid (HE6.out.trans hE7)
  obtain ⟨ch, hch⟩ : ∃ z, Ent.chain l = z := ⟨_, rfl⟩
  rw [hch]
  have HCH := Lib.hid hch
  clear z0 z1 z2 z3 z4 z5 z6 z7 z8
  obtain ⟨z0, z1, z2, z3, z4, z5, z6, z7, z8⟩ := HCE.out w7 HE7.out
  clear hch hE7
  by_cases hcl : ch = len
  case neg =>
    have hcl2 : ¬ ((ch : Int) = (len : Int)) := by omega
    go_wp2_with fail
    obtain ⟨m0, m1⟩ := HRES.out w7 HE7.out
    refine bodyPost_ret (v := .tuple #[.agg #[.slice (some ⟨g, 0, none⟩) n lc, .slice ta m tc], .int .i64 1]) (by simp [results, Try.results11, go_sem, m0, m1]) rfl ?_
    exact HEND.out 1 w7 HE7.out (Reg.Inst.bad fun hg => hcl (by rw [← HCH.out, ← HLN.out.2.1]; exact hg.2.1))
  subst hcl
  have hlk : ∀ t, t = TT → Reg.look R c.term = Reg.look R t := fun t h => by rw [HLN.out.2.2, h]
  cases hla : Reg.look R (TT - 1) with
  | none =>
    have hA : A8 = -1 := by rw [← HA8.out]; exact Reg.at_none (HTM.out.2.trans hla) HK.out
    subst hA
    have HLA := Lib.hid hla
    have hgood : Reg.good R c l := ⟨HBR.out, by rw [HLN.out.2.1]; exact HCH.out, fun a ha => by rw [HLN.out.2.2, hla] at ha; cases ha⟩
    have HG := Lib.hid hgood
    clear hla hgood
    go_wp2_with fail
    go_loopw [10] (fun x wr => x = .int .i64 0 ∧ w7 = wr) (fun _ _ => 0)
    case atStart => exact ⟨rfl, rfl⟩
    case round =>
      obtain ⟨rfl, hww⟩ := hrel
      subst hww
      have hgo : ∀ P : Prop, (0 < ch → P) → (¬ 0 < ch → P) → P := fun P h1 h2 => by by_cases h : 0 < ch; exact h1 h; exact h2 h
      cases hlx : Reg.look R TT with
      | none =>
        have hK : K9 = -1 := by rw [← HK9.out]; exact Reg.at_none hlx HK.out
        subst hK
        have HIN := Lib.hid (Reg.Inst.none (R := R) (c := c) (l := l) HG.out (by rw [HLN.out.2.2]; exact hlx) (by rw [HLN.out.2.2]; exact HLA.out))
        clear hlx
        by_cases h0 : 0 < ch
        · go_wp2_with fail
          obtain ⟨m0, m1⟩ := HRES.out w7 HE7.out
          refine bodyPost_ret (v := .tuple #[.agg #[.slice (some ⟨g, 0, none⟩) n lc, .slice ta m tc], .int .i64 141]) (by simp [results, Try.results11, go_sem, m0, m1]) rfl ?_
          exact HEND.out 141 w7 HE7.out (HIN.out)
        · go_wp2_with fail
          obtain ⟨m0, m1⟩ := HRES.out w7 HE7.out
          refine bodyPost_ret (v := .tuple #[.agg #[.slice (some ⟨g, 0, none⟩) n lc, .slice ta m tc], .int .i64 141]) (by simp [results, Try.results11, go_sem, m0, m1]) rfl ?_
          exact HEND.out 141 w7 HE7.out (HIN.out)
      | some x =>
        obtain ⟨j, hj, hK, hx, hxt⟩ := Reg.at_some hlx HK.out
        rw [HK9.out] at hK
        subst hK
        have HIN := Lib.hid (Reg.Inst.other (R := R) (c := c) (l := l) HG.out x (by rw [HLN.out.2.2]; exact hlx) (by
          rintro ⟨a, ha, _⟩
          rw [HLN.out.2.2, HLA.out] at ha
          cases ha))
        clear hlx hx hxt
        by_cases h0 : 0 < ch
        · go_upto_region 11 with fail
          refine wp_region_facts (by kernel_rfl) Ext (fun iop v w => match iop with
              | 0 => v = .int .i64 (-1)
              | 1 => v = .bool true
              | 2 => v = .bool true
              | 3 => v = undef
              | 4 => v = undef
              | 5 => v = undef
              | 6 => v = undef
              | 7 => v = undef
              | 8 => v = undef
              | 9 => v = undef
              | 10 => v = undef
              | 11 => v = .bool true
              | 12 => v = .bool true
              | 13 => v = undef
              | 14 => v = undef
              | 15 => v = undef
              | 16 => v = undef
              | 17 => v = undef
              | 18 => v = undef
              | 19 => v = undef
              | 20 => v = undef
              | _ => v = .bool true
              ) (by kernel_rfl) (fun _ _ _ h k => Ext.trans h k) (fun a => Ext.refl a) (Ext.drew _) ?_ ?_ ?_
          · intro iop v wa wb hF hL
            iterate 21 (rcases iop with _ | iop; exact hF)
            exact hF
          · refine Obls.cons ?_ (Obls.cons ?_ (Obls.cons ?_ (Obls.cons ?_ (Obls.cons ?_ (Obls.cons ?_ (Obls.cons ?_ (Obls.cons ?_ (Obls.cons ?_ (Obls.cons ?_ (Obls.cons ?_ (Obls.cons ?_ (Obls.cons ?_ (Obls.cons ?_ (Obls.cons ?_ (Obls.cons ?_ (Obls.cons ?_ (Obls.cons ?_ (Obls.cons ?_ (Obls.cons ?_ (Obls.cons ?_ (Obls.cons ?_ (Obls.nil))))))))))))))))))))))
            · intro ev wy hp hl hk hd
              have e8 : ev _ = .int .i64 (-1) := hk 8 (by decide)
              exact Yield.mv rfl ⟨Ext.refl _, e8⟩
            · intro ev wy hp hl hk hd
              have e68 : ev _ = _ := hk 68 (by decide)
              exact Yield.op (v := .bool true) (w' := wy) (by simp [execOp, go_sem, e68, hp.const]) ⟨Ext.refl _, rfl⟩
            · intro ev wy hp hl hk hd
              have e69 : ev _ = _ := hk 69 (by decide)
              exact Yield.mv rfl ⟨Ext.refl _, e69⟩
            · intro ev wy hp hl hk hd
              have e3 := hk 3 (by decide)
              exact ⟨fun x hx he => (by rw [show x = .bool true from hx] at he; cases he), fun _ _ _ => rfl⟩
            · intro ev wy hp hl hk hd
              have e71 : ev _ = _ := hk 71 (by decide)
              exact ⟨fun x hx he => (by rw [show x = .bool true from hx] at he; cases he), fun _ _ _ => rfl⟩
            · intro ev wy hp hl hk hd
              have e9 := hk 9 (by decide)
              exact ⟨fun x hx he => (by rw [show x = .bool true from hx] at he; cases he), fun _ _ _ => rfl⟩
            · intro ev wy hp hl hk hd
              have e72 : ev _ = _ := hk 72 (by decide)
              have e73 : ev _ = _ := hk 73 (by decide)
              exact ⟨fun x hx he => (by rw [show x = .bool true from hx] at he; cases he), fun _ _ _ => rfl⟩
            · intro ev wy hp hl hk hd
              have e74 : ev _ = _ := hk 74 (by decide)
              exact ⟨fun x hx he => (by rw [show x = .bool true from hx] at he; cases he), fun _ _ _ => rfl⟩
            · intro ev wy hp hl hk hd
              have e4 := hk 4 (by decide)
              exact ⟨fun x hx he => (by rw [show x = .bool true from hx] at he; cases he), fun _ _ _ => rfl⟩
            · intro ev wy hp hl hk hd
              have e75 : ev _ = _ := hk 75 (by decide)
              have e76 : ev _ = _ := hk 76 (by decide)
              exact ⟨fun x hx he => (by rw [show x = .bool true from hx] at he; cases he), fun _ _ _ => rfl⟩
            · intro ev wy hp hl hk hd
              have e77 : ev _ = _ := hk 77 (by decide)
              exact ⟨fun x hx he => (by rw [show x = .bool true from hx] at he; cases he), fun _ _ _ => rfl⟩
            · intro ev wy hp hl hk hd
              have e70 : ev _ = _ := hk 70 (by decide)
              have e78 : ev _ = _ := hk 78 (by decide)
              exact Yield.pick (t := true) rfl e70 ⟨Ext.refl _, hp.const _⟩
            · intro ev wy hp hl hk hd
              have e79 : ev _ = _ := hk 79 (by decide)
              exact Yield.mv rfl ⟨Ext.refl _, e79⟩
            · intro ev wy hp hl hk hd
              have e3 := hk 3 (by decide)
              exact ⟨fun x hx he => (by rw [show x = .bool true from hx] at he; cases he), fun _ _ _ => rfl⟩
            · intro ev wy hp hl hk hd
              have e81 : ev _ = _ := hk 81 (by decide)
              exact ⟨fun x hx he => (by rw [show x = .bool true from hx] at he; cases he), fun _ _ _ => rfl⟩
            · intro ev wy hp hl hk hd
              have e8 : ev _ = .int .i64 (-1) := hk 8 (by decide)
              exact ⟨fun x hx he => (by rw [show x = .bool true from hx] at he; cases he), fun _ _ _ => rfl⟩
            · intro ev wy hp hl hk hd
              have e82 : ev _ = _ := hk 82 (by decide)
              have e83 : ev _ = _ := hk 83 (by decide)
              exact ⟨fun x hx he => (by rw [show x = .bool true from hx] at he; cases he), fun _ _ _ => rfl⟩
            · intro ev wy hp hl hk hd
              have e84 : ev _ = _ := hk 84 (by decide)
              exact ⟨fun x hx he => (by rw [show x = .bool true from hx] at he; cases he), fun _ _ _ => rfl⟩
            · intro ev wy hp hl hk hd
              have e2 := hk 2 (by decide)
              exact ⟨fun x hx he => (by rw [show x = .bool true from hx] at he; cases he), fun _ _ _ => rfl⟩
            · intro ev wy hp hl hk hd
              have e85 : ev _ = _ := hk 85 (by decide)
              have e86 : ev _ = _ := hk 86 (by decide)
              exact ⟨fun x hx he => (by rw [show x = .bool true from hx] at he; cases he), fun _ _ _ => rfl⟩
            · intro ev wy hp hl hk hd
              have e87 : ev _ = _ := hk 87 (by decide)
              exact ⟨fun x hx he => (by rw [show x = .bool true from hx] at he; cases he), fun _ _ _ => rfl⟩
            · intro ev wy hp hl hk hd
              have e80 : ev _ = _ := hk 80 (by decide)
              have e88 : ev _ = _ := hk 88 (by decide)
              exact Yield.pick (t := true) rfl e80 ⟨Ext.refl _, hp.const _⟩
          · intro vals wz hz hv
            have g68 : vals 0 = _ := hv 0 (by decide)
            have g69 : vals 1 = _ := hv 1 (by decide)
            have g70 : vals 2 = _ := hv 2 (by decide)
            have g71 : vals 3 = _ := hv 3 (by decide)
            have g72 : vals 4 = _ := hv 4 (by decide)
            have g73 : vals 5 = _ := hv 5 (by decide)
            have g74 : vals 6 = _ := hv 6 (by decide)
            have g75 : vals 7 = _ := hv 7 (by decide)
            have g76 : vals 8 = _ := hv 8 (by decide)
            have g77 : vals 9 = _ := hv 9 (by decide)
            have g78 : vals 10 = _ := hv 10 (by decide)
            have g79 : vals 11 = _ := hv 11 (by decide)
            have g80 : vals 12 = _ := hv 12 (by decide)
            have g81 : vals 13 = _ := hv 13 (by decide)
            have g82 : vals 14 = _ := hv 14 (by decide)
            have g83 : vals 15 = _ := hv 15 (by decide)
            have g84 : vals 16 = _ := hv 16 (by decide)
            have g85 : vals 17 = _ := hv 17 (by decide)
            have g86 : vals 18 = _ := hv 18 (by decide)
            have g87 : vals 19 = _ := hv 19 (by decide)
            have g88 : vals 20 = _ := hv 20 (by decide)
            have g89 : vals 21 = _ := hv 21 (by decide)
            clear hv
            simp only [putAll, Act.put, List.setIfInBounds_toArray, List.set_cons_zero, List.set_cons_succ, g68, g69, g70, g71, g72, g73, g74, g75, g76, g77, g78, g79, g80, g81, g82, g83, g84, g85, g86, g87, g88, g89]
            clear g68 g69 g70 g71 g72 g73 g74 g75 g76 g77 g78 g79 g80 g81 g82 g83 g84 g85 g86 g87 g88 g89
            have HZ := Lib.hid (HE7.out.trans hz)
            clear z0 z1 z2 z3 z4 z5 z6 z7 z8
            obtain ⟨z0, z1, z2, z3, z4, z5, z6, z7, z8⟩ := HCE.out wz HZ.out
            clear hz
            go_wp2_with fail
            obtain ⟨m0, m1⟩ := HRES.out wz HZ.out
            refine bodyPost_ret (v := .tuple #[.agg #[.slice (some ⟨g, 0, none⟩) n lc, .slice ta m tc], .int .i64 140]) (by simp [results, Try.results11, go_sem, m0, m1]) rfl ?_
            exact HEND.out 140 wz HZ.out (HIN.out)
        · go_upto_region 11 with fail
          refine wp_region_facts (by kernel_rfl) Ext (fun iop v w => match iop with
              | 0 => v = .int .i64 (-1)
              | 1 => v = .bool true
              | 2 => v = .bool true
              | 3 => v = undef
              | 4 => v = undef
              | 5 => v = undef
              | 6 => v = undef
              | 7 => v = undef
              | 8 => v = undef
              | 9 => v = undef
              | 10 => v = undef
              | 11 => v = .bool true
              | 12 => v = .bool true
              | 13 => v = undef
              | 14 => v = undef
              | 15 => v = undef
              | 16 => v = undef
              | 17 => v = undef
              | 18 => v = undef
              | 19 => v = undef
              | 20 => v = undef
              | _ => v = .bool true
              ) (by kernel_rfl) (fun _ _ _ h k => Ext.trans h k) (fun a => Ext.refl a) (Ext.drew _) ?_ ?_ ?_
          · intro iop v wa wb hF hL
            iterate 21 (rcases iop with _ | iop; exact hF)
            exact hF
          · refine Obls.cons ?_ (Obls.cons ?_ (Obls.cons ?_ (Obls.cons ?_ (Obls.cons ?_ (Obls.cons ?_ (Obls.cons ?_ (Obls.cons ?_ (Obls.cons ?_ (Obls.cons ?_ (Obls.cons ?_ (Obls.cons ?_ (Obls.cons ?_ (Obls.cons ?_ (Obls.cons ?_ (Obls.cons ?_ (Obls.cons ?_ (Obls.cons ?_ (Obls.cons ?_ (Obls.cons ?_ (Obls.cons ?_ (Obls.cons ?_ (Obls.nil))))))))))))))))))))))
            · intro ev wy hp hl hk hd
              have e8 : ev _ = .int .i64 (-1) := hk 8 (by decide)
              exact Yield.mv rfl ⟨Ext.refl _, e8⟩
            · intro ev wy hp hl hk hd
              have e68 : ev _ = _ := hk 68 (by decide)
              exact Yield.op (v := .bool true) (w' := wy) (by simp [execOp, go_sem, e68, hp.const]) ⟨Ext.refl _, rfl⟩
            · intro ev wy hp hl hk hd
              have e69 : ev _ = _ := hk 69 (by decide)
              exact Yield.mv rfl ⟨Ext.refl _, e69⟩
            · intro ev wy hp hl hk hd
              have e3 := hk 3 (by decide)
              exact ⟨fun x hx he => (by rw [show x = .bool true from hx] at he; cases he), fun _ _ _ => rfl⟩
            · intro ev wy hp hl hk hd
              have e71 : ev _ = _ := hk 71 (by decide)
              exact ⟨fun x hx he => (by rw [show x = .bool true from hx] at he; cases he), fun _ _ _ => rfl⟩
            · intro ev wy hp hl hk hd
              have e9 := hk 9 (by decide)
              exact ⟨fun x hx he => (by rw [show x = .bool true from hx] at he; cases he), fun _ _ _ => rfl⟩
            · intro ev wy hp hl hk hd
              have e72 : ev _ = _ := hk 72 (by decide)
              have e73 : ev _ = _ := hk 73 (by decide)
              exact ⟨fun x hx he => (by rw [show x = .bool true from hx] at he; cases he), fun _ _ _ => rfl⟩
            · intro ev wy hp hl hk hd
              have e74 : ev _ = _ := hk 74 (by decide)
              exact ⟨fun x hx he => (by rw [show x = .bool true from hx] at he; cases he), fun _ _ _ => rfl⟩
            · intro ev wy hp hl hk hd
              have e4 := hk 4 (by decide)
              exact ⟨fun x hx he => (by rw [show x = .bool true from hx] at he; cases he), fun _ _ _ => rfl⟩
            · intro ev wy hp hl hk hd
              have e75 : ev _ = _ := hk 75 (by decide)
              have e76 : ev _ = _ := hk 76 (by decide)
              exact ⟨fun x hx he => (by rw [show x = .bool true from hx] at he; cases he), fun _ _ _ => rfl⟩
            · intro ev wy hp hl hk hd
              have e77 : ev _ = _ := hk 77 (by decide)
              exact ⟨fun x hx he => (by rw [show x = .bool true from hx] at he; cases he), fun _ _ _ => rfl⟩
            · intro ev wy hp hl hk hd
              have e70 : ev _ = _ := hk 70 (by decide)
              have e78 : ev _ = _ := hk 78 (by decide)
              exact Yield.pick (t := true) rfl e70 ⟨Ext.refl _, hp.const _⟩
            · intro ev wy hp hl hk hd
              have e79 : ev _ = _ := hk 79 (by decide)
              exact Yield.mv rfl ⟨Ext.refl _, e79⟩
            · intro ev wy hp hl hk hd
              have e3 := hk 3 (by decide)
              exact ⟨fun x hx he => (by rw [show x = .bool true from hx] at he; cases he), fun _ _ _ => rfl⟩
            · intro ev wy hp hl hk hd
              have e81 : ev _ = _ := hk 81 (by decide)
              exact ⟨fun x hx he => (by rw [show x = .bool true from hx] at he; cases he), fun _ _ _ => rfl⟩
            · intro ev wy hp hl hk hd
              have e8 : ev _ = .int .i64 (-1) := hk 8 (by decide)
              exact ⟨fun x hx he => (by rw [show x = .bool true from hx] at he; cases he), fun _ _ _ => rfl⟩
            · intro ev wy hp hl hk hd
              have e82 : ev _ = _ := hk 82 (by decide)
              have e83 : ev _ = _ := hk 83 (by decide)
              exact ⟨fun x hx he => (by rw [show x = .bool true from hx] at he; cases he), fun _ _ _ => rfl⟩
            · intro ev wy hp hl hk hd
              have e84 : ev _ = _ := hk 84 (by decide)
              exact ⟨fun x hx he => (by rw [show x = .bool true from hx] at he; cases he), fun _ _ _ => rfl⟩
            · intro ev wy hp hl hk hd
              have e2 := hk 2 (by decide)
              exact ⟨fun x hx he => (by rw [show x = .bool true from hx] at he; cases he), fun _ _ _ => rfl⟩
            · intro ev wy hp hl hk hd
              have e85 : ev _ = _ := hk 85 (by decide)
              have e86 : ev _ = _ := hk 86 (by decide)
              exact ⟨fun x hx he => (by rw [show x = .bool true from hx] at he; cases he), fun _ _ _ => rfl⟩
            · intro ev wy hp hl hk hd
              have e87 : ev _ = _ := hk 87 (by decide)
              exact ⟨fun x hx he => (by rw [show x = .bool true from hx] at he; cases he), fun _ _ _ => rfl⟩
            · intro ev wy hp hl hk hd
              have e80 : ev _ = _ := hk 80 (by decide)
              have e88 : ev _ = _ := hk 88 (by decide)
              exact Yield.pick (t := true) rfl e80 ⟨Ext.refl _, hp.const _⟩
          · intro vals wz hz hv
            have g68 : vals 0 = _ := hv 0 (by decide)
            have g69 : vals 1 = _ := hv 1 (by decide)
            have g70 : vals 2 = _ := hv 2 (by decide)
            have g71 : vals 3 = _ := hv 3 (by decide)
            have g72 : vals 4 = _ := hv 4 (by decide)
            have g73 : vals 5 = _ := hv 5 (by decide)
            have g74 : vals 6 = _ := hv 6 (by decide)
            have g75 : vals 7 = _ := hv 7 (by decide)
            have g76 : vals 8 = _ := hv 8 (by decide)
            have g77 : vals 9 = _ := hv 9 (by decide)
            have g78 : vals 10 = _ := hv 10 (by decide)
            have g79 : vals 11 = _ := hv 11 (by decide)
            have g80 : vals 12 = _ := hv 12 (by decide)
            have g81 : vals 13 = _ := hv 13 (by decide)
            have g82 : vals 14 = _ := hv 14 (by decide)
            have g83 : vals 15 = _ := hv 15 (by decide)
            have g84 : vals 16 = _ := hv 16 (by decide)
            have g85 : vals 17 = _ := hv 17 (by decide)
            have g86 : vals 18 = _ := hv 18 (by decide)
            have g87 : vals 19 = _ := hv 19 (by decide)
            have g88 : vals 20 = _ := hv 20 (by decide)
            have g89 : vals 21 = _ := hv 21 (by decide)
            clear hv
            simp only [putAll, Act.put, List.setIfInBounds_toArray, List.set_cons_zero, List.set_cons_succ, g68, g69, g70, g71, g72, g73, g74, g75, g76, g77, g78, g79, g80, g81, g82, g83, g84, g85, g86, g87, g88, g89]
            clear g68 g69 g70 g71 g72 g73 g74 g75 g76 g77 g78 g79 g80 g81 g82 g83 g84 g85 g86 g87 g88 g89
            have HZ := Lib.hid (HE7.out.trans hz)
            clear z0 z1 z2 z3 z4 z5 z6 z7 z8
            obtain ⟨z0, z1, z2, z3, z4, z5, z6, z7, z8⟩ := HCE.out wz HZ.out
            clear hz
            go_wp2_with fail
            obtain ⟨m0, m1⟩ := HRES.out wz HZ.out
            refine bodyPost_ret (v := .tuple #[.agg #[.slice (some ⟨g, 0, none⟩) n lc, .slice ta m tc], .int .i64 140]) (by simp [results, Try.results11, go_sem, m0, m1]) rfl ?_
            exact HEND.out 140 wz HZ.out (HIN.out)
  | some a =>
    obtain ⟨i, hi, hiA, hia, hit⟩ := Reg.at_some hla HK.out
    have hfp := HK.out.first_pos
    have hlen64 := HK.out.len
    have hcur : Reg.current R = Reg.first R + (R.length : Int) - 1 := rfl
    have hTMe : TM = TT - 1 := by rw [← HTM.out.1]; exact IntWalk.i64_in _ (by omega)
    have hA8 := HA8.out
    rw [hTMe, hiA] at hA8
    subst hA8
    have hin : i < n := by rw [← HN.out.1]; exact hi
    obtain ⟨i1, i2, i3, i5, n2, i6, k0, k1, k2, hn2, hzz1, hzz2⟩ := HCL.out i hi
    rw [hia] at hn2 k0
    obtain ⟨IT, hIT⟩ : ∃ z, a.c.term = z := ⟨_, rfl⟩
    rw [hIT] at k0
    have HI3 := Lib.hid (And.intro k0 (And.intro k1 k2))
    have HN2 := Lib.hid hn2
    have HIA := Lib.hid (show ∃ h : i < R.length, R[i] = a ∧ TT - 1 = Reg.first R + (i : Int) from ⟨hi, hia, hit⟩)
    have HLA := Lib.hid hla
    have hnc9 := HNC.out
    have HB64 := Lib.hid hlen64
    have HFP := Lib.hid hfp
    clear hIT hcur hzz1 hzz2 hla hi hiA hia hit hfp hlen64 hTMe k0 k1 k2 hn2 hlk
    go_wp2_with fail
    go_loopw [10] (fun x wx => ∃ (k : Nat) (wr : World), wr = wx ∧ k ≤ ch ∧ x = .int .i64 k ∧ Hid (Ext w3 wr ∧ ∀ jj (hj : jj < l.length), jj < k → Reg.misfit a.c l[jj] = false)) (fun x _ => ch - (intOf x).toNat)
    case atStart => exact ⟨0, _, rfl, by omega, rfl, Lib.hid ⟨HE7.out, fun jj hj h => absurd h (by omega)⟩⟩
    case round =>
      obtain ⟨k, wr, hwr, hk, rfl, hI⟩ := hrel
      subst hwr
      clear z0 z1 z2 z3 z4 z5 z6 z7 z8
      obtain ⟨z0, z1, z2, z3, z4, z5, z6, z7, z8⟩ := HCE.out wr hI.out.1
      by_cases hlt : k < ch
      · have hkl : k < l.length := by rw [HLN.out.2.1]; exact hlt
        obtain ⟨la', lc', e', _, _, _, hc⟩ := HARG.out.2.2.below (HE0.out.trans (HE3.out.trans hI.out.1))
        obtain ⟨eb, eo, rfl, et, p0, p1, p2, p3, p4, p5, hti⟩ := hc k hkl
        injection e' with e1' e2' e3'
        subst e1'
        obtain ⟨ca, cc, rfl, hzc⟩ := hti.open
        obtain ⟨KD, hKD⟩ : ∃ z, l[k].kind = z := ⟨_, rfl⟩
        obtain ⟨cn, hcn⟩ : ∃ z, l[k].cut.length = z := ⟨_, rfl⟩
        rw [hKD] at p1
        rw [hcn] at p2
        have HP := Lib.hid (And.intro p1 p2)
        have HMF := Lib.hid (show ∃ h : k < l.length, Reg.misfit a.c l[k] = (decide (KD = 1) && !decide (cn = n2)) from ⟨hkl, by unfold Reg.misfit; rw [hKD, hcn, HN2.out]⟩)
        clear hzc hc p0 p1 p2 p3 p4 p5 hti e2' e3' hKD hcn hkl
        by_cases hkd : KD = 1
        · subst hkd
          by_cases hcq : cn = n2
          · subst hcq
            go_upto_region 8 with fail
            refine wp_region_facts (by kernel_rfl) Ext (fun iop v w => match iop with
                | 0 => v = .slice (some ⟨eb, eo, none⟩) ch lcap
                | 1 => v = .int .i64 (k : Nat)
                | 2 => v = .pointer (some ⟨eb, eo + k * 6, none⟩)
                | 3 => v = .pointer (some ⟨eb, eo + k * 6 + 1, none⟩)
                | 4 => v = .int .i64 1
                | 5 => v = .bool true
                | 6 => v = .bool true
                | 7 => v = .slice (some ⟨eb, eo, none⟩) ch lcap
                | 8 => v = .int .i64 (k : Nat)
                | 9 => v = .pointer (some ⟨eb, eo + k * 6, none⟩)
                | 10 => v = .pointer (some ⟨eb, eo + k * 6 + 2, none⟩)
                | 11 => v = .slice ca cn cc
                | 12 => v = .int .i64 (cn : Nat)
                | 13 => v = .pointer (some ⟨q, 0, none⟩)
                | 14 => v = .slice (some ⟨g, 0, none⟩) n lc
                | 15 => v = .int .i64 (i : Nat)
                | 16 => v = .pointer (some ⟨g, i * 3, none⟩)
                | 17 => v = .pointer (some ⟨g, i * 3 + 2, none⟩)
                | 18 => v = .slice i5 cn i6
                | 19 => v = .int .i64 (cn : Nat)
                | 20 => v = .bool false
                | _ => v = .bool false
                ) (by kernel_rfl) (fun _ _ _ h k => Ext.trans h k) (fun a => Ext.refl a) (Ext.drew _) ?_ ?_ ?_
            · intro iop v wa wb hF hL
              iterate 21 (rcases iop with _ | iop; exact hF)
              exact hF
            · refine Obls.cons ?_ (Obls.cons ?_ (Obls.cons ?_ (Obls.cons ?_ (Obls.cons ?_ (Obls.cons ?_ (Obls.cons ?_ (Obls.cons ?_ (Obls.cons ?_ (Obls.cons ?_ (Obls.cons ?_ (Obls.cons ?_ (Obls.cons ?_ (Obls.cons ?_ (Obls.cons ?_ (Obls.cons ?_ (Obls.cons ?_ (Obls.cons ?_ (Obls.cons ?_ (Obls.cons ?_ (Obls.cons ?_ (Obls.cons ?_ (Obls.nil))))))))))))))))))))))
              · intro ev wy hp hl hk hd
                have e2 : ev _ = .slice (some ⟨eb, eo, none⟩) ch lcap := hk 2 (by decide)
                exact Yield.mv rfl ⟨Ext.refl _, e2⟩
              · intro ev wy hp hl hk hd
                have e10 : ev _ = .int .i64 (k : Nat) := hk 10 (by decide)
                exact Yield.mv rfl ⟨Ext.refl _, e10⟩
              · intro ev wy hp hl hk hd
                have e43 : ev _ = _ := hk 43 (by decide)
                have e44 : ev _ = _ := hk 44 (by decide)
                exact Yield.op (v := .pointer (some ⟨eb, eo + k * 6, none⟩)) (w' := wy) (by simp [execOp, go_sem, e43, e44]; omega) ⟨Ext.refl _, rfl⟩
              · intro ev wy hp hl hk hd
                have e45 : ev _ = _ := hk 45 (by decide)
                exact Yield.oq (by simp [execOp, go_sem, e45])
              · intro ev wy hp hl hk hd
                have e46 : ev _ = _ := hk 46 (by decide)
                exact Yield.op (v := .int .i64 1) (w' := wy) (by simp [execOp, go_sem, e46, cellExt hl HP.out.1]) ⟨Ext.refl _, rfl⟩
              · intro ev wy hp hl hk hd
                have e47 : ev _ = _ := hk 47 (by decide)
                exact Yield.op (v := .bool true) (w' := wy) (by simp [execOp, go_sem, e47, hp.const]; try exact hkd) ⟨Ext.refl _, rfl⟩
              · intro ev wy hp hl hk hd
                have e48 : ev _ = _ := hk 48 (by decide)
                exact Yield.mv rfl ⟨Ext.refl _, e48⟩
              · intro ev wy hp hl hk hd
                have e2 : ev _ = .slice (some ⟨eb, eo, none⟩) ch lcap := hk 2 (by decide)
                refine ⟨fun _ _ _ => ?_, fun _ hx hne => absurd hx hne⟩
                exact Yield.mv rfl ⟨Ext.refl _, e2⟩
              · intro ev wy hp hl hk hd
                have e10 : ev _ = .int .i64 (k : Nat) := hk 10 (by decide)
                refine ⟨fun _ _ _ => ?_, fun _ hx hne => absurd hx hne⟩
                exact Yield.mv rfl ⟨Ext.refl _, e10⟩
              · intro ev wy hp hl hk hd
                have e50 : ev _ = _ := hk 50 (by decide)
                have e51 : ev _ = _ := hk 51 (by decide)
                refine ⟨fun _ _ _ => ?_, fun _ hx hne => absurd hx hne⟩
                exact Yield.op (v := .pointer (some ⟨eb, eo + k * 6, none⟩)) (w' := wy) (by simp [execOp, go_sem, e50, e51]; omega) ⟨Ext.refl _, rfl⟩
              · intro ev wy hp hl hk hd
                have e52 : ev _ = _ := hk 52 (by decide)
                refine ⟨fun _ _ _ => ?_, fun _ hx hne => absurd hx hne⟩
                exact Yield.op (v := .pointer (some ⟨eb, eo + k * 6 + 2, none⟩)) (w' := wy) (by simp [execOp, go_sem, e52]) ⟨Ext.refl _, rfl⟩
              · intro ev wy hp hl hk hd
                have e53 : ev _ = _ := hk 53 (by decide)
                refine ⟨fun _ _ _ => ?_, fun _ hx hne => absurd hx hne⟩
                exact Yield.op (v := .slice ca cn cc) (w' := wy) (by simp [execOp, go_sem, e53, cellExt hl HP.out.2]) ⟨Ext.refl _, rfl⟩
              · intro ev wy hp hl hk hd
                have e54 : ev _ = _ := hk 54 (by decide)
                refine ⟨fun _ _ _ => ?_, fun _ hx hne => absurd hx hne⟩
                exact Yield.op (v := .int .i64 (cn : Nat)) (w' := wy) (by simp [execOp, go_sem, e54]) ⟨Ext.refl _, rfl⟩
              · intro ev wy hp hl hk hd
                have e3 : ev _ = .pointer (some ⟨q, 0, none⟩) := hk 3 (by decide)
                refine ⟨fun _ _ _ => ?_, fun _ hx hne => absurd hx hne⟩
                exact Yield.op (v := .pointer (some ⟨q, 0, none⟩)) (w' := wy) (by simp [execOp, go_sem, e3]) ⟨Ext.refl _, rfl⟩
              · intro ev wy hp hl hk hd
                have e56 : ev _ = _ := hk 56 (by decide)
                refine ⟨fun _ _ _ => ?_, fun _ hx hne => absurd hx hne⟩
                exact Yield.op (v := .slice (some ⟨g, 0, none⟩) n lc) (w' := wy) (by simp [execOp, go_sem, e56, (HCE.out wy (hI.out.1.trans hl)).1]) ⟨Ext.refl _, rfl⟩
              · intro ev wy hp hl hk hd
                have e8 : ev _ = .int .i64 (i : Nat) := hk 8 (by decide)
                refine ⟨fun _ _ _ => ?_, fun _ hx hne => absurd hx hne⟩
                exact Yield.mv rfl ⟨Ext.refl _, e8⟩
              · intro ev wy hp hl hk hd
                have e57 : ev _ = _ := hk 57 (by decide)
                have e58 : ev _ = _ := hk 58 (by decide)
                refine ⟨fun _ _ _ => ?_, fun _ hx hne => absurd hx hne⟩
                exact Yield.op (v := .pointer (some ⟨g, i * 3, none⟩)) (w' := wy) (by simp [execOp, go_sem, e57, e58]; omega) ⟨Ext.refl _, rfl⟩
              · intro ev wy hp hl hk hd
                have e59 : ev _ = _ := hk 59 (by decide)
                refine ⟨fun _ _ _ => ?_, fun _ hx hne => absurd hx hne⟩
                exact Yield.op (v := .pointer (some ⟨g, i * 3 + 2, none⟩)) (w' := wy) (by simp [execOp, go_sem, e59]) ⟨Ext.refl _, rfl⟩
              · intro ev wy hp hl hk hd
                have e60 : ev _ = _ := hk 60 (by decide)
                refine ⟨fun _ _ _ => ?_, fun _ hx hne => absurd hx hne⟩
                exact Yield.op (v := .slice i5 cn i6) (w' := wy) (by simp [execOp, go_sem, e60, cellExt ((HE3.out.trans hI.out.1).trans hl) HI3.out.2.2]) ⟨Ext.refl _, rfl⟩
              · intro ev wy hp hl hk hd
                have e61 : ev _ = _ := hk 61 (by decide)
                refine ⟨fun _ _ _ => ?_, fun _ hx hne => absurd hx hne⟩
                exact Yield.op (v := .int .i64 (cn : Nat)) (w' := wy) (by simp [execOp, go_sem, e61]) ⟨Ext.refl _, rfl⟩
              · intro ev wy hp hl hk hd
                have e55 : ev _ = _ := hk 55 (by decide)
                have e62 : ev _ = _ := hk 62 (by decide)
                refine ⟨fun _ _ _ => ?_, fun _ hx hne => absurd hx hne⟩
                exact Yield.op (v := .bool false) (w' := wy) (by simp [execOp, go_sem, e55, e62]; try omega) ⟨Ext.refl _, rfl⟩
              · intro ev wy hp hl hk hd
                have e49 : ev _ = _ := hk 49 (by decide)
                have e63 : ev _ = _ := hk 63 (by decide)
                exact Yield.pick (t := true) rfl e49 ⟨Ext.refl _, e63⟩
            · intro vals wz hz hv
              have g43 : vals 0 = _ := hv 0 (by decide)
              have g44 : vals 1 = _ := hv 1 (by decide)
              have g45 : vals 2 = _ := hv 2 (by decide)
              have g46 : vals 3 = _ := hv 3 (by decide)
              have g47 : vals 4 = _ := hv 4 (by decide)
              have g48 : vals 5 = _ := hv 5 (by decide)
              have g49 : vals 6 = _ := hv 6 (by decide)
              have g50 : vals 7 = _ := hv 7 (by decide)
              have g51 : vals 8 = _ := hv 8 (by decide)
              have g52 : vals 9 = _ := hv 9 (by decide)
              have g53 : vals 10 = _ := hv 10 (by decide)
              have g54 : vals 11 = _ := hv 11 (by decide)
              have g55 : vals 12 = _ := hv 12 (by decide)
              have g56 : vals 13 = _ := hv 13 (by decide)
              have g57 : vals 14 = _ := hv 14 (by decide)
              have g58 : vals 15 = _ := hv 15 (by decide)
              have g59 : vals 16 = _ := hv 16 (by decide)
              have g60 : vals 17 = _ := hv 17 (by decide)
              have g61 : vals 18 = _ := hv 18 (by decide)
              have g62 : vals 19 = _ := hv 19 (by decide)
              have g63 : vals 20 = _ := hv 20 (by decide)
              have g64 : vals 21 = _ := hv 21 (by decide)
              clear hv
              simp only [putAll, Act.put, List.setIfInBounds_toArray, List.set_cons_zero, List.set_cons_succ, g43, g44, g45, g46, g47, g48, g49, g50, g51, g52, g53, g54, g55, g56, g57, g58, g59, g60, g61, g62, g63, g64]
              clear g43 g44 g45 g46 g47 g48 g49 g50 g51 g52 g53 g54 g55 g56 g57 g58 g59 g60 g61 g62 g63 g64
              have HZ := Lib.hid (hI.out.1.trans hz)
              clear hz
              go_wp2_with fail
              go_roundw
              case rel =>
                refine ⟨k + 1, _, rfl, by omega, by go_num, Lib.hid ⟨HZ.out, fun jj hj hjk => ?_⟩⟩
                rcases Nat.lt_or_ge jj k with h0 | h0
                · exact hI.out.2 jj hj h0
                · obtain rfl : jj = k := by omega
                  obtain ⟨_, hmf⟩ := HMF.out
                  rw [hmf]
                  simp
                  try (intro hq; exact absurd hq hkd)
              case measure => simp [intOf]; omega
          · go_upto_region 8 with fail
            refine wp_region_facts (by kernel_rfl) Ext (fun iop v w => match iop with
                | 0 => v = .slice (some ⟨eb, eo, none⟩) ch lcap
                | 1 => v = .int .i64 (k : Nat)
                | 2 => v = .pointer (some ⟨eb, eo + k * 6, none⟩)
                | 3 => v = .pointer (some ⟨eb, eo + k * 6 + 1, none⟩)
                | 4 => v = .int .i64 1
                | 5 => v = .bool true
                | 6 => v = .bool true
                | 7 => v = .slice (some ⟨eb, eo, none⟩) ch lcap
                | 8 => v = .int .i64 (k : Nat)
                | 9 => v = .pointer (some ⟨eb, eo + k * 6, none⟩)
                | 10 => v = .pointer (some ⟨eb, eo + k * 6 + 2, none⟩)
                | 11 => v = .slice ca cn cc
                | 12 => v = .int .i64 (cn : Nat)
                | 13 => v = .pointer (some ⟨q, 0, none⟩)
                | 14 => v = .slice (some ⟨g, 0, none⟩) n lc
                | 15 => v = .int .i64 (i : Nat)
                | 16 => v = .pointer (some ⟨g, i * 3, none⟩)
                | 17 => v = .pointer (some ⟨g, i * 3 + 2, none⟩)
                | 18 => v = .slice i5 n2 i6
                | 19 => v = .int .i64 (n2 : Nat)
                | 20 => v = .bool true
                | _ => v = .bool true
                ) (by kernel_rfl) (fun _ _ _ h k => Ext.trans h k) (fun a => Ext.refl a) (Ext.drew _) ?_ ?_ ?_
            · intro iop v wa wb hF hL
              iterate 21 (rcases iop with _ | iop; exact hF)
              exact hF
            · refine Obls.cons ?_ (Obls.cons ?_ (Obls.cons ?_ (Obls.cons ?_ (Obls.cons ?_ (Obls.cons ?_ (Obls.cons ?_ (Obls.cons ?_ (Obls.cons ?_ (Obls.cons ?_ (Obls.cons ?_ (Obls.cons ?_ (Obls.cons ?_ (Obls.cons ?_ (Obls.cons ?_ (Obls.cons ?_ (Obls.cons ?_ (Obls.cons ?_ (Obls.cons ?_ (Obls.cons ?_ (Obls.cons ?_ (Obls.cons ?_ (Obls.nil))))))))))))))))))))))
              · intro ev wy hp hl hk hd
                have e2 : ev _ = .slice (some ⟨eb, eo, none⟩) ch lcap := hk 2 (by decide)
                exact Yield.mv rfl ⟨Ext.refl _, e2⟩
              · intro ev wy hp hl hk hd
                have e10 : ev _ = .int .i64 (k : Nat) := hk 10 (by decide)
                exact Yield.mv rfl ⟨Ext.refl _, e10⟩
              · intro ev wy hp hl hk hd
                have e43 : ev _ = _ := hk 43 (by decide)
                have e44 : ev _ = _ := hk 44 (by decide)
                exact Yield.op (v := .pointer (some ⟨eb, eo + k * 6, none⟩)) (w' := wy) (by simp [execOp, go_sem, e43, e44]; omega) ⟨Ext.refl _, rfl⟩
              · intro ev wy hp hl hk hd
                have e45 : ev _ = _ := hk 45 (by decide)
                exact Yield.oq (by simp [execOp, go_sem, e45])
              · intro ev wy hp hl hk hd
                have e46 : ev _ = _ := hk 46 (by decide)
                exact Yield.op (v := .int .i64 1) (w' := wy) (by simp [execOp, go_sem, e46, cellExt hl HP.out.1]) ⟨Ext.refl _, rfl⟩
              · intro ev wy hp hl hk hd
                have e47 : ev _ = _ := hk 47 (by decide)
                exact Yield.op (v := .bool true) (w' := wy) (by simp [execOp, go_sem, e47, hp.const]; try exact hkd) ⟨Ext.refl _, rfl⟩
              · intro ev wy hp hl hk hd
                have e48 : ev _ = _ := hk 48 (by decide)
                exact Yield.mv rfl ⟨Ext.refl _, e48⟩
              · intro ev wy hp hl hk hd
                have e2 : ev _ = .slice (some ⟨eb, eo, none⟩) ch lcap := hk 2 (by decide)
                refine ⟨fun _ _ _ => ?_, fun _ hx hne => absurd hx hne⟩
                exact Yield.mv rfl ⟨Ext.refl _, e2⟩
              · intro ev wy hp hl hk hd
                have e10 : ev _ = .int .i64 (k : Nat) := hk 10 (by decide)
                refine ⟨fun _ _ _ => ?_, fun _ hx hne => absurd hx hne⟩
                exact Yield.mv rfl ⟨Ext.refl _, e10⟩
              · intro ev wy hp hl hk hd
                have e50 : ev _ = _ := hk 50 (by decide)
                have e51 : ev _ = _ := hk 51 (by decide)
                refine ⟨fun _ _ _ => ?_, fun _ hx hne => absurd hx hne⟩
                exact Yield.op (v := .pointer (some ⟨eb, eo + k * 6, none⟩)) (w' := wy) (by simp [execOp, go_sem, e50, e51]; omega) ⟨Ext.refl _, rfl⟩
              · intro ev wy hp hl hk hd
                have e52 : ev _ = _ := hk 52 (by decide)
                refine ⟨fun _ _ _ => ?_, fun _ hx hne => absurd hx hne⟩
                exact Yield.op (v := .pointer (some ⟨eb, eo + k * 6 + 2, none⟩)) (w' := wy) (by simp [execOp, go_sem, e52]) ⟨Ext.refl _, rfl⟩
              · intro ev wy hp hl hk hd
                have e53 : ev _ = _ := hk 53 (by decide)
                refine ⟨fun _ _ _ => ?_, fun _ hx hne => absurd hx hne⟩
                exact Yield.op (v := .slice ca cn cc) (w' := wy) (by simp [execOp, go_sem, e53, cellExt hl HP.out.2]) ⟨Ext.refl _, rfl⟩
              · intro ev wy hp hl hk hd
                have e54 : ev _ = _ := hk 54 (by decide)
                refine ⟨fun _ _ _ => ?_, fun _ hx hne => absurd hx hne⟩
                exact Yield.op (v := .int .i64 (cn : Nat)) (w' := wy) (by simp [execOp, go_sem, e54]) ⟨Ext.refl _, rfl⟩
              · intro ev wy hp hl hk hd
                have e3 : ev _ = .pointer (some ⟨q, 0, none⟩) := hk 3 (by decide)
                refine ⟨fun _ _ _ => ?_, fun _ hx hne => absurd hx hne⟩
                exact Yield.op (v := .pointer (some ⟨q, 0, none⟩)) (w' := wy) (by simp [execOp, go_sem, e3]) ⟨Ext.refl _, rfl⟩
              · intro ev wy hp hl hk hd
                have e56 : ev _ = _ := hk 56 (by decide)
                refine ⟨fun _ _ _ => ?_, fun _ hx hne => absurd hx hne⟩
                exact Yield.op (v := .slice (some ⟨g, 0, none⟩) n lc) (w' := wy) (by simp [execOp, go_sem, e56, (HCE.out wy (hI.out.1.trans hl)).1]) ⟨Ext.refl _, rfl⟩
              · intro ev wy hp hl hk hd
                have e8 : ev _ = .int .i64 (i : Nat) := hk 8 (by decide)
                refine ⟨fun _ _ _ => ?_, fun _ hx hne => absurd hx hne⟩
                exact Yield.mv rfl ⟨Ext.refl _, e8⟩
              · intro ev wy hp hl hk hd
                have e57 : ev _ = _ := hk 57 (by decide)
                have e58 : ev _ = _ := hk 58 (by decide)
                refine ⟨fun _ _ _ => ?_, fun _ hx hne => absurd hx hne⟩
                exact Yield.op (v := .pointer (some ⟨g, i * 3, none⟩)) (w' := wy) (by simp [execOp, go_sem, e57, e58]; omega) ⟨Ext.refl _, rfl⟩
              · intro ev wy hp hl hk hd
                have e59 : ev _ = _ := hk 59 (by decide)
                refine ⟨fun _ _ _ => ?_, fun _ hx hne => absurd hx hne⟩
                exact Yield.op (v := .pointer (some ⟨g, i * 3 + 2, none⟩)) (w' := wy) (by simp [execOp, go_sem, e59]) ⟨Ext.refl _, rfl⟩
              · intro ev wy hp hl hk hd
                have e60 : ev _ = _ := hk 60 (by decide)
                refine ⟨fun _ _ _ => ?_, fun _ hx hne => absurd hx hne⟩
                exact Yield.op (v := .slice i5 n2 i6) (w' := wy) (by simp [execOp, go_sem, e60, cellExt ((HE3.out.trans hI.out.1).trans hl) HI3.out.2.2]) ⟨Ext.refl _, rfl⟩
              · intro ev wy hp hl hk hd
                have e61 : ev _ = _ := hk 61 (by decide)
                refine ⟨fun _ _ _ => ?_, fun _ hx hne => absurd hx hne⟩
                exact Yield.op (v := .int .i64 (n2 : Nat)) (w' := wy) (by simp [execOp, go_sem, e61]) ⟨Ext.refl _, rfl⟩
              · intro ev wy hp hl hk hd
                have e55 : ev _ = _ := hk 55 (by decide)
                have e62 : ev _ = _ := hk 62 (by decide)
                refine ⟨fun _ _ _ => ?_, fun _ hx hne => absurd hx hne⟩
                exact Yield.op (v := .bool true) (w' := wy) (by simp [execOp, go_sem, e55, e62]; try omega) ⟨Ext.refl _, rfl⟩
              · intro ev wy hp hl hk hd
                have e49 : ev _ = _ := hk 49 (by decide)
                have e63 : ev _ = _ := hk 63 (by decide)
                exact Yield.pick (t := true) rfl e49 ⟨Ext.refl _, e63⟩
            · intro vals wz hz hv
              have g43 : vals 0 = _ := hv 0 (by decide)
              have g44 : vals 1 = _ := hv 1 (by decide)
              have g45 : vals 2 = _ := hv 2 (by decide)
              have g46 : vals 3 = _ := hv 3 (by decide)
              have g47 : vals 4 = _ := hv 4 (by decide)
              have g48 : vals 5 = _ := hv 5 (by decide)
              have g49 : vals 6 = _ := hv 6 (by decide)
              have g50 : vals 7 = _ := hv 7 (by decide)
              have g51 : vals 8 = _ := hv 8 (by decide)
              have g52 : vals 9 = _ := hv 9 (by decide)
              have g53 : vals 10 = _ := hv 10 (by decide)
              have g54 : vals 11 = _ := hv 11 (by decide)
              have g55 : vals 12 = _ := hv 12 (by decide)
              have g56 : vals 13 = _ := hv 13 (by decide)
              have g57 : vals 14 = _ := hv 14 (by decide)
              have g58 : vals 15 = _ := hv 15 (by decide)
              have g59 : vals 16 = _ := hv 16 (by decide)
              have g60 : vals 17 = _ := hv 17 (by decide)
              have g61 : vals 18 = _ := hv 18 (by decide)
              have g62 : vals 19 = _ := hv 19 (by decide)
              have g63 : vals 20 = _ := hv 20 (by decide)
              have g64 : vals 21 = _ := hv 21 (by decide)
              clear hv
              simp only [putAll, Act.put, List.setIfInBounds_toArray, List.set_cons_zero, List.set_cons_succ, g43, g44, g45, g46, g47, g48, g49, g50, g51, g52, g53, g54, g55, g56, g57, g58, g59, g60, g61, g62, g63, g64]
              clear g43 g44 g45 g46 g47 g48 g49 g50 g51 g52 g53 g54 g55 g56 g57 g58 g59 g60 g61 g62 g63 g64
              have HZ := Lib.hid (hI.out.1.trans hz)
              clear z0 z1 z2 z3 z4 z5 z6 z7 z8
              obtain ⟨z0, z1, z2, z3, z4, z5, z6, z7, z8⟩ := HCE.out wz HZ.out
              clear hz
              go_wp2_with fail
              obtain ⟨m0, m1⟩ := HRES.out wz HZ.out
              refine bodyPost_ret (v := .tuple #[.agg #[.slice (some ⟨g, 0, none⟩) n lc, .slice ta m tc], .int .i64 1]) (by simp [results, Try.results11, go_sem, m0, m1]) rfl ?_
              exact HEND.out 1 wz HZ.out (Reg.Inst.bad fun hg => by
                obtain ⟨hkl, hmf⟩ := HMF.out
                have := hg.2.2 a (by rw [HLN.out.2.2]; exact HLA.out) _ (List.getElem_mem hkl)
                rw [hmf] at this
                simp [hcq] at this)
        · have hkd' : (KD == 1) = false := by simpa using hkd
          go_upto_region 8 with fail
          refine wp_region_facts (by kernel_rfl) Ext (fun iop v w => match iop with
              | 0 => v = .slice (some ⟨eb, eo, none⟩) ch lcap
              | 1 => v = .int .i64 (k : Nat)
              | 2 => v = .pointer (some ⟨eb, eo + k * 6, none⟩)
              | 3 => v = .pointer (some ⟨eb, eo + k * 6 + 1, none⟩)
              | 4 => v = .int .i64 KD
              | 5 => v = .bool false
              | 6 => v = .bool false
              | 7 => v = undef
              | 8 => v = undef
              | 9 => v = undef
              | 10 => v = undef
              | 11 => v = undef
              | 12 => v = undef
              | 13 => v = undef
              | 14 => v = undef
              | 15 => v = undef
              | 16 => v = undef
              | 17 => v = undef
              | 18 => v = undef
              | 19 => v = undef
              | 20 => v = undef
              | _ => v = .bool false
              ) (by kernel_rfl) (fun _ _ _ h k => Ext.trans h k) (fun a => Ext.refl a) (Ext.drew _) ?_ ?_ ?_
          · intro iop v wa wb hF hL
            iterate 21 (rcases iop with _ | iop; exact hF)
            exact hF
          · refine Obls.cons ?_ (Obls.cons ?_ (Obls.cons ?_ (Obls.cons ?_ (Obls.cons ?_ (Obls.cons ?_ (Obls.cons ?_ (Obls.cons ?_ (Obls.cons ?_ (Obls.cons ?_ (Obls.cons ?_ (Obls.cons ?_ (Obls.cons ?_ (Obls.cons ?_ (Obls.cons ?_ (Obls.cons ?_ (Obls.cons ?_ (Obls.cons ?_ (Obls.cons ?_ (Obls.cons ?_ (Obls.cons ?_ (Obls.cons ?_ (Obls.nil))))))))))))))))))))))
            · intro ev wy hp hl hk hd
              have e2 : ev _ = .slice (some ⟨eb, eo, none⟩) ch lcap := hk 2 (by decide)
              exact Yield.mv rfl ⟨Ext.refl _, e2⟩
            · intro ev wy hp hl hk hd
              have e10 : ev _ = .int .i64 (k : Nat) := hk 10 (by decide)
              exact Yield.mv rfl ⟨Ext.refl _, e10⟩
            · intro ev wy hp hl hk hd
              have e43 : ev _ = _ := hk 43 (by decide)
              have e44 : ev _ = _ := hk 44 (by decide)
              exact Yield.op (v := .pointer (some ⟨eb, eo + k * 6, none⟩)) (w' := wy) (by simp [execOp, go_sem, e43, e44]; omega) ⟨Ext.refl _, rfl⟩
            · intro ev wy hp hl hk hd
              have e45 : ev _ = _ := hk 45 (by decide)
              exact Yield.oq (by simp [execOp, go_sem, e45])
            · intro ev wy hp hl hk hd
              have e46 : ev _ = _ := hk 46 (by decide)
              exact Yield.op (v := .int .i64 KD) (w' := wy) (by simp [execOp, go_sem, e46, cellExt hl HP.out.1]) ⟨Ext.refl _, rfl⟩
            · intro ev wy hp hl hk hd
              have e47 : ev _ = _ := hk 47 (by decide)
              exact Yield.op (v := .bool false) (w' := wy) (by simp [execOp, go_sem, e47, hp.const]; try exact hkd) ⟨Ext.refl _, rfl⟩
            · intro ev wy hp hl hk hd
              have e48 : ev _ = _ := hk 48 (by decide)
              exact Yield.mv rfl ⟨Ext.refl _, e48⟩
            · intro ev wy hp hl hk hd
              have e2 : ev _ = .slice (some ⟨eb, eo, none⟩) ch lcap := hk 2 (by decide)
              exact ⟨fun x hx he => (by rw [show x = .bool false from hx] at he; cases he), fun _ _ _ => rfl⟩
            · intro ev wy hp hl hk hd
              have e10 : ev _ = .int .i64 (k : Nat) := hk 10 (by decide)
              exact ⟨fun x hx he => (by rw [show x = .bool false from hx] at he; cases he), fun _ _ _ => rfl⟩
            · intro ev wy hp hl hk hd
              have e50 : ev _ = _ := hk 50 (by decide)
              have e51 : ev _ = _ := hk 51 (by decide)
              exact ⟨fun x hx he => (by rw [show x = .bool false from hx] at he; cases he), fun _ _ _ => rfl⟩
            · intro ev wy hp hl hk hd
              have e52 : ev _ = _ := hk 52 (by decide)
              exact ⟨fun x hx he => (by rw [show x = .bool false from hx] at he; cases he), fun _ _ _ => rfl⟩
            · intro ev wy hp hl hk hd
              have e53 : ev _ = _ := hk 53 (by decide)
              exact ⟨fun x hx he => (by rw [show x = .bool false from hx] at he; cases he), fun _ _ _ => rfl⟩
            · intro ev wy hp hl hk hd
              have e54 : ev _ = _ := hk 54 (by decide)
              exact ⟨fun x hx he => (by rw [show x = .bool false from hx] at he; cases he), fun _ _ _ => rfl⟩
            · intro ev wy hp hl hk hd
              have e3 : ev _ = .pointer (some ⟨q, 0, none⟩) := hk 3 (by decide)
              exact ⟨fun x hx he => (by rw [show x = .bool false from hx] at he; cases he), fun _ _ _ => rfl⟩
            · intro ev wy hp hl hk hd
              have e56 : ev _ = _ := hk 56 (by decide)
              exact ⟨fun x hx he => (by rw [show x = .bool false from hx] at he; cases he), fun _ _ _ => rfl⟩
            · intro ev wy hp hl hk hd
              have e8 : ev _ = .int .i64 (i : Nat) := hk 8 (by decide)
              exact ⟨fun x hx he => (by rw [show x = .bool false from hx] at he; cases he), fun _ _ _ => rfl⟩
            · intro ev wy hp hl hk hd
              have e57 : ev _ = _ := hk 57 (by decide)
              have e58 : ev _ = _ := hk 58 (by decide)
              exact ⟨fun x hx he => (by rw [show x = .bool false from hx] at he; cases he), fun _ _ _ => rfl⟩
            · intro ev wy hp hl hk hd
              have e59 : ev _ = _ := hk 59 (by decide)
              exact ⟨fun x hx he => (by rw [show x = .bool false from hx] at he; cases he), fun _ _ _ => rfl⟩
            · intro ev wy hp hl hk hd
              have e60 : ev _ = _ := hk 60 (by decide)
              exact ⟨fun x hx he => (by rw [show x = .bool false from hx] at he; cases he), fun _ _ _ => rfl⟩
            · intro ev wy hp hl hk hd
              have e61 : ev _ = _ := hk 61 (by decide)
              exact ⟨fun x hx he => (by rw [show x = .bool false from hx] at he; cases he), fun _ _ _ => rfl⟩
            · intro ev wy hp hl hk hd
              have e55 : ev _ = _ := hk 55 (by decide)
              have e62 : ev _ = _ := hk 62 (by decide)
              exact ⟨fun x hx he => (by rw [show x = .bool false from hx] at he; cases he), fun _ _ _ => rfl⟩
            · intro ev wy hp hl hk hd
              have e49 : ev _ = _ := hk 49 (by decide)
              have e63 : ev _ = _ := hk 63 (by decide)
              exact Yield.pick (t := false) rfl e49 ⟨Ext.refl _, hp.const _⟩
          · intro vals wz hz hv
            have g43 : vals 0 = _ := hv 0 (by decide)
            have g44 : vals 1 = _ := hv 1 (by decide)
            have g45 : vals 2 = _ := hv 2 (by decide)
            have g46 : vals 3 = _ := hv 3 (by decide)
            have g47 : vals 4 = _ := hv 4 (by decide)
            have g48 : vals 5 = _ := hv 5 (by decide)
            have g49 : vals 6 = _ := hv 6 (by decide)
            have g50 : vals 7 = _ := hv 7 (by decide)
            have g51 : vals 8 = _ := hv 8 (by decide)
            have g52 : vals 9 = _ := hv 9 (by decide)
            have g53 : vals 10 = _ := hv 10 (by decide)
            have g54 : vals 11 = _ := hv 11 (by decide)
            have g55 : vals 12 = _ := hv 12 (by decide)
            have g56 : vals 13 = _ := hv 13 (by decide)
            have g57 : vals 14 = _ := hv 14 (by decide)
            have g58 : vals 15 = _ := hv 15 (by decide)
            have g59 : vals 16 = _ := hv 16 (by decide)
            have g60 : vals 17 = _ := hv 17 (by decide)
            have g61 : vals 18 = _ := hv 18 (by decide)
            have g62 : vals 19 = _ := hv 19 (by decide)
            have g63 : vals 20 = _ := hv 20 (by decide)
            have g64 : vals 21 = _ := hv 21 (by decide)
            clear hv
            simp only [putAll, Act.put, List.setIfInBounds_toArray, List.set_cons_zero, List.set_cons_succ, g43, g44, g45, g46, g47, g48, g49, g50, g51, g52, g53, g54, g55, g56, g57, g58, g59, g60, g61, g62, g63, g64]
            clear g43 g44 g45 g46 g47 g48 g49 g50 g51 g52 g53 g54 g55 g56 g57 g58 g59 g60 g61 g62 g63 g64
            have HZ := Lib.hid (hI.out.1.trans hz)
            clear hz
            go_wp2_with fail
            go_roundw
            case rel =>
              refine ⟨k + 1, _, rfl, by omega, by go_num, Lib.hid ⟨HZ.out, fun jj hj hjk => ?_⟩⟩
              rcases Nat.lt_or_ge jj k with h0 | h0
              · exact hI.out.2 jj hj h0
              · obtain rfl : jj = k := by omega
                obtain ⟨_, hmf⟩ := HMF.out
                rw [hmf]
                simp
                try (intro hq; exact absurd hq hkd)
            case measure => simp [intOf]; omega
      · obtain rfl : k = ch := by omega
        have hgood : Reg.good R c l := ⟨HBR.out, by rw [HLN.out.2.1]; exact HCH.out, fun b hb e he => by
          rw [HLN.out.2.2, HLA.out] at hb
          injection hb with hb
          subst hb
          obtain ⟨jj, hj, rfl⟩ := List.getElem_of_mem he
          exact hI.out.2 jj hj (by rw [HLN.out.2.1] at hj; exact hj)⟩
        have HG := Lib.hid hgood
        clear hgood
        cases hlx : Reg.look R TT with
        | none =>
          have hK : K9 = -1 := by rw [← HK9.out]; exact Reg.at_none hlx HK.out
          subst hK
          have HLX := Lib.hid hlx
          clear hlx
          go_upto_region 16 with fail
          obtain ⟨⟨L, h1, h2, h3⟩, T, h4, h5, h6⟩ := HH.out
          have hLn : L.length = n := by have := congrArg List.length h1; have h := HN.out.1; simp at this; omega
          have hTm : T.length = m := by have := congrArg List.length h4; have h := HN.out.2; simp at this; omega
          obtain ⟨hnx, pre, hR, hwx⟩ := Reg.next_at HK.out HLA.out HLX.out
          clear hnx hwx
          have HIN := Lib.hid (Reg.Inst.next (R := R) (c := c) (l := l) HG.out (by rw [HLN.out.2.2]; exact HLX.out) pre a hR (by rw [HLN.out.2.2]; exact HLA.out))
          have hEr : Ext w wr := HE3.out.trans hI.out.1
          have hone1 := flatC14_one h3
          have hone2 : ∀ y ∈ T.map (·.1), y.oneCell' = true := by
            intro y hy
            obtain ⟨r, hr, rfl⟩ := List.mem_map.1 hy
            obtain ⟨a1, c1, e1, _⟩ := (h6 r hr).shape
            rw [e1]
            rfl
          have HLR := Lib.hid (rowExt h2 hEr)
          have HTR := Lib.hid (rowExt h5 hEr)
          have HRF := Lib.hid (And.intro h1 (And.intro h3 (And.intro h4 (And.intro h6 hR))))
          have HEr := Lib.hid hEr
          have HLT := Lib.hid (And.intro hLn hTm)
          have hn64 : n ≤ 64 := by have := HB64.out; have := HN.out.1; omega
          have hm64 : m ≤ 64 := by have := HB64.out; have := HN.out.2; omega
          have hown0 : (wr.alloc (.cells #[] 25)).ownsRow wr.heap.size 25 3 (.slice (some ⟨wr.heap.size, 0, none⟩) 0 0) 0 [] := World.ownsRow_made wr #[] 0 (Nat.le_refl _) (by simp [maxLen]) (by simp)
          have hsl := (SlN.ofOwn HLR.out).below (Ext.alloc wr (.cells #[] 25))
          have q1 : 0 + L.length ≤ maxLen := by unfold maxLen; omega
          have q2 : (0 + L.length) * 56 ≤ 140737488355328 := by omega
          have HQQ := Lib.hid (And.intro hn64 hm64)
          clear h1 h2 h3 h4 h5 h6 hR hEr hLn hTm hn64 hm64
          clear z0 z1 z2 z3 z4 z5 z6 z7 z8
          obtain ⟨z0, z1, z2, z3, z4, z5, z6, z7, z8⟩ := HCE.out (wr.alloc (.cells #[] 25)) (hI.out.1.trans (Ext.alloc _ _))
          go_upto_region 17 with (at_builtin; refine wpList_appN rfl (.tmp 95) (.tmp 97) tC14 rfl rfl rfl hown0 hsl hone1 q1 q2 (by simp) ?_; intro v9 w9 hown9 hg9)
          obtain ⟨a9, n9, c9, rfl⟩ := ownSlice hown9
          have hE9 : Ext wr w9 := ((Below.refl _ wr).alloc (Nat.le_refl _) _).grown hg9 (by simp) (fun k hk => (hown0.lt k hk).1)
          have HO9 := Lib.hid (show w9.ownsRow wr.heap.size 25 3 (.slice a9 n9 c9) L.length (flatC14 L) by simpa using hown9)
          have HE9 := Lib.hid hE9
          have HTR9 := Lib.hid (rowExt HTR.out hE9)
          clear z0 z1 z2 z3 z4 z5 z6 z7 z8 hown0 hsl q1 q2 hone1 hown9 hg9 hE9
          obtain ⟨z0, z1, z2, z3, z4, z5, z6, z7, z8⟩ := HCE.out (w9.alloc (.cells #[] 39)) (hI.out.1.trans (HE9.out.trans (Ext.alloc _ _)))
          have hown0 : (w9.alloc (.cells #[] 39)).ownsRow w9.heap.size 39 1 (.slice (some ⟨w9.heap.size, 0, none⟩) 0 0) 0 [] := World.ownsRow_made w9 #[] 0 (Nat.le_refl _) (by simp [maxLen]) (by simp)
          have hsl := (SlN.ofOwn HTR9.out).below (Ext.alloc w9 (.cells #[] 39))
          have q1 : 0 + T.length ≤ maxLen := by have := HQQ.out; have := HLT.out; unfold maxLen; omega
          have q2 : (0 + T.length) * 24 ≤ 140737488355328 := by have := HQQ.out; have := HLT.out; omega
          go_upto_region 18 with (at_builtin; refine wpList_appN rfl (.tmp 99) (.tmp 101) tT14 rfl rfl rfl hown0 hsl hone2 q1 q2 (by simp) ?_; intro v10 w10 hown10 hg10)
          obtain ⟨a10, n10, c10, rfl⟩ := ownSlice hown10
          have hE10 : Ext w9 w10 := ((Below.refl _ w9).alloc (Nat.le_refl _) _).grown hg10 (by simp) (fun k hk => (hown0.lt k hk).1)
          have HO10 := Lib.hid (show w10.ownsRow w9.heap.size 39 1 (.slice a10 n10 c10) T.length (T.map (·.1)) by simpa using hown10)
          have HE10 := Lib.hid (HE9.out.trans hE10)
          have HP10 := Lib.hid (rowExt HO9.out hE10)
          have hs910 := hE10.size
          clear z0 z1 z2 z3 z4 z5 z6 z7 z8 hown0 hsl q1 q2 hone2 hown10 hg10 hE10
          obtain ⟨z0, z1, z2, z3, z4, z5, z6, z7, z8⟩ := HCE.out w10 (hI.out.1.trans HE10.out)
          have hE11 := Ext.alloc w10 (.cells #[.int .i64 TT, .slice sa sn sc, .slice da nd dc] 25)
          have hown11 := rowExt HP10.out hE11
          have hsl11 := SlN.one14 w10 25 [.int .i64 TT, .slice sa sn sc, .slice da nd dc] (by simp)
          have hone11 : ∀ y ∈ [Value.int .i64 TT, .slice sa sn sc, .slice da nd dc], y.oneCell' = true := by intro y hy; simp only [List.mem_cons, List.not_mem_nil, or_false] at hy; rcases hy with rfl | rfl | rfl <;> rfl
          have q1 : L.length + 1 ≤ maxLen := by have := HQQ.out; have := HLT.out; unfold maxLen; omega
          have q2 : (L.length + 1) * 56 ≤ 140737488355328 := by have := HQQ.out; have := HLT.out; omega
          have q3 : wr.heap.size ≤ (w10.alloc (.cells #[.int .i64 TT, .slice sa sn sc, .slice da nd dc] 25)).heap.size := Nat.le_trans HE10.out.size hE11.size
          have HT11 := Lib.hid (rowExt HO10.out hE11)
          go_upto_region 19 with (at_builtin; refine wpList_appN rfl (.tmp 103) (.tmp 105) tC14 rfl rfl rfl hown11 hsl11 hone11 q1 q2 q3 ?_; intro v12 w12 hown12 hg12; obtain ⟨a12, n12, c12, rfl⟩ := ownSlice hown12; have hE12 : Ext wr w12 := Below.grown (HE10.out.trans hE11) hg12 (HE10.out.trans hE11).size (fun j hj => (hown11.lt j hj).1); clear z0 z1 z2 z3 z4 z5 z6 z7 z8; obtain ⟨z0, z1, z2, z3, z4, z5, z6, z7, z8⟩ := HCE.out w12 (hI.out.1.trans hE12); have f0 := z8 0)
          have hT12 := rowAside14 hown11 hg12 HT11.out (by decide)
          have HB12 := Lib.hid (heap_ext HB.out.1 (hI.out.1.trans hE12))
          have HC12 := Lib.hid (heap_ext HB.out.2.2 (hI.out.1.trans hE12))
          obtain ⟨w13, hw13⟩ : ∃ z, w12.setCell ⟨q, 0, none⟩ (.slice a12 n12 c12) = z := ⟨_, rfl⟩
          have hB13 : But q w12 w13 := by rw [← hw13]; exact (But.refl _ _).setCell 0 none _
          have hq13 : w13.heap[q]? = some (.cells #[.slice a12 n12 c12, .slice ta m tc] 38 (0, 0)) := by rw [← hw13]; exact heap_setCell HB12.out 0 _
          have hr13 := (hB13.block (q + 1 + 1) (Array.getElem?_eq_some_iff.1 HC12.out).1 (by omega)).trans HC12.out
          have hL13 := rowBut hown12 (rowBeside hown12 HB12.out (by decide)) hB13
          have hT13 := rowBut hT12 (rowBeside hT12 HB12.out (by decide)) hB13
          have hqw : w.heap.size = q := HQ.out.1
          have hs913 : w9.heap.size ≤ w13.heap.size := Nat.le_trans hs910 (Nat.le_trans hE11.size (Nat.le_trans hg12.size hB13.size))
          have hE13 : Ext w w13 := Below.trans (B := w.heap.size) (HEr.out.trans hE12) (hB13.below (by omega) (HEr.out.trans hE12).size)
          rw [hw13]
          have HW13 := Lib.hid (And.intro hw13 hqw)
          have HL13 := Lib.hid hL13
          have HT13 := Lib.hid hT13
          have HE13 := Lib.hid hE13
          have HB13 := Lib.hid (And.intro hq13 hr13)
          clear z0 z1 z2 z3 z4 z5 z6 z7 z8 f0 hE11 hown11 hsl11 hone11 q1 q2 q3 hown12 hg12 hE12 hT12 hw13 hB13 hq13 hr13 hL13 hT13 hqw hE13
          have hE14 := Ext.alloc w13 (.cells #[.slice la k lcap] 39)
          have hown14 := rowExt HT13.out hE14
          have hsl14 := SlN.one14 w13 39 [.slice la k lcap] (by simp)
          have hone14 : ∀ y ∈ [Value.slice la k lcap], y.oneCell' = true := by intro y hy; rw [List.mem_singleton.1 hy]; rfl
          have q1 : T.length + 1 ≤ maxLen := by have := HQQ.out; have := HLT.out; unfold maxLen; omega
          have q2 : (T.length + 1) * 24 ≤ 140737488355328 := by have := HQQ.out; have := HLT.out; omega
          have q3 : w9.heap.size ≤ (w13.alloc (.cells #[.slice la k lcap] 39)).heap.size := by
            rw [World.size_alloc]
            omega
          have HL14 := Lib.hid (rowExt HL13.out hE14)
          have HB14 := Lib.hid (And.intro (heap_ext HB13.out.1 hE14) (heap_ext HB13.out.2 hE14))
          go_upto_region 20 with (at_builtin; refine wpList_appN rfl (.tmp 108) (.tmp 110) tT14 rfl rfl rfl hown14 hsl14 hone14 q1 q2 q3 ?_; intro v15 w15 hown15 hg15; obtain ⟨a15, n15, c15, rfl⟩ := ownSlice hown15; have hq15 := (hg15.block q (Array.getElem?_eq_some_iff.1 HB14.out.1).1 (rowBeside hown14 HB14.out.1 (by decide))).trans HB14.out.1; have f1 : w15.cell? ⟨q, 1, none⟩ = some (.slice ta m tc) := cell_of_heap hq15 1; have f2 := frozen_of_heap hq15 1)
          have hr15 := (hg15.block (q + 1 + 1) (Array.getElem?_eq_some_iff.1 HB14.out.2).1 (rowBeside hown14 HB14.out.2 (by decide))).trans HB14.out.2
          obtain ⟨w16, hw16⟩ : ∃ z, w15.setCell ⟨q, 1, none⟩ (.slice a15 n15 c15) = z := ⟨_, rfl⟩
          have hB16 : But q w15 w16 := by rw [← hw16]; exact (But.refl _ _).setCell 1 none _
          have hq16 : w16.heap[q]? = some (.cells #[.slice a12 n12 c12, .slice a15 n15 c15] 38 (0, 0)) := by rw [← hw16]; exact heap_setCell hq15 1 _
          have hr16 := (hB16.block (q + 1 + 1) (Array.getElem?_eq_some_iff.1 hr15).1 (by omega)).trans hr15
          have hL15 := rowAside14 hown14 hg15 HL14.out (by decide)
          have HL16 := Lib.hid (rowBut hL15 (rowBeside hL15 hq15 (by decide)) hB16)
          have HT16 := Lib.hid (rowBut hown15 (rowBeside hown15 hq15 (by decide)) hB16)
          have hsw9 : w.heap.size ≤ w9.heap.size := Nat.le_trans HEr.out.size HE9.out.size
          have hE15 : Ext w w15 := Below.grown (HE13.out.trans hE14) hg15 (HE13.out.trans hE14).size (fun j hj => Nat.le_trans hsw9 (hown14.lt j hj).1)
          have hE16 : Ext w w16 := Below.trans (B := w.heap.size) hE15 (hB16.below (by have := HW13.out.2; omega) hE15.size)
          rw [hw16]
          have g0 : w16.cell? ⟨q, 0, none⟩ = some (.slice a12 n12 c12) := cell_of_heap hq16 0
          have g1 : w16.cell? ⟨q, 1, none⟩ = some (.slice a15 n15 c15) := cell_of_heap hq16 1
          have g2 : w16.cell? ⟨q + 1 + 1, 0, none⟩ = some (.slice none 0 0) := cell_of_heap hr16 0
          have g3 : w16.cell? ⟨q + 1 + 1, 1, none⟩ = some (.slice none 0 0) := cell_of_heap hr16 1
          have g4 := frozen_of_heap hr16 0
          have g5 := frozen_of_heap hr16 1
          have HR16 := Lib.hid hr16
          have HE16 := Lib.hid hE16
          clear hE14 hown14 hsl14 hone14 q1 q2 q3 hown15 hg15 hq15 f1 f2 hr15 hw16 hB16 hq16 hr16 hL15 hE15 hE16
          go_wp2_with fail
          have h17 := heap_setCell (heap_setCell HR16.out 0 (.slice a12 n12 c12)) 1 (.slice a15 n15 c15)
          obtain ⟨w17, hw17⟩ : ∃ z, (w16.setCell ⟨q + 1 + 1, 0, none⟩ (.slice a12 n12 c12)).setCell ⟨q + 1 + 1, 1, none⟩ (.slice a15 n15 c15) = z := ⟨_, rfl⟩
          have hB17 : But (q + 1 + 1) w16 w17 := by rw [← hw17]; exact ((But.refl _ _).setCell 0 none _).setCell 1 none _
          rw [hw17] at h17 ⊢
          have m0 : w17.cell? ⟨q + 1 + 1, 0, none⟩ = some (.slice a12 n12 c12) := cell_of_heap h17 0
          have m1 : w17.cell? ⟨q + 1 + 1, 1, none⟩ = some (.slice a15 n15 c15) := cell_of_heap h17 1
          refine bodyPost_ret (v := .tuple #[.agg #[.slice a12 n12 c12, .slice a15 n15 c15], .int .i64 0]) (by simp [results, Try.results11, go_sem, m0, m1]) rfl ?_
          have k1 := rowLower (rowBut HL16.out (rowBeside HL16.out HR16.out (by decide)) hB17) (Nat.zero_le _)
          have k2 := rowLower (rowBut HT16.out (rowBeside HT16.out HR16.out (by decide)) hB17) (Nat.zero_le _)
          obtain ⟨r1, r2, r3, r4, r5⟩ := HRF.out
          rw [r5] at r1 r3
          refine ⟨0, _, a12, n12, c12, a15, n15, c15, rfl, HIN.out, RefReg.next r1 r2 r3 r4 HARG.out.1 HARG.out.2.1 HARG.out.2.2 ?_ ?_ _, Below.trans (B := w.heap.size) HE16.out (hB17.below (by have := HW13.out.2; omega) HE16.out.size)⟩
          · rw [flatC14_append, show flatC14 [⟨.slice sa sn sc, .slice da nd dc, c⟩] = [.int .i64 TT, .slice sa sn sc, .slice da nd dc] by simp [flatC14, RC14.cells, HLN.out.2.2]]
            exact k1
          · exact k2
        | some x =>
          obtain ⟨j, hj, hK, hx, hxt⟩ := Reg.at_some hlx HK.out
          rw [HK9.out] at hK
          subst hK
          have hjn : j < n := by rw [← HN.out.1]; exact hj
          obtain ⟨j1, j2, j3, j4, j5, j6, k0, k1, k2, hj5, hji, hjr⟩ := HCL.out j hj
          have hij : i + 1 < R.length := by obtain ⟨_, _, h⟩ := HIA.out; omega
          have him : i < m := by have := HN.out; omega
          obtain ⟨gt, t1, t2, t3, hta, hcell, hten⟩ := HCT.out i hij
          subst hta
          have htl : R[i].tail = a.tail := by obtain ⟨h1, h2, _⟩ := HIA.out; rw [h2]
          rw [htl] at hten
          have hsame := fun (wy : World) (hy : Ext wr wy) => refSame6_any (.agg #[.int .i64 R[j].c.term, .slice j1 j2 j3, .slice j4 j5 j6]) (.agg #[.int .i64 TT, .slice sa sn sc, .slice da nd dc]) R[j].c c wy ⟨_, _, rfl, hji.below (HE0.out.trans (HE3.out.trans (hI.out.1.trans hy))), hjr.below (HE0.out.trans (HE3.out.trans (hI.out.1.trans hy)))⟩ (HCF.out wy (HE0.out.trans (HE3.out.trans (hI.out.1.trans hy))))
          have hall := fun (wy : World) (hy : Ext wr wy) => refSameAll14 (.slice t1 t2 t3) (.slice la k lcap) a.tail l wy (hten.below (HE0.out.trans (HE3.out.trans (hI.out.1.trans hy)))) (HARG.out.2.2.below (HE0.out.trans (HE3.out.trans (hI.out.1.trans hy))))
          obtain ⟨JT, hJT⟩ : ∃ z, R[j].c.term = z := ⟨_, rfl⟩
          rw [hJT] at hsame k0
          rw [hx] at hsame
          have HJ3 := Lib.hid (And.intro k0 (And.intro k1 k2))
          have HT3 := Lib.hid hcell
          obtain ⟨bs, hbs⟩ : ∃ z, Term.alike x.c c = z := ⟨_, rfl⟩
          rw [hbs] at hsame
          have HSAME := Lib.hid hsame
          have HALL0 := Lib.hid hall
          have HBS := Lib.hid hbs
          have HLX := Lib.hid hlx
          clear hlx hj hx hxt k0 k1 k2 hj5 hji hjr hij hcell hten htl hsame hall hJT hbs
          cases bs with
          | false =>
            have HIN := Lib.hid (Reg.Inst.other (R := R) (c := c) (l := l) HG.out x (by rw [HLN.out.2.2]; exact HLX.out) (by
              rintro ⟨b, _, h2, _⟩
              have h3 := HBS.out
              rw [h2, Term.alike_self] at h3
              exact absurd h3 (by decide)))
            go_upto_region 11 with fail
            refine wp_region_facts (by kernel_rfl) Ext (fun iop v w => match iop with
                | 0 => v = .int .i64 (i : Nat)
                | 1 => v = .bool false
                | 2 => v = .bool false
                | 3 => v = .pointer (some ⟨q, 0, none⟩)
                | 4 => v = .slice (some ⟨g, 0, none⟩) n lc
                | 5 => v = .int .i64 (j : Nat)
                | 6 => v = .pointer (some ⟨g, j * 3, none⟩)
                | 7 => v = .agg #[.int .i64 JT, .slice j1 j2 j3, .slice j4 j5 j6]
                | 8 => v = .agg #[.int .i64 TT, .slice sa sn sc, .slice da nd dc]
                | 9 => v = .bool false
                | 10 => v = .bool true
                | 11 => v = .bool true
                | 12 => v = .bool true
                | 13 => v = undef
                | 14 => v = undef
                | 15 => v = undef
                | 16 => v = undef
                | 17 => v = undef
                | 18 => v = undef
                | 19 => v = undef
                | 20 => v = undef
                | _ => v = .bool true
                ) (by kernel_rfl) (fun _ _ _ h k => Ext.trans h k) (fun a => Ext.refl a) (Ext.drew _) ?_ ?_ ?_
            · intro iop v wa wb hF hL
              iterate 21 (rcases iop with _ | iop; exact hF)
              exact hF
            · refine Obls.cons ?_ (Obls.cons ?_ (Obls.cons ?_ (Obls.cons ?_ (Obls.cons ?_ (Obls.cons ?_ (Obls.cons ?_ (Obls.cons ?_ (Obls.cons ?_ (Obls.cons ?_ (Obls.cons ?_ (Obls.cons ?_ (Obls.cons ?_ (Obls.cons ?_ (Obls.cons ?_ (Obls.cons ?_ (Obls.cons ?_ (Obls.cons ?_ (Obls.cons ?_ (Obls.cons ?_ (Obls.cons ?_ (Obls.cons ?_ (Obls.nil))))))))))))))))))))))
              · intro ev wy hp hl hk hd
                have e8 : ev _ = .int .i64 (i : Nat) := hk 8 (by decide)
                exact Yield.mv rfl ⟨Ext.refl _, e8⟩
              · intro ev wy hp hl hk hd
                have e68 : ev _ = _ := hk 68 (by decide)
                exact Yield.op (v := .bool false) (w' := wy) (by simp [execOp, go_sem, e68, hp.const]) ⟨Ext.refl _, rfl⟩
              · intro ev wy hp hl hk hd
                have e69 : ev _ = _ := hk 69 (by decide)
                exact Yield.mv rfl ⟨Ext.refl _, e69⟩
              · intro ev wy hp hl hk hd
                have e3 : ev _ = .pointer (some ⟨q, 0, none⟩) := hk 3 (by decide)
                refine ⟨fun _ _ _ => ?_, fun _ hx hne => absurd hx hne⟩
                exact Yield.op (v := .pointer (some ⟨q, 0, none⟩)) (w' := wy) (by simp [execOp, go_sem, e3]) ⟨Ext.refl _, rfl⟩
              · intro ev wy hp hl hk hd
                have e71 : ev _ = _ := hk 71 (by decide)
                refine ⟨fun _ _ _ => ?_, fun _ hx hne => absurd hx hne⟩
                exact Yield.op (v := .slice (some ⟨g, 0, none⟩) n lc) (w' := wy) (by simp [execOp, go_sem, e71, (HCE.out wy (hI.out.1.trans hl)).1]) ⟨Ext.refl _, rfl⟩
              · intro ev wy hp hl hk hd
                have e9 : ev _ = .int .i64 (j : Nat) := hk 9 (by decide)
                refine ⟨fun _ _ _ => ?_, fun _ hx hne => absurd hx hne⟩
                exact Yield.mv rfl ⟨Ext.refl _, e9⟩
              · intro ev wy hp hl hk hd
                have e72 : ev _ = _ := hk 72 (by decide)
                have e73 : ev _ = _ := hk 73 (by decide)
                refine ⟨fun _ _ _ => ?_, fun _ hx hne => absurd hx hne⟩
                exact Yield.op (v := .pointer (some ⟨g, j * 3, none⟩)) (w' := wy) (by simp [execOp, go_sem, e72, e73]; omega) ⟨Ext.refl _, rfl⟩
              · intro ev wy hp hl hk hd
                have e74 : ev _ = _ := hk 74 (by decide)
                refine ⟨fun _ _ _ => ?_, fun _ hx hne => absurd hx hne⟩
                exact Yield.op (v := .agg #[.int .i64 JT, .slice j1 j2 j3, .slice j4 j5 j6]) (w' := wy) (by simp [execOp, go_sem, e74, cellExt ((HE3.out.trans hI.out.1).trans hl) HJ3.out.1, cellExt ((HE3.out.trans hI.out.1).trans hl) HJ3.out.2.1, cellExt ((HE3.out.trans hI.out.1).trans hl) HJ3.out.2.2]) ⟨Ext.refl _, rfl⟩
              · intro ev wy hp hl hk hd
                have e4 : ev _ = .pointer (some ⟨q + 1, 0, none⟩) := hk 4 (by decide)
                refine ⟨fun _ _ _ => ?_, fun _ hx hne => absurd hx hne⟩
                have hce := HCE.out wy (hI.out.1.trans hl)
                exact Yield.op (v := .agg #[.int .i64 TT, .slice sa sn sc, .slice da nd dc]) (w' := wy) (by simp [execOp, go_sem, e4, hce.2.2.1, hce.2.2.2.1, hce.2.2.2.2.1]) ⟨Ext.refl _, rfl⟩
              · intro ev wy hp hl hk hd
                have e75 : ev _ = _ := hk 75 (by decide)
                have e76 : ev _ = _ := hk 76 (by decide)
                refine ⟨fun _ _ _ => ?_, fun _ hx hne => absurd hx hne⟩
                refine Yield.call rfl hp Try.func27 rfl (by kernel_rfl) ?_
                simp only [List.map_toArray, List.map_cons, List.map_nil, e75, e76]
                exact (HSAME.out wy hl).mono fun _ _ ⟨he, hb⟩ => ⟨_, he, hb, by first | rfl | simp⟩
              · intro ev wy hp hl hk hd
                have e77 : ev _ = _ := hk 77 (by decide)
                refine ⟨fun _ _ _ => ?_, fun _ hx hne => absurd hx hne⟩
                exact Yield.op (v := .bool true) (w' := wy) (by simp [execOp, go_sem, e77]) ⟨Ext.refl _, rfl⟩
              · intro ev wy hp hl hk hd
                have e70 : ev _ = _ := hk 70 (by decide)
                have e78 : ev _ = _ := hk 78 (by decide)
                exact Yield.pick (t := false) rfl e70 ⟨Ext.refl _, e78⟩
              · intro ev wy hp hl hk hd
                have e79 : ev _ = _ := hk 79 (by decide)
                exact Yield.mv rfl ⟨Ext.refl _, e79⟩
              · intro ev wy hp hl hk hd
                have e3 : ev _ = .pointer (some ⟨q, 0, none⟩) := hk 3 (by decide)
                exact ⟨fun x hx he => (by rw [show x = .bool true from hx] at he; cases he), fun _ _ _ => rfl⟩
              · intro ev wy hp hl hk hd
                have e81 : ev _ = _ := hk 81 (by decide)
                exact ⟨fun x hx he => (by rw [show x = .bool true from hx] at he; cases he), fun _ _ _ => rfl⟩
              · intro ev wy hp hl hk hd
                have e8 : ev _ = .int .i64 (i : Nat) := hk 8 (by decide)
                exact ⟨fun x hx he => (by rw [show x = .bool true from hx] at he; cases he), fun _ _ _ => rfl⟩
              · intro ev wy hp hl hk hd
                have e82 : ev _ = _ := hk 82 (by decide)
                have e83 : ev _ = _ := hk 83 (by decide)
                exact ⟨fun x hx he => (by rw [show x = .bool true from hx] at he; cases he), fun _ _ _ => rfl⟩
              · intro ev wy hp hl hk hd
                have e84 : ev _ = _ := hk 84 (by decide)
                exact ⟨fun x hx he => (by rw [show x = .bool true from hx] at he; cases he), fun _ _ _ => rfl⟩
              · intro ev wy hp hl hk hd
                have e2 : ev _ = .slice la k lcap := hk 2 (by decide)
                exact ⟨fun x hx he => (by rw [show x = .bool true from hx] at he; cases he), fun _ _ _ => rfl⟩
              · intro ev wy hp hl hk hd
                have e85 : ev _ = _ := hk 85 (by decide)
                have e86 : ev _ = _ := hk 86 (by decide)
                exact ⟨fun x hx he => (by rw [show x = .bool true from hx] at he; cases he), fun _ _ _ => rfl⟩
              · intro ev wy hp hl hk hd
                have e87 : ev _ = _ := hk 87 (by decide)
                exact ⟨fun x hx he => (by rw [show x = .bool true from hx] at he; cases he), fun _ _ _ => rfl⟩
              · intro ev wy hp hl hk hd
                have e80 : ev _ = _ := hk 80 (by decide)
                have e88 : ev _ = _ := hk 88 (by decide)
                exact Yield.pick (t := true) rfl e80 ⟨Ext.refl _, hp.const _⟩
            · intro vals wz hz hv
              have g68 : vals 0 = _ := hv 0 (by decide)
              have g69 : vals 1 = _ := hv 1 (by decide)
              have g70 : vals 2 = _ := hv 2 (by decide)
              have g71 : vals 3 = _ := hv 3 (by decide)
              have g72 : vals 4 = _ := hv 4 (by decide)
              have g73 : vals 5 = _ := hv 5 (by decide)
              have g74 : vals 6 = _ := hv 6 (by decide)
              have g75 : vals 7 = _ := hv 7 (by decide)
              have g76 : vals 8 = _ := hv 8 (by decide)
              have g77 : vals 9 = _ := hv 9 (by decide)
              have g78 : vals 10 = _ := hv 10 (by decide)
              have g79 : vals 11 = _ := hv 11 (by decide)
              have g80 : vals 12 = _ := hv 12 (by decide)
              have g81 : vals 13 = _ := hv 13 (by decide)
              have g82 : vals 14 = _ := hv 14 (by decide)
              have g83 : vals 15 = _ := hv 15 (by decide)
              have g84 : vals 16 = _ := hv 16 (by decide)
              have g85 : vals 17 = _ := hv 17 (by decide)
              have g86 : vals 18 = _ := hv 18 (by decide)
              have g87 : vals 19 = _ := hv 19 (by decide)
              have g88 : vals 20 = _ := hv 20 (by decide)
              have g89 : vals 21 = _ := hv 21 (by decide)
              clear hv
              simp only [putAll, Act.put, List.setIfInBounds_toArray, List.set_cons_zero, List.set_cons_succ, g68, g69, g70, g71, g72, g73, g74, g75, g76, g77, g78, g79, g80, g81, g82, g83, g84, g85, g86, g87, g88, g89]
              clear g68 g69 g70 g71 g72 g73 g74 g75 g76 g77 g78 g79 g80 g81 g82 g83 g84 g85 g86 g87 g88 g89
              have HZ := Lib.hid (hI.out.1.trans hz)
              clear z0 z1 z2 z3 z4 z5 z6 z7 z8
              obtain ⟨z0, z1, z2, z3, z4, z5, z6, z7, z8⟩ := HCE.out wz HZ.out
              clear hz
              go_wp2_with fail
              obtain ⟨m0, m1⟩ := HRES.out wz HZ.out
              refine bodyPost_ret (v := .tuple #[.agg #[.slice (some ⟨g, 0, none⟩) n lc, .slice (some ⟨gt, 0, none⟩) m tc], .int .i64 140]) (by simp [results, Try.results11, go_sem, m0, m1]) rfl ?_
              exact HEND.out 140 wz HZ.out (HIN.out)
          | true =>
            have hxc : x.c = c := (Term.alike_iff _ _).1 HBS.out
            by_cases hteq : a.tail = l
            · have HIN := Lib.hid (Reg.Inst.same (R := R) (c := c) (l := l) HG.out x a (by rw [HLN.out.2.2]; exact HLX.out) (by rw [HLN.out.2.2]; exact HLA.out) hxc hteq)
              have HALL := Lib.hid (fun (wy : World) (hy : Ext wr wy) => (HALL0.out wy hy).mono fun e w' ⟨⟨b, h1, h2⟩, h3⟩ => (show e = Ending.returned (.bool true) ∧ Ext wy w' from ⟨by rw [h1, h2.2 hteq], h3⟩))
              clear hxc hteq
              go_upto_region 11 with fail
              refine wp_region_facts (by kernel_rfl) Ext (fun iop v w => match iop with
                  | 0 => v = .int .i64 (i : Nat)
                  | 1 => v = .bool false
                  | 2 => v = .bool false
                  | 3 => v = .pointer (some ⟨q, 0, none⟩)
                  | 4 => v = .slice (some ⟨g, 0, none⟩) n lc
                  | 5 => v = .int .i64 (j : Nat)
                  | 6 => v = .pointer (some ⟨g, j * 3, none⟩)
                  | 7 => v = .agg #[.int .i64 JT, .slice j1 j2 j3, .slice j4 j5 j6]
                  | 8 => v = .agg #[.int .i64 TT, .slice sa sn sc, .slice da nd dc]
                  | 9 => v = .bool true
                  | 10 => v = .bool false
                  | 11 => v = .bool false
                  | 12 => v = .bool false
                  | 13 => v = .pointer (some ⟨q, 1, none⟩)
                  | 14 => v = .slice (some ⟨gt, 0, none⟩) m tc
                  | 15 => v = .int .i64 (i : Nat)
                  | 16 => v = .pointer (some ⟨gt, i, none⟩)
                  | 17 => v = .slice t1 t2 t3
                  | 18 => v = .slice la k lcap
                  | 19 => v = .bool true
                  | 20 => v = .bool false
                  | _ => v = .bool false
                  ) (by kernel_rfl) (fun _ _ _ h k => Ext.trans h k) (fun a => Ext.refl a) (Ext.drew _) ?_ ?_ ?_
              · intro iop v wa wb hF hL
                iterate 21 (rcases iop with _ | iop; exact hF)
                exact hF
              · refine Obls.cons ?_ (Obls.cons ?_ (Obls.cons ?_ (Obls.cons ?_ (Obls.cons ?_ (Obls.cons ?_ (Obls.cons ?_ (Obls.cons ?_ (Obls.cons ?_ (Obls.cons ?_ (Obls.cons ?_ (Obls.cons ?_ (Obls.cons ?_ (Obls.cons ?_ (Obls.cons ?_ (Obls.cons ?_ (Obls.cons ?_ (Obls.cons ?_ (Obls.cons ?_ (Obls.cons ?_ (Obls.cons ?_ (Obls.cons ?_ (Obls.nil))))))))))))))))))))))
                · intro ev wy hp hl hk hd
                  have e8 : ev _ = .int .i64 (i : Nat) := hk 8 (by decide)
                  exact Yield.mv rfl ⟨Ext.refl _, e8⟩
                · intro ev wy hp hl hk hd
                  have e68 : ev _ = _ := hk 68 (by decide)
                  exact Yield.op (v := .bool false) (w' := wy) (by simp [execOp, go_sem, e68, hp.const]) ⟨Ext.refl _, rfl⟩
                · intro ev wy hp hl hk hd
                  have e69 : ev _ = _ := hk 69 (by decide)
                  exact Yield.mv rfl ⟨Ext.refl _, e69⟩
                · intro ev wy hp hl hk hd
                  have e3 : ev _ = .pointer (some ⟨q, 0, none⟩) := hk 3 (by decide)
                  refine ⟨fun _ _ _ => ?_, fun _ hx hne => absurd hx hne⟩
                  exact Yield.op (v := .pointer (some ⟨q, 0, none⟩)) (w' := wy) (by simp [execOp, go_sem, e3]) ⟨Ext.refl _, rfl⟩
                · intro ev wy hp hl hk hd
                  have e71 : ev _ = _ := hk 71 (by decide)
                  refine ⟨fun _ _ _ => ?_, fun _ hx hne => absurd hx hne⟩
                  exact Yield.op (v := .slice (some ⟨g, 0, none⟩) n lc) (w' := wy) (by simp [execOp, go_sem, e71, (HCE.out wy (hI.out.1.trans hl)).1]) ⟨Ext.refl _, rfl⟩
                · intro ev wy hp hl hk hd
                  have e9 : ev _ = .int .i64 (j : Nat) := hk 9 (by decide)
                  refine ⟨fun _ _ _ => ?_, fun _ hx hne => absurd hx hne⟩
                  exact Yield.mv rfl ⟨Ext.refl _, e9⟩
                · intro ev wy hp hl hk hd
                  have e72 : ev _ = _ := hk 72 (by decide)
                  have e73 : ev _ = _ := hk 73 (by decide)
                  refine ⟨fun _ _ _ => ?_, fun _ hx hne => absurd hx hne⟩
                  exact Yield.op (v := .pointer (some ⟨g, j * 3, none⟩)) (w' := wy) (by simp [execOp, go_sem, e72, e73]; omega) ⟨Ext.refl _, rfl⟩
                · intro ev wy hp hl hk hd
                  have e74 : ev _ = _ := hk 74 (by decide)
                  refine ⟨fun _ _ _ => ?_, fun _ hx hne => absurd hx hne⟩
                  exact Yield.op (v := .agg #[.int .i64 JT, .slice j1 j2 j3, .slice j4 j5 j6]) (w' := wy) (by simp [execOp, go_sem, e74, cellExt ((HE3.out.trans hI.out.1).trans hl) HJ3.out.1, cellExt ((HE3.out.trans hI.out.1).trans hl) HJ3.out.2.1, cellExt ((HE3.out.trans hI.out.1).trans hl) HJ3.out.2.2]) ⟨Ext.refl _, rfl⟩
                · intro ev wy hp hl hk hd
                  have e4 : ev _ = .pointer (some ⟨q + 1, 0, none⟩) := hk 4 (by decide)
                  refine ⟨fun _ _ _ => ?_, fun _ hx hne => absurd hx hne⟩
                  have hce := HCE.out wy (hI.out.1.trans hl)
                  exact Yield.op (v := .agg #[.int .i64 TT, .slice sa sn sc, .slice da nd dc]) (w' := wy) (by simp [execOp, go_sem, e4, hce.2.2.1, hce.2.2.2.1, hce.2.2.2.2.1]) ⟨Ext.refl _, rfl⟩
                · intro ev wy hp hl hk hd
                  have e75 : ev _ = _ := hk 75 (by decide)
                  have e76 : ev _ = _ := hk 76 (by decide)
                  refine ⟨fun _ _ _ => ?_, fun _ hx hne => absurd hx hne⟩
                  refine Yield.call rfl hp Try.func27 rfl (by kernel_rfl) ?_
                  simp only [List.map_toArray, List.map_cons, List.map_nil, e75, e76]
                  exact (HSAME.out wy hl).mono fun _ _ ⟨he, hb⟩ => ⟨_, he, hb, by first | rfl | simp⟩
                · intro ev wy hp hl hk hd
                  have e77 : ev _ = _ := hk 77 (by decide)
                  refine ⟨fun _ _ _ => ?_, fun _ hx hne => absurd hx hne⟩
                  exact Yield.op (v := .bool false) (w' := wy) (by simp [execOp, go_sem, e77]) ⟨Ext.refl _, rfl⟩
                · intro ev wy hp hl hk hd
                  have e70 : ev _ = _ := hk 70 (by decide)
                  have e78 : ev _ = _ := hk 78 (by decide)
                  exact Yield.pick (t := false) rfl e70 ⟨Ext.refl _, e78⟩
                · intro ev wy hp hl hk hd
                  have e79 : ev _ = _ := hk 79 (by decide)
                  exact Yield.mv rfl ⟨Ext.refl _, e79⟩
                · intro ev wy hp hl hk hd
                  have e3 : ev _ = .pointer (some ⟨q, 0, none⟩) := hk 3 (by decide)
                  refine ⟨fun _ _ _ => ?_, fun _ hx hne => absurd hx hne⟩
                  exact Yield.op (v := .pointer (some ⟨q, 1, none⟩)) (w' := wy) (by simp [execOp, go_sem, e3]) ⟨Ext.refl _, rfl⟩
                · intro ev wy hp hl hk hd
                  have e81 : ev _ = _ := hk 81 (by decide)
                  refine ⟨fun _ _ _ => ?_, fun _ hx hne => absurd hx hne⟩
                  exact Yield.op (v := .slice (some ⟨gt, 0, none⟩) m tc) (w' := wy) (by simp [execOp, go_sem, e81, (HCE.out wy (hI.out.1.trans hl)).2.1]) ⟨Ext.refl _, rfl⟩
                · intro ev wy hp hl hk hd
                  have e8 : ev _ = .int .i64 (i : Nat) := hk 8 (by decide)
                  refine ⟨fun _ _ _ => ?_, fun _ hx hne => absurd hx hne⟩
                  exact Yield.mv rfl ⟨Ext.refl _, e8⟩
                · intro ev wy hp hl hk hd
                  have e82 : ev _ = _ := hk 82 (by decide)
                  have e83 : ev _ = _ := hk 83 (by decide)
                  refine ⟨fun _ _ _ => ?_, fun _ hx hne => absurd hx hne⟩
                  exact Yield.op (v := .pointer (some ⟨gt, i, none⟩)) (w' := wy) (by simp [execOp, go_sem, e82, e83]; omega) ⟨Ext.refl _, rfl⟩
                · intro ev wy hp hl hk hd
                  have e84 : ev _ = _ := hk 84 (by decide)
                  refine ⟨fun _ _ _ => ?_, fun _ hx hne => absurd hx hne⟩
                  exact Yield.op (v := .slice t1 t2 t3) (w' := wy) (by simp [execOp, go_sem, e84, cellExt ((HE3.out.trans hI.out.1).trans hl) HT3.out]) ⟨Ext.refl _, rfl⟩
                · intro ev wy hp hl hk hd
                  have e2 : ev _ = .slice la k lcap := hk 2 (by decide)
                  refine ⟨fun _ _ _ => ?_, fun _ hx hne => absurd hx hne⟩
                  exact Yield.mv rfl ⟨Ext.refl _, e2⟩
                · intro ev wy hp hl hk hd
                  have e85 : ev _ = _ := hk 85 (by decide)
                  have e86 : ev _ = _ := hk 86 (by decide)
                  refine ⟨fun _ _ _ => ?_, fun _ hx hne => absurd hx hne⟩
                  refine Yield.call rfl hp Try.func28 rfl (by kernel_rfl) ?_
                  simp only [List.map_toArray, List.map_cons, List.map_nil, e85, e86]
                  exact (HALL.out wy hl).mono fun _ _ ⟨he, hb⟩ => ⟨_, he, hb, by first | rfl | simp⟩
                · intro ev wy hp hl hk hd
                  have e87 : ev _ = _ := hk 87 (by decide)
                  refine ⟨fun _ _ _ => ?_, fun _ hx hne => absurd hx hne⟩
                  exact Yield.op (v := .bool false) (w' := wy) (by simp [execOp, go_sem, e87]) ⟨Ext.refl _, rfl⟩
                · intro ev wy hp hl hk hd
                  have e80 : ev _ = _ := hk 80 (by decide)
                  have e88 : ev _ = _ := hk 88 (by decide)
                  exact Yield.pick (t := false) rfl e80 ⟨Ext.refl _, e88⟩
              · intro vals wz hz hv
                have g68 : vals 0 = _ := hv 0 (by decide)
                have g69 : vals 1 = _ := hv 1 (by decide)
                have g70 : vals 2 = _ := hv 2 (by decide)
                have g71 : vals 3 = _ := hv 3 (by decide)
                have g72 : vals 4 = _ := hv 4 (by decide)
                have g73 : vals 5 = _ := hv 5 (by decide)
                have g74 : vals 6 = _ := hv 6 (by decide)
                have g75 : vals 7 = _ := hv 7 (by decide)
                have g76 : vals 8 = _ := hv 8 (by decide)
                have g77 : vals 9 = _ := hv 9 (by decide)
                have g78 : vals 10 = _ := hv 10 (by decide)
                have g79 : vals 11 = _ := hv 11 (by decide)
                have g80 : vals 12 = _ := hv 12 (by decide)
                have g81 : vals 13 = _ := hv 13 (by decide)
                have g82 : vals 14 = _ := hv 14 (by decide)
                have g83 : vals 15 = _ := hv 15 (by decide)
                have g84 : vals 16 = _ := hv 16 (by decide)
                have g85 : vals 17 = _ := hv 17 (by decide)
                have g86 : vals 18 = _ := hv 18 (by decide)
                have g87 : vals 19 = _ := hv 19 (by decide)
                have g88 : vals 20 = _ := hv 20 (by decide)
                have g89 : vals 21 = _ := hv 21 (by decide)
                clear hv
                simp only [putAll, Act.put, List.setIfInBounds_toArray, List.set_cons_zero, List.set_cons_succ, g68, g69, g70, g71, g72, g73, g74, g75, g76, g77, g78, g79, g80, g81, g82, g83, g84, g85, g86, g87, g88, g89]
                clear g68 g69 g70 g71 g72 g73 g74 g75 g76 g77 g78 g79 g80 g81 g82 g83 g84 g85 g86 g87 g88 g89
                have HZ := Lib.hid (hI.out.1.trans hz)
                clear z0 z1 z2 z3 z4 z5 z6 z7 z8
                obtain ⟨z0, z1, z2, z3, z4, z5, z6, z7, z8⟩ := HCE.out wz HZ.out
                clear hz
                go_wp2_with fail
                obtain ⟨m0, m1⟩ := HRES.out wz HZ.out
                refine bodyPost_ret (v := .tuple #[.agg #[.slice (some ⟨g, 0, none⟩) n lc, .slice (some ⟨gt, 0, none⟩) m tc], .int .i64 0]) (by simp [results, Try.results11, go_sem, m0, m1]) rfl ?_
                exact HEND.out 0 wz HZ.out (HIN.out)
            · have HIN := Lib.hid (Reg.Inst.other (R := R) (c := c) (l := l) HG.out x (by rw [HLN.out.2.2]; exact HLX.out) (by
                rintro ⟨b, h1, _, h3⟩
                rw [HLN.out.2.2, HLA.out] at h1
                injection h1 with h1
                subst h1
                exact hteq h3))
              have HALL := Lib.hid (fun (wy : World) (hy : Ext wr wy) => (HALL0.out wy hy).mono fun e w' ⟨⟨b, h1, h2⟩, h3⟩ => (show e = Ending.returned (.bool false) ∧ Ext wy w' from ⟨by
                rw [h1]
                cases b with
                | false => rfl
                | true => exact absurd (h2.1 rfl) hteq, h3⟩))
              clear hxc hteq
              go_upto_region 11 with fail
              refine wp_region_facts (by kernel_rfl) Ext (fun iop v w => match iop with
                  | 0 => v = .int .i64 (i : Nat)
                  | 1 => v = .bool false
                  | 2 => v = .bool false
                  | 3 => v = .pointer (some ⟨q, 0, none⟩)
                  | 4 => v = .slice (some ⟨g, 0, none⟩) n lc
                  | 5 => v = .int .i64 (j : Nat)
                  | 6 => v = .pointer (some ⟨g, j * 3, none⟩)
                  | 7 => v = .agg #[.int .i64 JT, .slice j1 j2 j3, .slice j4 j5 j6]
                  | 8 => v = .agg #[.int .i64 TT, .slice sa sn sc, .slice da nd dc]
                  | 9 => v = .bool true
                  | 10 => v = .bool false
                  | 11 => v = .bool false
                  | 12 => v = .bool false
                  | 13 => v = .pointer (some ⟨q, 1, none⟩)
                  | 14 => v = .slice (some ⟨gt, 0, none⟩) m tc
                  | 15 => v = .int .i64 (i : Nat)
                  | 16 => v = .pointer (some ⟨gt, i, none⟩)
                  | 17 => v = .slice t1 t2 t3
                  | 18 => v = .slice la k lcap
                  | 19 => v = .bool false
                  | 20 => v = .bool true
                  | _ => v = .bool true
                  ) (by kernel_rfl) (fun _ _ _ h k => Ext.trans h k) (fun a => Ext.refl a) (Ext.drew _) ?_ ?_ ?_
              · intro iop v wa wb hF hL
                iterate 21 (rcases iop with _ | iop; exact hF)
                exact hF
              · refine Obls.cons ?_ (Obls.cons ?_ (Obls.cons ?_ (Obls.cons ?_ (Obls.cons ?_ (Obls.cons ?_ (Obls.cons ?_ (Obls.cons ?_ (Obls.cons ?_ (Obls.cons ?_ (Obls.cons ?_ (Obls.cons ?_ (Obls.cons ?_ (Obls.cons ?_ (Obls.cons ?_ (Obls.cons ?_ (Obls.cons ?_ (Obls.cons ?_ (Obls.cons ?_ (Obls.cons ?_ (Obls.cons ?_ (Obls.cons ?_ (Obls.nil))))))))))))))))))))))
                · intro ev wy hp hl hk hd
                  have e8 : ev _ = .int .i64 (i : Nat) := hk 8 (by decide)
                  exact Yield.mv rfl ⟨Ext.refl _, e8⟩
                · intro ev wy hp hl hk hd
                  have e68 : ev _ = _ := hk 68 (by decide)
                  exact Yield.op (v := .bool false) (w' := wy) (by simp [execOp, go_sem, e68, hp.const]) ⟨Ext.refl _, rfl⟩
                · intro ev wy hp hl hk hd
                  have e69 : ev _ = _ := hk 69 (by decide)
                  exact Yield.mv rfl ⟨Ext.refl _, e69⟩
                · intro ev wy hp hl hk hd
                  have e3 : ev _ = .pointer (some ⟨q, 0, none⟩) := hk 3 (by decide)
                  refine ⟨fun _ _ _ => ?_, fun _ hx hne => absurd hx hne⟩
                  exact Yield.op (v := .pointer (some ⟨q, 0, none⟩)) (w' := wy) (by simp [execOp, go_sem, e3]) ⟨Ext.refl _, rfl⟩
                · intro ev wy hp hl hk hd
                  have e71 : ev _ = _ := hk 71 (by decide)
                  refine ⟨fun _ _ _ => ?_, fun _ hx hne => absurd hx hne⟩
                  exact Yield.op (v := .slice (some ⟨g, 0, none⟩) n lc) (w' := wy) (by simp [execOp, go_sem, e71, (HCE.out wy (hI.out.1.trans hl)).1]) ⟨Ext.refl _, rfl⟩
                · intro ev wy hp hl hk hd
                  have e9 : ev _ = .int .i64 (j : Nat) := hk 9 (by decide)
                  refine ⟨fun _ _ _ => ?_, fun _ hx hne => absurd hx hne⟩
                  exact Yield.mv rfl ⟨Ext.refl _, e9⟩
                · intro ev wy hp hl hk hd
                  have e72 : ev _ = _ := hk 72 (by decide)
                  have e73 : ev _ = _ := hk 73 (by decide)
                  refine ⟨fun _ _ _ => ?_, fun _ hx hne => absurd hx hne⟩
                  exact Yield.op (v := .pointer (some ⟨g, j * 3, none⟩)) (w' := wy) (by simp [execOp, go_sem, e72, e73]; omega) ⟨Ext.refl _, rfl⟩
                · intro ev wy hp hl hk hd
                  have e74 : ev _ = _ := hk 74 (by decide)
                  refine ⟨fun _ _ _ => ?_, fun _ hx hne => absurd hx hne⟩
                  exact Yield.op (v := .agg #[.int .i64 JT, .slice j1 j2 j3, .slice j4 j5 j6]) (w' := wy) (by simp [execOp, go_sem, e74, cellExt ((HE3.out.trans hI.out.1).trans hl) HJ3.out.1, cellExt ((HE3.out.trans hI.out.1).trans hl) HJ3.out.2.1, cellExt ((HE3.out.trans hI.out.1).trans hl) HJ3.out.2.2]) ⟨Ext.refl _, rfl⟩
                · intro ev wy hp hl hk hd
                  have e4 : ev _ = .pointer (some ⟨q + 1, 0, none⟩) := hk 4 (by decide)
                  refine ⟨fun _ _ _ => ?_, fun _ hx hne => absurd hx hne⟩
                  have hce := HCE.out wy (hI.out.1.trans hl)
                  exact Yield.op (v := .agg #[.int .i64 TT, .slice sa sn sc, .slice da nd dc]) (w' := wy) (by simp [execOp, go_sem, e4, hce.2.2.1, hce.2.2.2.1, hce.2.2.2.2.1]) ⟨Ext.refl _, rfl⟩
                · intro ev wy hp hl hk hd
                  have e75 : ev _ = _ := hk 75 (by decide)
                  have e76 : ev _ = _ := hk 76 (by decide)
                  refine ⟨fun _ _ _ => ?_, fun _ hx hne => absurd hx hne⟩
                  refine Yield.call rfl hp Try.func27 rfl (by kernel_rfl) ?_
                  simp only [List.map_toArray, List.map_cons, List.map_nil, e75, e76]
                  exact (HSAME.out wy hl).mono fun _ _ ⟨he, hb⟩ => ⟨_, he, hb, by first | rfl | simp⟩
                · intro ev wy hp hl hk hd
                  have e77 : ev _ = _ := hk 77 (by decide)
                  refine ⟨fun _ _ _ => ?_, fun _ hx hne => absurd hx hne⟩
                  exact Yield.op (v := .bool false) (w' := wy) (by simp [execOp, go_sem, e77]) ⟨Ext.refl _, rfl⟩
                · intro ev wy hp hl hk hd
                  have e70 : ev _ = _ := hk 70 (by decide)
                  have e78 : ev _ = _ := hk 78 (by decide)
                  exact Yield.pick (t := false) rfl e70 ⟨Ext.refl _, e78⟩
                · intro ev wy hp hl hk hd
                  have e79 : ev _ = _ := hk 79 (by decide)
                  exact Yield.mv rfl ⟨Ext.refl _, e79⟩
                · intro ev wy hp hl hk hd
                  have e3 : ev _ = .pointer (some ⟨q, 0, none⟩) := hk 3 (by decide)
                  refine ⟨fun _ _ _ => ?_, fun _ hx hne => absurd hx hne⟩
                  exact Yield.op (v := .pointer (some ⟨q, 1, none⟩)) (w' := wy) (by simp [execOp, go_sem, e3]) ⟨Ext.refl _, rfl⟩
                · intro ev wy hp hl hk hd
                  have e81 : ev _ = _ := hk 81 (by decide)
                  refine ⟨fun _ _ _ => ?_, fun _ hx hne => absurd hx hne⟩
                  exact Yield.op (v := .slice (some ⟨gt, 0, none⟩) m tc) (w' := wy) (by simp [execOp, go_sem, e81, (HCE.out wy (hI.out.1.trans hl)).2.1]) ⟨Ext.refl _, rfl⟩
                · intro ev wy hp hl hk hd
                  have e8 : ev _ = .int .i64 (i : Nat) := hk 8 (by decide)
                  refine ⟨fun _ _ _ => ?_, fun _ hx hne => absurd hx hne⟩
                  exact Yield.mv rfl ⟨Ext.refl _, e8⟩
                · intro ev wy hp hl hk hd
                  have e82 : ev _ = _ := hk 82 (by decide)
                  have e83 : ev _ = _ := hk 83 (by decide)
                  refine ⟨fun _ _ _ => ?_, fun _ hx hne => absurd hx hne⟩
                  exact Yield.op (v := .pointer (some ⟨gt, i, none⟩)) (w' := wy) (by simp [execOp, go_sem, e82, e83]; omega) ⟨Ext.refl _, rfl⟩
                · intro ev wy hp hl hk hd
                  have e84 : ev _ = _ := hk 84 (by decide)
                  refine ⟨fun _ _ _ => ?_, fun _ hx hne => absurd hx hne⟩
                  exact Yield.op (v := .slice t1 t2 t3) (w' := wy) (by simp [execOp, go_sem, e84, cellExt ((HE3.out.trans hI.out.1).trans hl) HT3.out]) ⟨Ext.refl _, rfl⟩
                · intro ev wy hp hl hk hd
                  have e2 : ev _ = .slice la k lcap := hk 2 (by decide)
                  refine ⟨fun _ _ _ => ?_, fun _ hx hne => absurd hx hne⟩
                  exact Yield.mv rfl ⟨Ext.refl _, e2⟩
                · intro ev wy hp hl hk hd
                  have e85 : ev _ = _ := hk 85 (by decide)
                  have e86 : ev _ = _ := hk 86 (by decide)
                  refine ⟨fun _ _ _ => ?_, fun _ hx hne => absurd hx hne⟩
                  refine Yield.call rfl hp Try.func28 rfl (by kernel_rfl) ?_
                  simp only [List.map_toArray, List.map_cons, List.map_nil, e85, e86]
                  exact (HALL.out wy hl).mono fun _ _ ⟨he, hb⟩ => ⟨_, he, hb, by first | rfl | simp⟩
                · intro ev wy hp hl hk hd
                  have e87 : ev _ = _ := hk 87 (by decide)
                  refine ⟨fun _ _ _ => ?_, fun _ hx hne => absurd hx hne⟩
                  exact Yield.op (v := .bool true) (w' := wy) (by simp [execOp, go_sem, e87]) ⟨Ext.refl _, rfl⟩
                · intro ev wy hp hl hk hd
                  have e80 : ev _ = _ := hk 80 (by decide)
                  have e88 : ev _ = _ := hk 88 (by decide)
                  exact Yield.pick (t := false) rfl e80 ⟨Ext.refl _, e88⟩
              · intro vals wz hz hv
                have g68 : vals 0 = _ := hv 0 (by decide)
                have g69 : vals 1 = _ := hv 1 (by decide)
                have g70 : vals 2 = _ := hv 2 (by decide)
                have g71 : vals 3 = _ := hv 3 (by decide)
                have g72 : vals 4 = _ := hv 4 (by decide)
                have g73 : vals 5 = _ := hv 5 (by decide)
                have g74 : vals 6 = _ := hv 6 (by decide)
                have g75 : vals 7 = _ := hv 7 (by decide)
                have g76 : vals 8 = _ := hv 8 (by decide)
                have g77 : vals 9 = _ := hv 9 (by decide)
                have g78 : vals 10 = _ := hv 10 (by decide)
                have g79 : vals 11 = _ := hv 11 (by decide)
                have g80 : vals 12 = _ := hv 12 (by decide)
                have g81 : vals 13 = _ := hv 13 (by decide)
                have g82 : vals 14 = _ := hv 14 (by decide)
                have g83 : vals 15 = _ := hv 15 (by decide)
                have g84 : vals 16 = _ := hv 16 (by decide)
                have g85 : vals 17 = _ := hv 17 (by decide)
                have g86 : vals 18 = _ := hv 18 (by decide)
                have g87 : vals 19 = _ := hv 19 (by decide)
                have g88 : vals 20 = _ := hv 20 (by decide)
                have g89 : vals 21 = _ := hv 21 (by decide)
                clear hv
                simp only [putAll, Act.put, List.setIfInBounds_toArray, List.set_cons_zero, List.set_cons_succ, g68, g69, g70, g71, g72, g73, g74, g75, g76, g77, g78, g79, g80, g81, g82, g83, g84, g85, g86, g87, g88, g89]
                clear g68 g69 g70 g71 g72 g73 g74 g75 g76 g77 g78 g79 g80 g81 g82 g83 g84 g85 g86 g87 g88 g89
                have HZ := Lib.hid (hI.out.1.trans hz)
                clear z0 z1 z2 z3 z4 z5 z6 z7 z8
                obtain ⟨z0, z1, z2, z3, z4, z5, z6, z7, z8⟩ := HCE.out wz HZ.out
                clear hz
                go_wp2_with fail
                obtain ⟨m0, m1⟩ := HRES.out wz HZ.out
                refine bodyPost_ret (v := .tuple #[.agg #[.slice (some ⟨g, 0, none⟩) n lc, .slice (some ⟨gt, 0, none⟩) m tc], .int .i64 140]) (by simp [results, Try.results11, go_sem, m0, m1]) rfl ?_
                exact HEND.out 140 wz HZ.out (HIN.out)
end Go.Proofs.Ytkpcmedmiiohnaa
