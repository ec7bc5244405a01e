/-
  Merged: Layer 15, the document's own: all records in a row.
-/
import Derived.Test.YtnldbdgchkknpaaBsLib
import Derived.Test.YtnldbdgchkknpaaBsOrJ
import Derived.Test.YtnldbdgchkknpaaBsOrK

namespace Go.Proofs.Ytnldbdgchkknpaa
set_option linter.unusedSimpArgs false
set_option linter.unusedVariables false
set_option maxRecDepth 100000
open Go.RowKit
/- Layer 15, the document's own: all records in a row; where one stands. -/
namespace Ord
/-- The records that entries bring, behind a last cut. -/
def rowE : List Int → List Ent.E → List (Int × Int)
  | _, [] => []
  | a, e :: l => if e.kind = 1 then blk 0 a e.cut ++ rowE e.cut l else rowE a l
def lastE : List Int → List Ent.E → List Int
  | a, [] => a
  | a, e :: l => if e.kind = 1 then lastE e.cut l else lastE a l
theorem rowE_append : ∀ (l m : List Ent.E) (a : List Int), rowE a (l ++ m) = rowE a l ++ rowE (lastE a l) m := by
  intro l
  induction l with
  | nil => intro m a; rfl
  | cons e l ih =>
    intro m a
    rw [List.cons_append, rowE, rowE, lastE]
    by_cases h : e.kind = 1
    · rw [if_pos h, if_pos h, if_pos h, ih, List.append_assoc]
    · rw [if_neg h, if_neg h, if_neg h, ih]
theorem lastE_append : ∀ (l m : List Ent.E) (a : List Int), lastE a (l ++ m) = lastE (lastE a l) m := by
  intro l
  induction l with
  | nil => intro m a; rfl
  | cons e l ih =>
    intro m a
    rw [List.cons_append, lastE, lastE]
    split <;> exact ih _ _
theorem rowE_take (l : List Ent.E) (a : List Int) (k : Nat) (hk : k < l.length) : rowE a l = rowE a (l.take k) ++ rowE (lastE a (l.take k)) (l[k] :: l.drop (k + 1)) := by
  rw [← rowE_append, List.getElem_cons_drop, List.take_append_drop]
theorem lastE_len {sh : Nat} : ∀ (l : List Ent.E) (a : List Int), a.length = sh → (∀ e ∈ l, e.kind = 1 → e.cut.length = sh) → (lastE a l).length = sh := by
  intro l
  induction l with
  | nil => intro a h _; exact h
  | cons e l ih =>
    intro a h hl
    rw [lastE]
    split
    · rename_i hk
      exact ih _ (hl e (by simp) hk) fun x hx => hl x (by simp [hx])
    · exact ih _ h fun x hx => hl x (by simp [hx])
theorem lastE_num : ∀ (l : List Ent.E) (a : List Int), (∀ x ∈ a, 0 ≤ x ∧ x ≤ 1099511627776) → (∀ e ∈ l, e.kind = 1 → ∀ x ∈ e.cut, 0 ≤ x ∧ x ≤ 1099511627776) → ∀ x ∈ lastE a l, 0 ≤ x ∧ x ≤ 1099511627776 := by
  intro l
  induction l with
  | nil => intro a h _; exact h
  | cons e l ih =>
    intro a h hl
    rw [lastE]
    split
    · rename_i hk
      exact ih _ (hl e (by simp) hk) fun x hx => hl x (by simp [hx])
    · exact ih _ h fun x hx => hl x (by simp [hx])
theorem blk_cut : ∀ (a b : List Int) (s t : Nat), blk s a b = blk s (a.take t) (b.take t) ++ blk (s + t) (a.drop t) (b.drop t) := by
  intro a
  induction a with
  | nil => intro b s t; simp [blk]
  | cons x a ih =>
    intro b s t
    cases b with
    | nil => cases t <;> simp [blk]
    | cons y b =>
      cases t with
      | zero => simp [blk]
      | succ t =>
        simp only [List.take_succ_cons, List.drop_succ_cons, blk]
        rw [ih b (s + 1) t, List.append_assoc, show s + 1 + t = s + (t + 1) by omega]
theorem blk_at (a b : List Int) (t : Nat) (h : t < a.length) (h' : t < b.length) : blk 0 (a.take (t + 1)) (b.take (t + 1)) = blk 0 (a.take t) (b.take t) ++ blkS t a[t] b[t] := by
  rw [blk_cut (a.take (t + 1)) (b.take (t + 1)) 0 t, List.take_take, List.take_take, Nat.min_eq_left (by omega), List.drop_take, List.drop_take]
  congr 1
  rw [show t + 1 - t = 1 by omega, List.drop_eq_getElem_cons h, List.drop_eq_getElem_cons h']
  simp only [List.take_succ_cons, List.take_zero, blk, List.append_nil, Nat.zero_add]
theorem blk_pre (a b : List Int) (t j : Nat) (h : t < a.length) (h' : t < b.length) (hj : (j : Int) ≤ b[t] - a[t]) : (blk 0 (a.take t) (b.take t)).length + j ≤ (blk 0 a b).length := by
  rw [blk_cut a b 0 (t + 1), blk_at a b t h h']
  simp only [List.length_append, blkS_length]
  omega
theorem of_take : ∀ (l : List Ent.E) (cs : List (List Int)), of cs (l.take ((of cs l).length - cs.length)) = of cs l := by
  intro l
  induction l with
  | nil => intro cs; simp [of]
  | cons e l ih =>
    intro cs
    rw [of_cons]
    by_cases h : addErr cs e = 0
    · rw [if_pos h]
      have h1 := (of_long l (cs ++ [now cs e])).1
      simp only [List.length_append, List.length_cons, List.length_nil] at h1
      have h2 := ih (cs ++ [now cs e])
      simp only [List.length_append, List.length_cons, List.length_nil] at h2
      rw [show (of (cs ++ [now cs e]) l).length - cs.length = ((of (cs ++ [now cs e]) l).length - (cs.length + (0 + 1))) + 1 by omega, List.take_succ_cons, of_cons, if_pos h, h2]
    · rw [if_neg h]
      simp [of]
theorem last_snoc (cs : List (List Int)) (c : List Int) : last (cs ++ [c]) = c := by simp [last]
theorem of_rowE : ∀ (l : List Ent.E) (cs : List (List Int)), (of cs l).length = cs.length + l.length → ∃ ds, of cs l = cs ++ ds ∧ row (last cs) ds = rowE (last cs) l ∧ ∀ e ∈ l, e.kind = 1 → e.cut ∈ of cs l := by
  intro l
  induction l with
  | nil => intro cs _; exact ⟨[], by simp [of], rfl, by simp⟩
  | cons e l ih =>
    intro cs h
    rw [of_cons] at h ⊢
    by_cases he : addErr cs e = 0
    · rw [if_pos he] at h ⊢
      obtain ⟨ds, h1, h2, h3⟩ := ih (cs ++ [now cs e]) (by simp only [List.length_append, List.length_cons, List.length_nil] at h ⊢; omega)
      rw [last_snoc] at h2
      refine ⟨now cs e :: ds, by rw [h1]; simp, ?_, fun x hx hk => ?_⟩
      · rw [row, rowE]
        by_cases hk : e.kind = 1
        · rw [if_pos hk, now_cut hk] at *
          rw [h2]
        · rw [if_neg hk, h2, now_trim hk, blk_self]
          rfl
      · rcases List.mem_cons.1 hx with rfl | hx
        · rw [h1, now_cut hk]
          simp
        · exact h3 x hx hk
    · rw [if_neg he] at h
      simp at h
theorem rows_of (n : Int) (l : List Ent.E) (m : Nat) (hm : (of (zero n) l).length = m + 1) : rows (of (zero n) l) = rowE (List.replicate n.toNat 0) (l.take m) ∧ ∀ e ∈ l.take m, e.kind = 1 → e.cut ∈ of (zero n) l := by
  have h1 := of_take l (zero n)
  have hz : (zero n).length = 1 := rfl
  rw [hm, hz, Nat.add_sub_cancel] at h1
  have hml := (of_long l (zero n)).2
  obtain ⟨ds, h2, h3, h4⟩ := of_rowE (l.take m) (zero n) (by rw [h1, hm, hz, List.length_take]; omega)
  rw [h1] at h2 h4
  refine ⟨?_, h4⟩
  rw [h2]
  exact h3
end Ord

theorem Ord.blkS_succ (t : Nat) (x : Int) (j : Nat) : Ord.blkS t x (x + j + 1) = Ord.blkS t x (x + j) ++ [((t : Int), x + (j : Int))] := by
  unfold Ord.blkS
  rw [show (x + j + 1 - x).toNat = j + 1 by omega, show (x + j - x).toNat = j by omega, List.range_succ, List.map_append]
  rfl
/-- The last cut's row: of its own, or the caller's. -/
def LaIs (w wr : World) (la : Value) (A : List Int) : Prop := OwnI wr w.heap.size la A ∨ Ints w la A
theorem LaIs.ints {w wr : World} {la : Value} {A : List Int} (h : LaIs w wr la A) (hE : Ext w wr) : Ints wr la A := by
  rcases h with h | h
  · exact h.ints
  · exact h.below hE
theorem LaIs.ext {w wr w' : World} {la : Value} {A : List Int} (h : LaIs w wr la A) (hE : Ext wr w') : LaIs w w' la A := by
  rcases h with h | h
  · exact .inl (h.ext hE)
  · exact .inr h
theorem LaIs.grown {w wr w' : World} {la u : Value} {A : List Int} {b n : Nat} {xs : List Value} (h : LaIs w wr la A) (hu : wr.ownsRow b 24 2 u n xs) (hg : wr.grownBy w' u.ownBlock) : LaIs w w' la A := by
  rcases h with h | h
  · exact .inl (rowOwn h fun k hk => by
      obtain ⟨cur, hcur⟩ := ownAt h hk
      exact hg.block k (Array.getElem?_eq_some_iff.1 hcur).1 (rowBeside hu hcur (by decide)))
  · exact .inr h
def OrdAt (w : World) (q : Nat) (sh : Nat) (v : Value) : Prop := w.heap[q]? = some (.cells #[.int .i64 (sh : Nat), v] 33 (0, 0))
def GivesRowE (R : List (Int × Int)) (w : World) (e : Ending) (w' : World) : Prop := ∃ u, e = .returned u ∧ w'.ownsRow w.heap.size 24 2 u R.length (plFlat R) ∧ Ext w w'
/-- What the walk through the entries leaves, now. -/
structure RowAt (w : World) (q sh : Nat) (v o la : Value) (P : List (Int × Int)) (A : List Int) (wr : World) : Prop where
  ord : OrdAt wr q sh v
  row : wr.ownsRow w.heap.size 24 2 o P.length (plFlat P)
  last : LaIs w wr la A
  ext : Ext w wr
theorem RowAt.later {w wr w' : World} {q sh : Nat} {v o la : Value} {P : List (Int × Int)} {A : List Int} (h : RowAt w q sh v o la P A wr) (hE : Ext wr w') : RowAt w q sh v o la P A w' := ⟨heap_ext h.ord hE, rowExt h.row hE, h.last.ext hE, h.ext.trans hE⟩
theorem RowAt.one {w wr w' : World} {q sh : Nat} {v o o' la : Value} {P : List (Int × Int)} {A : List Int} {x y : Int} (h : RowAt w q sh v o la P A wr) (hg : wr.grownBy w' o.ownBlock) (hn : w'.ownsRow w.heap.size 24 2 o' (P.length + 1) (plFlat P ++ plFlat [(x, y)])) : RowAt w q sh v o' la (P ++ [(x, y)]) A w' :=
  ⟨(hg.block q (Array.getElem?_eq_some_iff.1 h.ord).1 (rowBeside h.row h.ord (by decide))).trans h.ord, by rw [plFlat_append, List.length_append]; exact hn, h.last.grown h.row hg, Below.grown h.ext hg h.ext.size (fun j hj => (h.row.lt j hj).1)⟩
set_option maxHeartbeats 8000000 in
theorem refRow15_any (sh : Nat) (v : Value) (l : List Ent.E) (w : World) (h8 : sh ≤ 8) (h1 : 1 ≤ sh) (hv : Ents w v l) (hl : ∀ e ∈ l, e.kind = 1 → e.cut.length = sh ∧ ∀ x ∈ e.cut, 0 ≤ x ∧ x ≤ 1099511627776) (hR : (Ord.rowE (List.replicate sh 0) l).length ≤ 1000000) (hll : l.length ≤ 1000000) :
    Calls Try.prog 27 #[.agg #[.int .i64 (sh : Nat), v], .int .i64 (l.length : Nat)] w (GivesRowE (Ord.rowE (List.replicate sh 0) l) w) := by
  obtain ⟨a, cap, rfl, hcap, hmax⟩ := hv.shape
  have HV := Lib.hid hv
  have HL := Lib.hid hl
  obtain ⟨q, hq⟩ : ∃ q, w.heap.size = q := ⟨_, rfl⟩
  obtain ⟨N, hN⟩ : ∃ z, l.length = z := ⟨_, rfl⟩
  rw [hN] at hcap hll ⊢
  rw [hN] at HV
  obtain ⟨w1, hw1⟩ : ∃ z, w.alloc (.cells #[.int .i64 (sh : Nat), .slice a N cap] 33) = z := ⟨_, rfl⟩
  have hE1 : Ext w w1 := by rw [← hw1]; exact Ext.alloc _ _
  have hB1 : OrdAt w1 q sh (.slice a N cap) := by rw [← hw1, ← hq]; exact heap_alloc_new _ _
  have HQ := Lib.hid (And.intro hq (And.intro hw1 (And.intro hE1 hB1)))
  have c0 := cell_of_heap hB1 0
  have c1 := cell_of_heap hB1 1
  simp only [List.getElem?_toArray, List.getElem?_cons_zero, List.getElem?_cons_succ] at c0 c1
  have HN := Lib.hid hN
  clear hq hw1 hE1 hB1 hv hl hN
  obtain ⟨Rw, hRw⟩ : ∃ z, Ord.rowE (List.replicate sh 0) l = z := ⟨_, rfl⟩
  rw [hRw] at hR ⊢
  have HR := Lib.hid hRw
  have te := tPl
  clear hRw
  go_enter Try.func27, Try.ntmps27
  go_upto_region 2 with fail
  rw [HQ.out.1, HQ.out.2.1]
  go_wp2_with (refine wpList_mkfull rfl (.tmp 11) (.tmp 11) tI rfl w1.heap.size sh rfl rfl (by omega) (by unfold maxLen; omega) (Nat.le_refl _) ?_; intro w2 hown2 hg2)
  have hi2 : OwnI w2 w1.heap.size (.slice (some ⟨w1.heap.size, 0, none⟩) sh sh) (List.replicate sh 0) := by
    rw [made_zeros] at hown2
    simpa [OwnI] using hown2
  have hE2 : Ext w1 w2 := ⟨hg2.os, hg2.tape, hg2.output, hg2.size, fun i hi => hg2.block i hi (by simp)⟩
  have HS0 := Lib.hid (show RowAt w q sh (.slice a N cap) (.slice none 0 0) (.slice (some ⟨w1.heap.size, 0, none⟩) sh sh) (Ord.rowE (List.replicate sh 0) (l.take 0)) (Ord.lastE (List.replicate sh 0) (l.take 0)) w2 from ⟨heap_ext HQ.out.2.2.2 hE2, World.ownsRow_nil _ _ _ _, .inl (hi2.lower HQ.out.2.2.1.size), HQ.out.2.2.1.trans hE2⟩)
  clear hown2 hg2 hi2 hE2 c0 c1
  go_loopw [5, 6, 7, 8, 9] (fun o la i _ _ wr => ∃ k : Nat, k ≤ N ∧ i = .int .i64 k ∧ (∃ a n c, o = .slice a n c) ∧ (∃ a c, la = .slice a sh c) ∧ Hid (RowAt w q sh (.slice a N cap) o la (Ord.rowE (List.replicate sh 0) (l.take k)) (Ord.lastE (List.replicate sh 0) (l.take k)) wr)) (fun _ _ i _ _ _ => N - (intOf i).toNat)
  case atStart => exact ⟨0, by omega, rfl, ⟨_, _, _, rfl⟩, ⟨_, _, rfl⟩, HS0⟩
  case round =>
    obtain ⟨k, hk, rfl, ⟨oa, on, oc, rfl⟩, ⟨la, lc, rfl⟩, hI⟩ := hrel
    obtain ⟨ws, hws⟩ : ∃ z, z = wr := ⟨_, rfl⟩
    subst hws
    have e0 := cell_of_heap hI.out.ord 0
    have e1 := cell_of_heap hI.out.ord 1
    simp only [List.getElem?_toArray, List.getElem?_cons_zero, List.getElem?_cons_succ] at e0 e1
    by_cases hlt : k < N
    · have hkl : k < l.length := by rw [HN.out]; exact hlt
      obtain ⟨a', cap', e', _, _, _, hc⟩ := HV.out
      obtain ⟨b, off, rfl, tv, p0, p1, p2, p3, p4, p5, ht⟩ := hc k hkl
      injection e' with e1' e2' e3'
      subst e1'
      have P1 := Lib.hid p1
      have P2 := Lib.hid p2
      have q1 := cellExt15 p1 hI.out.ext
      have htk : l.take (k + 1) = l.take k ++ [l[k]] := List.take_succ_eq_append_getElem hkl
      have hrt := Ord.rowE_take l (List.replicate sh 0) k hkl
      have hll1 := HL.out l[k] (List.getElem_mem hkl)
      have hlal : (Ord.lastE (List.replicate sh 0) (l.take k)).length = sh := Ord.lastE_len _ _ (by simp) fun e he hke => (HL.out e (List.mem_of_mem_take he) hke).1
      have hlan : ∀ x ∈ Ord.lastE (List.replicate sh 0) (l.take k), 0 ≤ x ∧ x ≤ 1099511627776 := Ord.lastE_num _ _ (fun x hx => by rw [List.eq_of_mem_replicate hx]; omega) fun e he hke => (HL.out e (List.mem_of_mem_take he) hke).2
      obtain ⟨E, hE0⟩ : ∃ z, l[k] = z := ⟨_, rfl⟩
      rw [hE0] at P1 q1 ht htk hrt hll1
      have h1k : Ord.rowE (List.replicate sh 0) (l.take (k + 1)) = Ord.rowE (List.replicate sh 0) (l.take k) ++ Ord.rowE (Ord.lastE (List.replicate sh 0) (l.take k)) [E] := by rw [htk, Ord.rowE_append]
      have h2k : Ord.lastE (List.replicate sh 0) (l.take (k + 1)) = Ord.lastE (Ord.lastE (List.replicate sh 0) (l.take k)) [E] := by rw [htk, Ord.lastE_append]
      obtain ⟨P, hP⟩ : ∃ z, Ord.rowE (List.replicate sh 0) (l.take k) = z := ⟨_, rfl⟩
      obtain ⟨A, hA⟩ : ∃ z, Ord.lastE (List.replicate sh 0) (l.take k) = z := ⟨_, rfl⟩
      rw [hP] at hI h1k hrt
      rw [hA] at hI h1k h2k hrt hlal hlan
      have HLAN := Lib.hid hlan
      have HP := Lib.hid (And.intro h1k h2k)
      rw [HR.out] at hrt
      have HRT := Lib.hid hrt
      obtain ⟨m0, kd, ct, m3, m4, m5⟩ := E
      simp only at q1 P1 P2 ht hll1
      obtain ⟨ta, tn, tc, rfl⟩ := ht.isSlice
      have HT := Lib.hid ht
      have HLAL := Lib.hid hlal
      clear hc e2' e3' p0 p1 p2 p3 p4 p5 ht htk hrt hE0 h1k h2k hP hA hlal hlan
      by_cases hkd : kd = 1
      · subst hkd
        obtain ⟨hcl, hcn⟩ := hll1 rfl
        have hstep : Ord.rowE A [⟨m0, 1, ct, m3, m4, m5⟩] = Ord.blk 0 A ct ∧ Ord.lastE A [⟨m0, 1, ct, m3, m4, m5⟩] = ct := by simp [Ord.rowE, Ord.lastE]
        rw [hstep.1, hstep.2] at HP
        have hlenP : P.length + (Ord.blk 0 A ct).length ≤ 1000000 := by
          have h := HRT.out
          rw [Ord.rowE, if_pos rfl] at h
          rw [h] at hR
          simp only [List.length_append] at hR
          omega
        have HCL := Lib.hid (And.intro hcl (And.intro hcn hlenP))
        clear hcl hcn hlenP hstep hll1
        go_wp2_with fail
        have HM0 := Lib.hid (show RowAt w q sh (.slice (some ⟨b, off, none⟩) N cap) (.slice oa on oc) (.slice la sh lc) (P ++ Ord.blk 0 (A.take 0) (ct.take 0)) A ws from by simpa [Ord.blk] using hI.out)
        clear e0 e1 q1
        go_loopw [5, 8, 9] (fun o s _ wm => ∃ t : Nat, t ≤ sh ∧ s = .int .i64 t ∧ (∃ a n c, o = .slice a n c) ∧ Hid (RowAt w q sh (.slice (some ⟨b, off, none⟩) N cap) o (.slice la sh lc) (P ++ Ord.blk 0 (A.take t) (ct.take t)) A wm)) (fun _ s _ _ => sh - (intOf s).toNat)
        case atStart => exact ⟨0, by omega, rfl, ⟨_, _, _, rfl⟩, HM0⟩
        case round =>
          obtain ⟨t, ht8, rfl, ⟨oa2, on2, oc2, rfl⟩, hM⟩ := hrel
          obtain ⟨wm, hwm⟩ : ∃ z, z = wr := ⟨_, rfl⟩
          subst hwm
          have e0 := cell_of_heap hM.out.ord 0
          have e1 := cell_of_heap hM.out.ord 1
          simp only [List.getElem?_toArray, List.getElem?_cons_zero, List.getElem?_cons_succ] at e0 e1
          by_cases hts : t < sh
          · have hta : t < A.length := by rw [HLAL.out]; exact hts
            have htc : t < ct.length := by rw [HCL.out.1]; exact hts
            obtain ⟨la1, lc1, eL, _, hlm, _, hlc⟩ := (hM.out.last.ints hM.out.ext).open
            obtain ⟨lb, lo, rfl, hlcell⟩ := hlc t hta
            injection eL with eL1 eL2 eL3
            subst eL1 eL3
            obtain ⟨xa, hxa⟩ : ∃ z, A[t] = z := ⟨_, rfl⟩
            obtain ⟨xb, hxb⟩ : ∃ z, ct[t] = z := ⟨_, rfl⟩
            obtain ⟨cb, co, cc, eC, hcc1, hcm, hccell⟩ := HT.out.at15 t xb (by rw [List.getElem?_eq_getElem htc, hxb])
            rw [hxa] at hlcell
            have hbn := HCL.out.2.1 _ (List.getElem_mem htc)
            rw [hxb] at hbn
            have hpre := fun (j : Nat) (hj : (j : Int) ≤ xb - xa) => Ord.blk_pre A ct t j hta htc (by rw [hxa, hxb]; exact hj)
            have hnext := Ord.blk_at A ct t hta htc
            rw [hxa, hxb] at hnext
            have HPRE := Lib.hid (And.intro hpre hnext)
            injection eC with eC1 eC2 eC3
            subst eC1 eC3
            have hct : tn = sh := by rw [eC2, HCL.out.1]
            subst tn
            have HCC := Lib.hid hccell
            have hxa0 := HLAN.out _ (List.getElem_mem hta)
            rw [hxa] at hxa0
            clear hlc hxa hxb hpre hnext eL2 hccell
            go_wp2_with fail
            have HN0 := Lib.hid (show RowAt w q sh (.slice (some ⟨b, off, none⟩) N cap) (.slice oa2 on2 oc2) (.slice (some ⟨lb, lo, none⟩) sh lc) (P ++ Ord.blk 0 (A.take t) (ct.take t) ++ Ord.blkS t xa (xa + (0 : Nat))) A wm from by simpa [Ord.blkS_self] using hM.out)
            clear e0 e1 hlcell
            go_loopw [5, 9] (fun o n w5 => ∃ j : Nat, n = .int .i64 (xa + (j : Int)) ∧ (j = 0 ∨ xa + (j : Int) ≤ xb) ∧ (∃ a n c, o = .slice a n c) ∧ Hid (RowAt w q sh (.slice (some ⟨b, off, none⟩) N cap) o (.slice (some ⟨lb, lo, none⟩) sh lc) (P ++ Ord.blk 0 (A.take t) (ct.take t) ++ Ord.blkS t xa (xa + (j : Nat))) A w5)) (fun _ n _ => (xb - intOf n).toNat)
            case atStart => exact ⟨0, by simp, .inl rfl, ⟨_, _, _, rfl⟩, HN0⟩
            case round =>
              obtain ⟨j, rfl, hj, ⟨oa3, on3, oc3, rfl⟩, hK⟩ := hrel
              have e0 := cell_of_heap hK.out.ord 0
              have e1 := cell_of_heap hK.out.ord 1
              simp only [List.getElem?_toArray, List.getElem?_cons_zero, List.getElem?_cons_succ] at e0 e1
              have r2 := cellExt15 P2.out hK.out.ext
              have r3 := HCC.out wr hK.out.ext
              by_cases hjb : xa + (j : Int) < xb
              · have hsucc := Ord.blkS_succ t xa j
                have hlen : (P ++ Ord.blk 0 (A.take t) (ct.take t) ++ Ord.blkS t xa (xa + (j : Nat))).length + 1 ≤ 1000001 := by
                  have h1 := HPRE.out.1 j (by omega)
                  have h2 := HCL.out.2.2
                  rw [List.length_append, List.length_append, Ord.blkS_length, show (xa + (j : Int) - xa).toNat = j by omega]
                  omega
                obtain ⟨w6, hw6⟩ : ∃ z, wr.alloc (.cells #[.int .i64 (t : Nat), .int .i64 (xa + (j : Int))] 24) = z := ⟨_, rfl⟩
                have hE6 : Ext wr w6 := by rw [← hw6]; exact Ext.alloc _ _
                have H6 := Lib.hid (hK.out.later hE6)
                have HSL := Lib.hid (SlN.pl15 wr 24 (t : Nat) (xa + (j : Int)))
                rw [hw6] at HSL
                have hone := plFlat_one [((t : Int), xa + (j : Int))]
                have HW6 := Lib.hid hw6
                have HSU := Lib.hid hsucc
                obtain ⟨PP, hPP⟩ : ∃ z, P ++ Ord.blk 0 (A.take t) (ct.take t) ++ Ord.blkS t xa (xa + (j : Nat)) = z := ⟨_, rfl⟩
                rw [hPP] at H6 hlen
                have HPP := Lib.hid hPP
                obtain ⟨np, hnp⟩ : ∃ z, PP.length = z := ⟨_, rfl⟩
                have hrow6 := H6.out.row
                rw [hnp] at hrow6 hlen
                have HR6 := Lib.hid hrow6
                have HNP := Lib.hid hnp
                have hk1 : np + 1 ≤ maxLen := by unfold maxLen; omega
                have hk2 : (np + 1) * 16 ≤ 140737488355328 := by omega
                have hwj : IntKind.i64.wrap (xa + (j : Int) + 1) = xa + (j : Int) + 1 := IntWalk.i64_in _ (by omega)
                clear hE6 hw6 hsucc hPP hnp hrow6
                go_wp2_with (first
                  | (refine opAny15 (.slice (some ⟨wr.heap.size, 0, none⟩) 1 1) (o := .buildSlice 42 _ _) rfl (by kernel_rfl) (w' := w6) (by rw [← HW6.out]; kernel_rfl) ?_)
                  | (at_builtin; refine wpList_appN rfl (.tmp 48) (.tmp 52) te rfl rfl rfl HR6.out HSL.out hone hk1 hk2 H6.out.ext.size ?_; intro v9 w9 hown9 hg9; obtain ⟨a9, n9, c9, rfl⟩ := ownSlice hown9))
                have hfin : RowAt w q sh (.slice (some ⟨b, off, none⟩) N cap) (.slice a9 n9 c9) (.slice (some ⟨lb, lo, none⟩) sh lc) (PP ++ [((t : Int), xa + (j : Int))]) A w9 := H6.out.one hg9 (by rw [HNP.out]; exact hown9)
                rw [← HPP.out, List.append_assoc, ← HSU.out] at hfin
                go_roundw
                case rel => exact ⟨j + 1, by congr 1; omega, .inr (by omega), ⟨_, _, _, rfl⟩, Lib.hid (by rw [show xa + ((j + 1 : Nat) : Int) = xa + (j : Int) + 1 by omega]; exact hfin)⟩
                case measure => simp [intOf]; omega
              · have hdone : Ord.blkS t xa (xa + (j : Nat)) = Ord.blkS t xa xb := by
                  unfold Ord.blkS
                  rw [show (xa + (j : Int) - xa).toNat = (xb - xa).toNat by omega]
                have hK2 := hK.out
                rw [hdone, List.append_assoc, ← HPRE.out.2] at hK2
                have HK2 := Lib.hid hK2
                clear hdone hK2
                go_wp2_with fail
                go_roundw
                case rel => exact ⟨t + 1, by omega, by simp, ⟨_, _, _, rfl⟩, HK2⟩
                case measure => simp [intOf]; omega
          · obtain rfl : t = sh := by omega
            have hall : A.take t = A ∧ ct.take t = ct := ⟨List.take_of_length_le (by rw [HLAL.out]; exact Nat.le_refl _), List.take_of_length_le (by rw [HCL.out.1]; exact Nat.le_refl _)⟩
            have hM2 := hM.out
            rw [hall.1, hall.2] at hM2
            have r2 := cellExt15 P2.out hM.out.ext
            have hct : tn = t := by
              obtain ⟨_, _, e, _⟩ := HT.out.open
              injection e with _ e _
              rw [e, HCL.out.1]
            have hfin : RowAt w q t (.slice (some ⟨b, off, none⟩) N cap) (.slice oa2 on2 oc2) (.slice ta t tc) (Ord.rowE (List.replicate t 0) (l.take (k + 1))) (Ord.lastE (List.replicate t 0) (l.take (k + 1))) wm := by
              rw [HP.out.1, HP.out.2]
              refine ⟨hM2.ord, hM2.row, .inr ?_, hM2.ext⟩
              rw [← hct]
              exact HT.out
            have HFIN := Lib.hid hfin
            rw [hct] at r2
            clear hall hM2 hfin hct
            go_wp2_with fail
            go_roundw
            case rel => exact ⟨k + 1, by omega, by simp, ⟨_, _, _, rfl⟩, ⟨_, _, rfl⟩, HFIN⟩
            case measure => simp [intOf]; omega
      · have hstep : Ord.rowE A [⟨m0, kd, ct, m3, m4, m5⟩] = [] ∧ Ord.lastE A [⟨m0, kd, ct, m3, m4, m5⟩] = A := by simp [Ord.rowE, Ord.lastE, hkd]
        rw [hstep.1, hstep.2, List.append_nil] at HP
        have hfin := hI.out
        rw [← HP.out.1] at hfin
        have hkn : ¬ ((kd : Int) = 1) := hkd
        have HFIN := Lib.hid (show RowAt w q sh (.slice (some ⟨b, off, none⟩) N cap) (.slice oa on oc) (.slice la sh lc) (Ord.rowE (List.replicate sh 0) (l.take (k + 1))) (Ord.lastE (List.replicate sh 0) (l.take (k + 1))) ws from by rw [HP.out.2]; exact hfin)
        clear hstep hfin hll1
        go_wp2_with fail
        go_roundw
        case rel => exact ⟨k + 1, by omega, by simp, ⟨_, _, _, rfl⟩, ⟨_, _, rfl⟩, HFIN⟩
        case measure => simp [intOf]; omega
    · have hall : l.take k = l := List.take_of_length_le (by rw [HN.out]; omega)
      have hrow := hI.out.row
      rw [hall, HR.out] at hrow
      have HRW := Lib.hid hrow
      clear hall hrow e0 e1
      go_wp2_with fail
      go_ret
      exact ⟨_, rfl, HRW.out, hI.out.ext⟩

/-- What the document's Find tells. -/
def GivesRefFind (R : List (Int × Int)) (s t : Int) (w : World) (e : Ending) (w' : World) : Prop :=
  ∃ k is, e = .returned (.tuple #[.int .i64 k, .bool is]) ∧ (match is with | true => ∃ i : Nat, k = (i : Int) ∧ R[i]? = some (s, t) | false => k = 0 ∧ ∀ i : Nat, R[i]? ≠ some (s, t)) ∧ Ext w w'
set_option maxHeartbeats 8000000 in
theorem refFind15_any (sh : Nat) (v : Value) (l : List Ent.E) (s t : Int) (w : World) (h8 : sh ≤ 8) (h1 : 1 ≤ sh) (hv : Ents w v l) (hl : ∀ e ∈ l, e.kind = 1 → e.cut.length = sh ∧ ∀ x ∈ e.cut, 0 ≤ x ∧ x ≤ 1099511627776) (hR : (Ord.rowE (List.replicate sh 0) l).length ≤ 1000000) (hll : l.length ≤ 1000000) :
    Calls Try.prog 12 #[.agg #[.int .i64 (sh : Nat), v], .agg #[.int .i64 s, .int .i64 t]] w (GivesRefFind (Ord.rowE (List.replicate sh 0) l) s t w) := by
  obtain ⟨a, cap, rfl, hcap, hmax⟩ := hv.shape
  obtain ⟨q, hq⟩ : ∃ q, w.heap.size = q := ⟨_, rfl⟩
  obtain ⟨w1, hw1⟩ : ∃ z, w.alloc (.cells #[.int .i64 (sh : Nat), .slice a l.length cap] 33) = z := ⟨_, rfl⟩
  obtain ⟨w2, hw2⟩ : ∃ z, w1.alloc (.cells #[.int .i64 s, .int .i64 t] 24) = z := ⟨_, rfl⟩
  have hs1 : w1.heap.size = q + 1 := by rw [← hw1, World.size_alloc, hq]
  have hE1 : Ext w w1 := by rw [← hw1]; exact Ext.alloc _ _
  have hE2 : Ext w1 w2 := by rw [← hw2]; exact Ext.alloc _ _
  have hB1 : w1.heap[q]? = some (.cells #[.int .i64 (sh : Nat), .slice a l.length cap] 33 (0, 0)) := by rw [← hw1, ← hq]; exact heap_alloc_new _ _
  have hB2 : w2.heap[q + 1]? = some (.cells #[.int .i64 s, .int .i64 t] 24 (0, 0)) := by rw [← hw2, ← hs1]; exact heap_alloc_new _ _
  have HQ := Lib.hid (And.intro hq (And.intro hw1 (And.intro hs1 hw2)))
  have HE2 := Lib.hid (hE1.trans hE2)
  have HB := Lib.hid hB2
  have hb1 := heap_ext hB1 hE2
  have c0 := cell_of_heap hb1 0
  have c1 := cell_of_heap hb1 1
  simp only [List.getElem?_toArray, List.getElem?_cons_zero, List.getElem?_cons_succ] at c0 c1
  have HRow := Lib.hid (refRow15_any sh _ l w2 h8 h1 (hv.below HE2.out) hl hR hll)
  obtain ⟨R, hRR⟩ : ∃ z, Ord.rowE (List.replicate sh 0) l = z := ⟨_, rfl⟩
  rw [hRR] at HRow hR ⊢
  obtain ⟨N, hN⟩ : ∃ z, l.length = z := ⟨_, rfl⟩
  rw [hN] at HRow HQ c1 ⊢
  obtain ⟨n, hn⟩ : ∃ z, R.length = z := ⟨_, rfl⟩
  have HN := Lib.hid hn
  have hn6 : n ≤ 1000000 := by omega
  clear hq hw1 hw2 hs1 hE1 hE2 hB1 hB2 hb1 hv hl hRR hN hn
  go_enter Try.func12, Try.ntmps12
  go_upto_region 1 with fail
  rw [HQ.out.1, HQ.out.2.1, HQ.out.2.2.2]
  go_wp2_with fail
  refine HRow.out.mono ?_
  rintro e w3 ⟨u, rfl, hu, hE3⟩
  rw [HN.out] at hu
  obtain ⟨ua, uc, rfl⟩ : ∃ ua uc, u = .slice ua n uc := by
    obtain ⟨xa, xn, xc, rfl⟩ := ownSlice hu
    rw [ownLen hu]
    exact ⟨_, _, rfl⟩
  have HU := Lib.hid (SlN.ofOwn hu)
  have HB3 := Lib.hid (heap_ext HB.out hE3)
  have HE3 := Lib.hid (HE2.out.trans hE3)
  clear hu hE3 c0 c1
  go_wp2_with fail
  go_loopw [7] (fun i wr => ∃ k : Nat, k ≤ n ∧ i = .int .i64 k ∧ Hid (Ext w3 wr ∧ ∀ i, i < k → R[i]? ≠ some (s, t))) (fun i _ => n - (intOf i).toNat)
  case atStart => exact ⟨0, by omega, rfl, Lib.hid ⟨Ext.refl _, fun i hi => absurd hi (by omega)⟩⟩
  case round =>
    obtain ⟨k, hk, rfl, hI⟩ := hrel
    by_cases hlt : k < n
    · have hkl : k < R.length := by rw [HN.out]; exact hlt
      obtain ⟨b1, o1, c1, e1, p0, p1⟩ := Places.at15 (HU.out.below hI.out.1) k hkl
      injection e1 with e1 _ e3
      subst e1 e3
      obtain ⟨⟨x, y⟩, hxy⟩ : ∃ z, R[k] = z := ⟨_, rfl⟩
      rw [hxy] at p0 p1
      simp only at p0 p1
      have hget : R[k]? = some (x, y) := by rw [List.getElem?_eq_getElem hkl, hxy]
      have HGET := Lib.hid hget
      have P0 := Lib.hid p0
      have P1 := Lib.hid p1
      have HBR := Lib.hid (heap_ext HB3.out hI.out.1)
      clear p0 p1 hxy hget
      by_cases heq : x = s ∧ y = t
      · obtain ⟨rfl, rfl⟩ := heq
        go_wp2_with fail
        refine wp_region_facts (by kernel_rfl) Ext (fun iop v w => match iop with
            | 0 => v = .slice (some ⟨b1, o1, none⟩) n uc
            | 1 => v = .int .i64 (k : Nat)
            | 2 => v = .pointer (some ⟨b1, o1 + k * 2, none⟩)
            | 3 => v = .agg #[.int .i64 x, .int .i64 y]
            | 4 => v = .agg #[.int .i64 x, .int .i64 y]
            | _ => v = .bool true
            ) (by kernel_rfl) (fun _ _ _ h k => Ext.trans h k) (fun a => Ext.refl a) (Ext.drew _) ?_ ?_ ?_
        · intro iop v wa wb hF hL
          iterate 5 (rcases iop with _ | iop; exact hF)
          exact hF
        · refine Obls.cons ?_ (Obls.cons ?_ (Obls.cons ?_ (Obls.cons ?_ (Obls.cons ?_ (Obls.cons ?_ (Obls.nil))))))
          · intro ev wy hp hl hk hd
            have e6 : ev _ = .slice (some ⟨b1, o1, none⟩) n uc := hk 6 (by decide)
            exact Yield.mv rfl ⟨Ext.refl _, e6⟩
          · intro ev wy hp hl hk hd
            have e7 : ev _ = .int .i64 (k : Nat) := hk 7 (by decide)
            exact Yield.mv rfl ⟨Ext.refl _, e7⟩
          · intro ev wy hp hl hk hd
            have e19 : ev _ = _ := hk 19 (by decide)
            have e20 : ev _ = _ := hk 20 (by decide)
            exact Yield.op (v := .pointer (some ⟨b1, o1 + k * 2, none⟩)) (w' := wy) (by simp [execOp, go_sem, e19, e20]; omega) ⟨Ext.refl _, rfl⟩
          · intro ev wy hp hl hk hd
            have e21 : ev _ = _ := hk 21 (by decide)
            exact Yield.op (v := .agg #[.int .i64 x, .int .i64 y]) (w' := wy) (by simp [execOp, go_sem, e21, cellExt15 P0.out hl, cellExt15 P1.out hl]) ⟨Ext.refl _, rfl⟩
          · intro ev wy hp hl hk hd
            have e3 : ev _ = .pointer (some ⟨q + 1, 0, none⟩) := hk 3 (by decide)
            exact Yield.op (v := .agg #[.int .i64 x, .int .i64 y]) (w' := wy) (by simp [execOp, go_sem, e3, cell_of_heap (heap_ext HBR.out hl) 0, cell_of_heap (heap_ext HBR.out hl) 1]) ⟨Ext.refl _, rfl⟩
          · intro ev wy hp hl hk hd
            have e22 : ev _ = _ := hk 22 (by decide)
            have e23 : ev _ = _ := hk 23 (by decide)
            exact Yield.op (v := .bool true) (w' := wy) (by simp [execOp, go_sem, e22, e23]) ⟨Ext.refl _, rfl⟩
        · intro vals wz hz hv
          have g19 : vals 0 = _ := hv 0 (by decide)
          have g20 : vals 1 = _ := hv 1 (by decide)
          have g21 : vals 2 = _ := hv 2 (by decide)
          have g22 : vals 3 = _ := hv 3 (by decide)
          have g23 : vals 4 = _ := hv 4 (by decide)
          have g24 : vals 5 = _ := hv 5 (by decide)
          clear hv
          simp only [putAll, Act.put, List.setIfInBounds_toArray, List.set_cons_zero, List.set_cons_succ, g19, g20, g21, g22, g23, g24]
          clear g19 g20 g21 g22 g23 g24
          have HZ := Lib.hid (HE3.out.trans (hI.out.1.trans hz))
          clear hz
          go_wp2_with fail
          go_ret2
          exact ⟨k, true, rfl, ⟨k, rfl, HGET.out⟩, HZ.out⟩
      · have hne : ((x == s) && (y == t)) = false := by
          cases h : ((x == s) && (y == t)) with
          | false => rfl
          | true =>
            simp only [Bool.and_eq_true, beq_iff_eq] at h
            exact absurd h heq
        have HNE := Lib.hid hne
        have HQE := Lib.hid heq
        clear hne heq
        go_wp2_with fail
        refine wp_region_facts (by kernel_rfl) Ext (fun iop v w => match iop with
            | 0 => v = .slice (some ⟨b1, o1, none⟩) n uc
            | 1 => v = .int .i64 (k : Nat)
            | 2 => v = .pointer (some ⟨b1, o1 + k * 2, none⟩)
            | 3 => v = .agg #[.int .i64 x, .int .i64 y]
            | 4 => v = .agg #[.int .i64 s, .int .i64 t]
            | _ => v = .bool false
            ) (by kernel_rfl) (fun _ _ _ h k => Ext.trans h k) (fun a => Ext.refl a) (Ext.drew _) ?_ ?_ ?_
        · intro iop v wa wb hF hL
          iterate 5 (rcases iop with _ | iop; exact hF)
          exact hF
        · refine Obls.cons ?_ (Obls.cons ?_ (Obls.cons ?_ (Obls.cons ?_ (Obls.cons ?_ (Obls.cons ?_ (Obls.nil))))))
          · intro ev wy hp hl hk hd
            have e6 : ev _ = .slice (some ⟨b1, o1, none⟩) n uc := hk 6 (by decide)
            exact Yield.mv rfl ⟨Ext.refl _, e6⟩
          · intro ev wy hp hl hk hd
            have e7 : ev _ = .int .i64 (k : Nat) := hk 7 (by decide)
            exact Yield.mv rfl ⟨Ext.refl _, e7⟩
          · intro ev wy hp hl hk hd
            have e19 : ev _ = _ := hk 19 (by decide)
            have e20 : ev _ = _ := hk 20 (by decide)
            exact Yield.op (v := .pointer (some ⟨b1, o1 + k * 2, none⟩)) (w' := wy) (by simp [execOp, go_sem, e19, e20]; omega) ⟨Ext.refl _, rfl⟩
          · intro ev wy hp hl hk hd
            have e21 : ev _ = _ := hk 21 (by decide)
            exact Yield.op (v := .agg #[.int .i64 x, .int .i64 y]) (w' := wy) (by simp [execOp, go_sem, e21, cellExt15 P0.out hl, cellExt15 P1.out hl]) ⟨Ext.refl _, rfl⟩
          · intro ev wy hp hl hk hd
            have e3 : ev _ = .pointer (some ⟨q + 1, 0, none⟩) := hk 3 (by decide)
            exact Yield.op (v := .agg #[.int .i64 s, .int .i64 t]) (w' := wy) (by simp [execOp, go_sem, e3, cell_of_heap (heap_ext HBR.out hl) 0, cell_of_heap (heap_ext HBR.out hl) 1]) ⟨Ext.refl _, rfl⟩
          · intro ev wy hp hl hk hd
            have e22 : ev _ = _ := hk 22 (by decide)
            have e23 : ev _ = _ := hk 23 (by decide)
            exact Yield.op (v := .bool false) (w' := wy) (by simp [execOp, go_sem, e22, e23]; exact fun h1 h2 => HQE.out ⟨h1, h2⟩) ⟨Ext.refl _, rfl⟩
        · intro vals wz hz hv
          have g19 : vals 0 = _ := hv 0 (by decide)
          have g20 : vals 1 = _ := hv 1 (by decide)
          have g21 : vals 2 = _ := hv 2 (by decide)
          have g22 : vals 3 = _ := hv 3 (by decide)
          have g23 : vals 4 = _ := hv 4 (by decide)
          have g24 : vals 5 = _ := hv 5 (by decide)
          clear hv
          simp only [putAll, Act.put, List.setIfInBounds_toArray, List.set_cons_zero, List.set_cons_succ, g19, g20, g21, g22, g23, g24]
          clear g19 g20 g21 g22 g23 g24
          have HZ := Lib.hid (hI.out.1.trans hz)
          clear hz
          go_wp2_with fail
          go_roundw
          case rel =>
            refine ⟨k + 1, by omega, by simp, Lib.hid ⟨HZ.out, fun i hi => ?_⟩⟩
            rcases Nat.lt_or_ge i k with h | h
            · exact hI.out.2 i h
            · obtain rfl : i = k := by omega
              rw [HGET.out]
              intro e
              injection e with e
              injection e with e1 e2
              exact HQE.out ⟨e1, e2⟩
          case measure => simp [intOf]; omega
    · obtain rfl : k = n := by omega
      go_wp2_with fail
      go_ret2
      refine ⟨0, false, rfl, ⟨rfl, fun i => ?_⟩, HE3.out.trans hI.out.1⟩
      rcases Nat.lt_or_ge i k with h | h
      · exact hI.out.2 i h
      · rw [List.getElem?_eq_none (by rw [HN.out]; exact h)]
        intro e
        cases e
end Go.Proofs.Ytnldbdgchkknpaa
