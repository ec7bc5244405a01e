/-
  Merged: Layer 14, the document's: SameAll of any two rows, a register, Find.
-/
import Derived.Test.YtkpcmedmiiohnaaBsEnt
import Derived.Test.YtkpcmedmiiohnaaBsRgM

namespace Go.Proofs.Ytkpcmedmiiohnaa
set_option linter.unusedSimpArgs false
set_option linter.unusedVariables false
set_option maxRecDepth 100000
open Go.RowKit
/- Layer 14, the document's: SameAll of any two rows, a register, Find. -/
def TellsIff14 (p : Prop) (e : Ending) : Prop := ∃ b, e = .returned (.bool b) ∧ (b = true ↔ p)
set_option maxHeartbeats 4000000 in
theorem refSameAll14 (v u : Value) (l m : List Ent.E) (w : World) (hv : Ents w v l) (hu : Ents w u m) :
    Calls Try.prog 28 #[v, u] w fun e w' => TellsIff14 (l = m) e ∧ Ext w w' := by
  have HV := Lib.hid hv
  have HU := Lib.hid hu
  obtain ⟨a, ca, rfl, h1, h2, h3, _⟩ := hv
  obtain ⟨b, cb, rfl, k1, k2, k3, _⟩ := hu
  obtain ⟨n, hn⟩ : ∃ n, l.length = n := ⟨_, rfl⟩
  obtain ⟨n2, hn2⟩ : ∃ n, m.length = n := ⟨_, rfl⟩
  have hnm : n ≤ 9223372036854775807 := by unfold maxLen at h2; omega
  have hnm2 : n2 ≤ 9223372036854775807 := by unfold maxLen at k2; omega
  rw [hn] at HV h1 ⊢
  rw [hn2] at HU k1 ⊢
  have HN := Lib.hid (And.intro hn hn2)
  clear hn hn2 h2 k2 h3 k3
  by_cases hne : n = n2
  case neg =>
    have hne2 : ¬ ((n : Int) = (n2 : Int)) := by omega
    go_enter Try.func28, Try.ntmps28
    go_wp2_with fail
    go_ret
    exact ⟨⟨false, rfl, by simp; intro h; subst h; exact hne (HN.out.1.symm.trans HN.out.2)⟩, Ext.refl _⟩
  subst hne
  go_enter Try.func28, Try.ntmps28
  go_wp2_with fail
  go_loopw [5] (fun i wr => ∃ k : Nat, k ≤ n ∧ i = .int .i64 k ∧ Hid (Ext w wr ∧ l.take k = m.take k)) (fun i _ => n - (intOf i).toNat)
  case atStart => exact ⟨0, by omega, rfl, Lib.hid ⟨Ext.refl _, rfl⟩⟩
  case round =>
    obtain ⟨k, hk, rfl, hI⟩ := hrel
    by_cases hlt : k < n
    · have hkl : k < l.length := by rw [HN.out.1]; exact hlt
      have hkm : k < m.length := by rw [HN.out.2]; exact hlt
      have hEd := hI.out.1.trans (Ext.drew wr)
      obtain ⟨_, _, e1, _, _, _, hc⟩ := HV.out.below hEd
      obtain ⟨ab, ao, rfl, ta, p0, p1, p2, p3, p4, p5, hta⟩ := hc k hkl
      injection e1 with e1 e2 e3
      subst e1
      obtain ⟨_, _, f1, _, _, _, hd⟩ := HU.out.below hEd
      obtain ⟨bb, bo, rfl, tb, q0, q1, q2, q3, q4, q5, htb⟩ := hd k hkm
      injection f1 with f1 f2 f3
      subst f1
      obtain ⟨a1, a2, a3, rfl⟩ := hta.isSlice
      obtain ⟨b1, b2, b3, rfl⟩ := htb.isSlice
      have hsame := refSame5_any (entV (.slice a1 a2 a3) l[k]) (entV (.slice b1 b2 b3) m[k]) l[k] m[k] wr.drew ⟨_, rfl, hta⟩ ⟨_, rfl, htb⟩
      simp only [entV] at hsame
      obtain ⟨E, hE⟩ : ∃ z, l[k] = z := ⟨_, rfl⟩
      obtain ⟨M, hM⟩ : ∃ z, m[k] = z := ⟨_, rfl⟩
      rw [hE] at hsame p0 p1 p3 p4 p5
      rw [hM] at hsame q0 q1 q3 q4 q5
      have HEM := Lib.hid (show ∃ (h : k < l.length) (h2 : k < m.length), l[k] = E ∧ m[k] = M from ⟨hkl, hkm, hE, hM⟩)
      obtain ⟨y0, hy0⟩ : ∃ q : Int, E.number = q := ⟨_, rfl⟩
      obtain ⟨y1, hy1⟩ : ∃ q : Int, E.kind = q := ⟨_, rfl⟩
      obtain ⟨y3, hy3⟩ : ∃ q : Int, E.tag = q := ⟨_, rfl⟩
      obtain ⟨y4, hy4⟩ : ∃ q : Int, E.term = q := ⟨_, rfl⟩
      obtain ⟨y5, hy5⟩ : ∃ q : Int, E.pos = q := ⟨_, rfl⟩
      obtain ⟨x0, hx0⟩ : ∃ q : Int, M.number = q := ⟨_, rfl⟩
      obtain ⟨x1, hx1⟩ : ∃ q : Int, M.kind = q := ⟨_, rfl⟩
      obtain ⟨x3, hx3⟩ : ∃ q : Int, M.tag = q := ⟨_, rfl⟩
      obtain ⟨x4, hx4⟩ : ∃ q : Int, M.term = q := ⟨_, rfl⟩
      obtain ⟨x5, hx5⟩ : ∃ q : Int, M.pos = q := ⟨_, rfl⟩
      rw [hy0, hy1, hy3, hy4, hy5, hx0, hx1, hx3, hx4, hx5] at hsame
      rw [hy0] at p0
      rw [hy1] at p1
      rw [hy3] at p3
      rw [hy4] at p4
      rw [hy5] at p5
      rw [hx0] at q0
      rw [hx1] at q1
      rw [hx3] at q3
      rw [hx4] at q4
      rw [hx5] at q5
      obtain ⟨ok, hok⟩ : ∃ z, Ent.alike E M = z := ⟨_, rfl⟩
      rw [hok] at hsame
      have HSAME := Lib.hid hsame
      have HOK := Lib.hid hok
      clear hsame hc hd e2 e3 f2 f3 hta htb hy0 hy1 hy3 hy4 hy5 hx0 hx1 hx3 hx4 hx5 hE hM hok hkl hkm
      cases ok with
      | true =>
        go_wp2_with fail
        go_region_law (go_simp; go_at_call 52; refine HSAME.out.mono ?_; rintro e w4 ⟨rfl, hE4⟩)
        all_goals
          have hE5 := hEd.trans hE4
          clear hE4 p0 p1 p2 p3 p4 p5 q0 q1 q2 q3 q4 q5
          go_wp2_with fail
          go_roundw
          case rel =>
            refine ⟨k + 1, by omega, by go_num, Lib.hid ⟨hE5, ?_⟩⟩
            obtain ⟨hkl, hkm, hE, hM⟩ := HEM.out
            rw [List.take_succ_eq_append_getElem hkl, List.take_succ_eq_append_getElem hkm, hI.out.2, hE, hM, (Ent.alike_iff _ _).1 HOK.out]
          case measure => simp [intOf]; omega
      | false =>
        go_wp2_with fail
        go_region_law (go_simp; go_at_call 52; refine HSAME.out.mono ?_; rintro e w4 ⟨rfl, hE4⟩)
        all_goals
          have hE5 := hEd.trans hE4
          clear hE4 p0 p1 p2 p3 p4 p5 q0 q1 q2 q3 q4 q5
          go_wp2_with fail
          go_ret
          refine ⟨⟨false, rfl, by
            simp
            intro h
            obtain ⟨hkl, hkm, hE, hM⟩ := HEM.out
            subst h
            have : E = M := hE.symm.trans hM
            rw [this, Ent.alike_self] at HOK
            exact absurd HOK.out (by decide)⟩, hE5⟩
    · obtain rfl : k = n := by omega
      go_wp2_with fail
      go_ret
      refine ⟨⟨true, rfl, ?_⟩, hI.out.1⟩
      have h1 := hI.out.2
      rw [List.take_of_length_le (by rw [HN.out.1]; exact Nat.le_refl _), List.take_of_length_le (by rw [HN.out.2]; exact Nat.le_refl _)] at h1
      simp [h1]
/-- A configuration's row. -/
structure RC14 where
  s : Value
  d : Value
  c : Term.C
def RC14.cells (r : RC14) : List Value := [.int .i64 r.c.term, r.s, r.d]
def flatC14 (L : List RC14) : List Value := L.flatMap RC14.cells
theorem flatC14_append (L M : List RC14) : flatC14 (L ++ M) = flatC14 L ++ flatC14 M := by simp [flatC14]
theorem flatC14_at : ∀ (L : List RC14) (i j : Nat) (hi : i < L.length), j < 3 → (flatC14 L)[i * 3 + j]? = (L[i].cells)[j]? := by
  intro L
  induction L with
  | nil => intro i j hi; exact absurd hi (by simp)
  | cons r L ih =>
    intro i j hi hj
    unfold flatC14
    rw [List.flatMap_cons]
    cases i with
    | zero => rw [Nat.zero_mul, Nat.zero_add, List.getElem?_append_left (by simpa [RC14.cells] using hj)]; rfl
    | succ i =>
      rw [List.getElem?_append_right (by simp [RC14.cells]; omega)]
      have e : (i + 1) * 3 + j - r.cells.length = i * 3 + j := by simp [RC14.cells]; omega
      rw [e]
      exact ih i j (by simpa using hi) hj
/-- The document's register: rows of its own, of what came in. -/
structure RefReg (W w : World) (vL vT : Value) (R : List Reg.Row) : Prop where
  confs : ∃ L : List RC14, L.map (·.c) = R.map (·.c) ∧ w.ownsRow 0 25 3 vL L.length (flatC14 L) ∧ ∀ r ∈ L, Ints W r.s r.c.seqs ∧ IRows W r.d r.c.shards
  tails : ∃ T : List (Value × List Ent.E), T.map (·.2) = R.dropLast.map (·.tail) ∧ w.ownsRow 0 39 1 vT T.length (T.map (·.1)) ∧ ∀ r ∈ T, Ents W r.1 r.2
theorem RefReg.keeps {W w w' : World} {vL vT : Value} {R : List Reg.Row} (h : RefReg W w vL vT R) (hk : Keeps14 w w') : RefReg W w' vL vT R := by
  obtain ⟨⟨L, h1, h2, h3⟩, T, h4, h5, h6⟩ := h
  exact ⟨⟨L, h1, Keeps14.row h2 hk (by decide) (by decide), h3⟩, T, h4, Keeps14.row h5 hk (by decide) (by decide), h6⟩
theorem RefReg.ext {W w w' : World} {vL vT : Value} {R : List Reg.Row} (h : RefReg W w vL vT R) (hE : Ext w w') : RefReg W w' vL vT R := h.keeps (Keeps14.ext hE)
/-- Its configurations, as they lie. -/
theorem RefReg.openL {W w : World} {vL vT : Value} {R : List Reg.Row} (h : RefReg W w vL vT R) (hne : 0 < R.length) : ∃ g c, vL = .slice (some ⟨g, 0, none⟩) R.length c ∧ R.length ≤ c ∧ c ≤ 9223372036854775807 ∧
    ∀ i (hi : i < R.length), ∃ a1 n1 c1 a2 n2 c2, w.cell? ⟨g, i * 3, none⟩ = some (.int .i64 R[i].c.term) ∧ w.cell? ⟨g, i * 3 + 1, none⟩ = some (.slice a1 n1 c1) ∧ w.cell? ⟨g, i * 3 + 2, none⟩ = some (.slice a2 n2 c2) ∧ n2 = R[i].c.shards.length ∧ Ints W (.slice a1 n1 c1) R[i].c.seqs ∧ IRows W (.slice a2 n2 c2) R[i].c.shards := by
  obtain ⟨⟨L, h1, h2, h3⟩, _⟩ := h
  have hl : L.length = R.length := by have := congrArg List.length h1; simpa using this
  rcases h2.2 with ⟨_, h5⟩ | ⟨g, cap, cur, rfl, hb, hg, hle, hmx, hcs, htk⟩
  · omega
  · unfold maxLen at hmx
    refine ⟨g, cap, by rw [hl], by omega, by omega, fun i hi => ?_⟩
    have hiL : i < L.length := by omega
    have hx : L[i].c = R[i].c := by
      have : (L.map (·.c))[i]'(by simpa using hiL) = (R.map (·.c))[i]'(by simpa using hi) := by simp only [h1]
      simpa using this
    have key : ∀ j, j < 3 → w.cell? ⟨g, i * 3 + j, none⟩ = (L[i].cells)[j]? := fun j hj => by
      rw [h2.cellAt (i * 3 + j) (by omega), flatC14_at L i j hiL hj]
    obtain ⟨r1, r2⟩ := h3 _ (List.getElem_mem hiL)
    obtain ⟨a1, n1, c1, e1⟩ := r1.isSlice
    obtain ⟨a2, c2, e2, _⟩ := r2.open
    rw [hx] at r1 r2 e2
    rw [e1] at r1
    rw [e2] at r2
    refine ⟨a1, n1, c1, a2, _, c2, ?_, ?_, ?_, rfl, r1, r2⟩
    · rw [← hx]; exact key 0 (by omega)
    · rw [← e1]; exact key 1 (by omega)
    · rw [← e2]; exact key 2 (by omega)
/-- Its tails, as they lie. -/
theorem RefReg.openT {W w : World} {vL vT : Value} {R : List Reg.Row} (h : RefReg W w vL vT R) : ∃ a c, vT = .slice a (R.length - 1) c ∧ R.length - 1 ≤ c ∧ c ≤ 9223372036854775807 ∧
    ∀ i (hi : i + 1 < R.length), ∃ g a1 n1 c1, a = some ⟨g, 0, none⟩ ∧ w.cell? ⟨g, i, none⟩ = some (.slice a1 n1 c1) ∧ Ents W (.slice a1 n1 c1) R[i].tail := by
  obtain ⟨_, T, h4, h5, h6⟩ := h
  have hl : T.length = R.length - 1 := by have := congrArg List.length h4; simpa using this
  obtain ⟨a, n, c, rfl⟩ := ownSlice h5
  have hn := ownLen h5
  obtain ⟨_, _, e, h7, h8, _⟩ := SlN.ofOwn h5
  injection e with e1 e2 e3
  subst e3
  unfold maxLen at h8
  refine ⟨a, c, by rw [hn, hl], by omega, by omega, fun i hi => ?_⟩
  have hiT : i < T.length := by omega
  have hx : T[i].2 = R[i].tail := by
    have : (T.map (·.2))[i]'(by simpa using hiT) = (R.dropLast.map (·.tail))[i]'(by simp; omega) := by simp only [h4]
    simpa using this
  have hm := h6 _ (List.getElem_mem hiT)
  obtain ⟨a1, c1, es, _⟩ := hm.shape
  rcases h5.2 with ⟨_, h9⟩ | ⟨g, cap, cur, e, hb, hg, hle, hmx, hcs, htk⟩
  · omega
  · injection e with e4 e5 e6
    subst e4 e5 e6
    have hc := World.ownsRow.cellAt h5 i (by omega)
    rw [List.getElem?_map, List.getElem?_eq_getElem hiT, Option.map_some, es] at hc
    rw [es, hx] at hm
    rw [hx] at hc
    exact ⟨g, a1, _, c1, rfl, hc, hm⟩
/-- The number of a term's row, or -1. -/
def Reg.at_ (R : List Reg.Row) (t : Int) : Int := match Reg.where_ R t with | some i => (i : Int) | none => -1
set_option maxHeartbeats 4000000 in
theorem refFind14_any {W w : World} {vL vT : Value} {R : List Reg.Row} (t : Int) (h : RefReg W w vL vT R) (hk : Reg.Ok R) :
    Calls Try.prog 25 #[.agg #[vL, vT], .int .i64 t] w fun e w' => e = .returned (.int .i64 (Reg.at_ R t)) ∧ Ext w w' := by
  obtain ⟨g, c, rfl, hnc, hcm, hc⟩ := h.openL hk.ne
  obtain ⟨ta, tc, rfl, _⟩ := h.openT
  obtain ⟨n, hn⟩ : ∃ z, R.length = z := ⟨_, rfl⟩
  have HN := Lib.hid hn
  have HC := Lib.hid hc
  have HK := Lib.hid hk
  rw [hn] at hnc ⊢
  obtain ⟨w1, hw1⟩ : ∃ z, w.alloc (.cells #[.slice (some ⟨g, 0, none⟩) n c, .slice ta (n - 1) tc] 38) = z := ⟨_, rfl⟩
  obtain ⟨q, hq⟩ : ∃ z, w.heap.size = z := ⟨_, rfl⟩
  have hE1 : Ext w w1 := by rw [← hw1]; exact Ext.alloc _ _
  have hB1 : w1.heap[q]? = some (.cells #[.slice (some ⟨g, 0, none⟩) n c, .slice ta (n - 1) tc] 38 (0, 0)) := by rw [← hw1, ← hq]; exact heap_alloc_new _ _
  have HW := Lib.hid (And.intro hw1 hq)
  have HE1 := Lib.hid hE1
  have d0 := cell_of_heap hB1 0
  simp only [List.getElem?_toArray, List.getElem?_cons_zero] at d0
  obtain ⟨nm1, hnm1⟩ : ∃ z, n - 1 = z := ⟨_, rfl⟩
  rw [hnm1] at HW ⊢
  clear hn hc hk hw1 hq hE1 hB1 h hnm1
  go_enter Try.func25, Try.ntmps25
  go_upto_region 1 with fail
  rw [HW.out.1, HW.out.2]
  go_wp2_with fail
  go_loopw [5] (fun i wr => ∃ k : Nat, k ≤ n ∧ i = .int .i64 k ∧ w1 = wr ∧ Hid (∀ j (hj : j < R.length), j < k → R[j].c.term ≠ t)) (fun i _ => n - (intOf i).toNat)
  case atStart => exact ⟨0, by omega, rfl, rfl, Lib.hid fun j _ h => absurd h (by omega)⟩
  case round =>
    obtain ⟨k, hkn, rfl, hww, hI⟩ := hrel
    subst hww
    by_cases hlt : k < n
    · have hkR : k < R.length := by rw [HN.out]; exact hlt
      obtain ⟨a1, n1, c1, a2, n2, c2, k0, _⟩ := HC.out k hkR
      have k0' := cellExt HE1.out k0
      have hterm := HK.out.term k hkR
      obtain ⟨T, hT⟩ : ∃ z, R[k].c.term = z := ⟨_, rfl⟩
      rw [hT] at k0' hterm
      have HT := Lib.hid (show ∃ h : k < R.length, R[k].c.term = T from ⟨hkR, hT⟩)
      clear k0 hT
      by_cases he : T = t
      · subst he
        go_wp2_with fail
        go_ret
        refine ⟨?_, HE1.out⟩
        have hcur : Reg.current R = Reg.first R + (R.length : Int) - 1 := rfl
        obtain ⟨i, hi, hw, _, ht⟩ := HK.out.look_some (t := T) (by omega) (by omega)
        have : i = k := by omega
        subst this
        unfold Reg.at_
        rw [hw]
        rfl
      · go_wp2_with fail
        go_roundw
        case rel =>
          refine ⟨k + 1, by omega, by go_num, by first | trivial | rfl, Lib.hid fun j hj hjk => ?_⟩
          rcases Nat.lt_or_ge j k with q | q
          · exact hI.out j hj q
          · obtain rfl : j = k := by omega
            obtain ⟨_, hT⟩ := HT.out
            rw [hT]
            exact he
        case measure => simp [intOf]; omega
    · obtain rfl : k = n := by omega
      go_wp2_with fail
      go_ret
      refine ⟨?_, HE1.out⟩
      have hno := (Reg.look_none (R := R) (t := t) (fun hin => by
        obtain ⟨i, hi, hw, _, ht⟩ := HK.out.look_some hin.1 hin.2
        have h1 := HK.out.term i hi
        exact hI.out i hi (by rw [HN.out] at hi; exact hi) (by omega))).1
      unfold Reg.at_
      rw [hno]
      rfl
end Go.Proofs.Ytkpcmedmiiohnaa
