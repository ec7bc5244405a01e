/-
  QuorumTails: in whatever order sealed replicas are heard that agree, the tail is the longest one of all: for every input the statement's function returns true, and leaves what came in as it was.
-/
import Derived.Test.YtnoeconcpgdjlaaBsCrcLaw
import Derived.Test.YtnoeconcpgdjlaaBsEnt2
import Derived.Test.YtnoeconcpgdjlaaBsLib
import Derived.Test.YtnoeconcpgdjlaaBsMath2
import Derived.Test.YtnoeconcpgdjlaaBsQuO
import Derived.Test.YtnoeconcpgdjlaaBsTerm
import Derived.Test.YtnoeconcpgdjlaaBsVec
namespace Go.Proofs.Ytnoeconcpgdjlaa
set_option linter.unusedSimpArgs false
set_option linter.unusedVariables false
open Go.ChangeShapes Go.WideShapes Go.ChangeAt Go.RowKit

/-- Two sealers side by side. -/
structure Two12 (W : World) (SA SB : Nat → Prop) (xa xb : Nat) (a b : Quo.Se) (w : World) : Prop where
  ia : IsSe w W.heap.size SA xa a
  ib : IsSe w W.heap.size SB xb b
  ext : Ext W w
  dis : ∀ k, SA k → ¬ SB k
section
variable {W w w' : World} {SA SB : Nat → Prop} {xa xb : Nat} {a a' b b' : Quo.Se}
theorem Two12.extend (h : Two12 W SA SB xa xb a b w) (hE : Ext w w') : Two12 W SA SB xa xb a b w' := ⟨h.ia.ext hE, h.ib.ext hE, h.ext.trans hE, h.dis⟩
theorem Two12.stepA (h : Two12 W SA SB xa xb a b w) (hl : LeavesSe W.heap.size SA xa w a' w') : ∃ SA', Two12 W SA' SB xa xb a' b w' := by
  obtain ⟨SA', h1, h2, h3⟩ := hl
  exact ⟨SA', h1, h.ib.tws h2 (fun k hk e => h.dis k e hk), extOf12 h.ext h2 (fun k hk => (h.ia.lt k hk).1), fun k hk e => h.dis k (h3 k (h.ib.lt k e).2 hk) e⟩
theorem Two12.stepB (h : Two12 W SA SB xa xb a b w) (hl : LeavesSe W.heap.size SB xb w b' w') : ∃ SB', Two12 W SA SB' xa xb a b' w' := by
  obtain ⟨SB', h1, h2, h3⟩ := hl
  exact ⟨SB', h.ia.tws h2 h.dis, h1, extOf12 h.ext h2 (fun k hk => (h.ib.lt k hk).1), fun k hk e => h.dis k hk (h3 k (h.ia.lt k hk).2 e)⟩
end
/-- How many entries a replica has. -/
def kk12 (l : List Ent.E) (ns : List Int) (i : Nat) : Nat := min (ns.getD i 0).toNat l.length
theorem kk12_le (l : List Ent.E) (ns : List Int) (i : Nat) : kk12 l ns i ≤ l.length := Nat.min_le_right _ _
theorem kk12_is {l : List Ent.E} {ns : List Int} {i : Nat} (hi : i < ns.length) {N : Nat} (hN : l.length = N) : min (max ns[i] 0) (N : Int) = (kk12 l ns i : Int) := by
  unfold kk12
  rw [List.getD_eq_getElem?_getD, List.getElem?_eq_getElem hi, Option.getD_some, hN]
  omega
theorem Ints.at_12 {w : World} {a : Option Addr} {n c : Nat} {l : List Int} (h : Ints w (.slice a n c) l) (i : Nat) (hi : i < l.length) : ∃ b off, a = some ⟨b, off, none⟩ ∧ w.cell? ⟨b, off + i, none⟩ = some (.int .i64 l[i]) := by
  obtain ⟨a', cap, e, _, _, _, hc⟩ := h
  injection e with e1 _ _
  subst e1
  obtain ⟨b, off, e, hcell⟩ := hc i (by simpa using hi)
  exact ⟨b, off, e, by simpa [i64s] using hcell⟩
set_option maxRecDepth 100000 in
set_option maxHeartbeats 40000000 in
theorem quorumTails_walk (cv : Value) (c : Term.C) (a : Option Addr) (N cp : Nat) (l : List Ent.E) (a2 : Option Addr) (n2 cp2 : Nat) (ns : List Int) (W0 : World) (hc : IsConf W0 cv c) (h0 : Ents W0 (.slice a N cp) l) (h2 : Ints W0 (.slice a2 n2 cp2) ns) :
    Calls Try.prog 7 #[cv, .slice a N cp, .slice a2 n2 cp2] W0 fun e W' => e = .returned (.bool true) ∧ Below W0.heap.size W0 W' := by
  have hbx := box_confR
  obtain ⟨s, d, rfl, hs, hd⟩ := hc
  obtain ⟨s1, s2, s3, rfl⟩ := intsSlice hs
  obtain ⟨d1, d2, d3, rfl⟩ := irowsSlice hd
  obtain ⟨tc, htc⟩ : ∃ z, c.term = z := ⟨_, rfl⟩
  unfold confV
  rw [htc]
  have hE0 : Ext W0 (W0.alloc (.cells #[.int .i64 tc, .slice s1 s2 s3, .slice d1 d2 d3] 25)) := Ext.alloc _ _
  have hq0 := heap_alloc_new W0 (.cells #[.int .i64 tc, .slice s1 s2 s3, .slice d1 d2 d3] 25)
  obtain ⟨W, hW⟩ : ∃ z, W0.alloc (.cells #[.int .i64 tc, .slice s1 s2 s3, .slice d1 d2 d3] 25) = z := ⟨_, rfl⟩
  obtain ⟨q, hq⟩ : ∃ z, W0.heap.size = z := ⟨_, rfl⟩
  rw [hW] at hE0 hq0
  rw [hq] at hq0
  have HW := Lib.hid (And.intro hW hq)
  have HQ0 := Lib.hid hq0
  have HE0 := Lib.hid hE0
  have HTC := Lib.hid htc
  have HCF := Lib.hid (show ∀ w', Ext W w' → IsConf w' (.agg #[.int .i64 tc, .slice s1 s2 s3, .slice d1 d2 d3]) c from fun w' h => ⟨_, _, by unfold confV; rw [htc], hs.below (hE0.trans h), hd.below (hE0.trans h)⟩)
  have HEN := Lib.hid (fun w' (h : Ext W w') => h0.below (hE0.trans h))
  have HNS := Lib.hid (fun w' (h : Ext W w') => h2.below (hE0.trans h))
  have HSQ := Lib.hid (fun w' (h : Ext W w') => hs.below (hE0.trans h))
  have hNl : l.length = N := by obtain ⟨_, _, e, _⟩ := h0; injection e with _ e _; exact e.symm
  have hns : ns.length = n2 := h2.len.1.symm
  have hsl : c.seqs.length = s2 := hs.len.1.symm
  have hcp : N ≤ cp ∧ cp ≤ 9223372036854775807 := by obtain ⟨_, _, e, h1, h2⟩ := h0.shape; injection e with e1 e2 e3; omega
  have hcp2 : n2 ≤ cp2 ∧ cp2 ≤ 9223372036854775807 := ⟨h2.len.2.1, h2.len.2.2⟩
  have hs3 : s2 ≤ s3 ∧ s3 ≤ 9223372036854775807 := ⟨hs.len.2.1, hs.len.2.2⟩
  obtain ⟨hN1, hN2⟩ := hcp
  obtain ⟨hn1, hn2⟩ := hcp2
  obtain ⟨hs4, hs5⟩ := hs3
  have HLN := Lib.hid (And.intro hNl (And.intro hns hsl))
  have y0 : W.cell? ⟨q, 0, none⟩ = some (.int .i64 tc) := cell_of_heap hq0 0
  have y1 : W.cell? ⟨q, 1, none⟩ = some (.slice s1 s2 s3) := cell_of_heap hq0 1
  have y2 : W.cell? ⟨q, 2, none⟩ = some (.slice d1 d2 d3) := cell_of_heap hq0 2
  clear h0 h2 hs hd hW hq hE0 hq0 htc hNl hns hsl
  go_enter Try.func7, Try.ntmps7
  go_upto_region 1 with fail
  rw [HW.out.1, HW.out.2]
  clear hbx
  go_wp2_with fail
  refine (few12_any (.agg #[.int .i64 tc, .slice s1 s2 s3, .slice d1 d2 d3]) c _ [] W (HCF.out W (Ext.refl W)) (Ops12.nil W)).mono ?_
  rintro e w1 ⟨⟨b, rfl⟩, hE1⟩
  have HE1 := Lib.hid hE1
  have hq1 := heap_ext HQ0.out hE1
  have z0 : w1.cell? ⟨q, 0, none⟩ = some (.int .i64 tc) := cell_of_heap hq1 0
  have z1 : w1.cell? ⟨q, 1, none⟩ = some (.slice s1 s2 s3) := cell_of_heap hq1 1
  have z2 : w1.cell? ⟨q, 2, none⟩ = some (.slice d1 d2 d3) := cell_of_heap hq1 2
  clear hE1 hq1 y0 y1 y2
  cases b with
  | false =>
    go_wp2_with fail
    refine (alive12_any _).mono ?_
    rintro e wA ⟨rfl, hEA⟩
    have HEA := Lib.hid (Ext.trans (HE0.out.trans HE1.out) hEA)
    clear hEA
    go_wp2_with fail
    go_ret
    exact ⟨rfl, HEA.out⟩
  | true =>
    by_cases h100 : (100 : Int) < (N : Int)
    case pos =>
      go_wp2_with fail
      refine (alive12_any _).mono ?_
      rintro e wA ⟨rfl, hEA⟩
      have HEA := Lib.hid (Ext.trans (HE0.out.trans HE1.out) hEA)
      clear hEA
      go_wp2_with fail
      go_ret
      exact ⟨rfl, HEA.out⟩
    case neg =>
    by_cases h20 : (20 : Int) < (n2 : Int)
    case pos =>
      go_wp2_with fail
      refine (alive12_any _).mono ?_
      rintro e wA ⟨rfl, hEA⟩
      have HEA := Lib.hid (Ext.trans (HE0.out.trans HE1.out) hEA)
      clear hEA
      go_wp2_with fail
      go_ret
      exact ⟨rfl, HEA.out⟩
    case neg =>
    have HN100 := Lib.hid (show N ≤ 100 by omega)
    go_wp2_with fail
    refine (refRight6_any _ c w1 (HCF.out w1 HE1.out)).mono ?_
    rintro e w2 ⟨rfl, hE2⟩
    obtain ⟨r, hr⟩ : ∃ z, Term.right c = z := ⟨_, rfl⟩
    rw [hr]
    have HR := Lib.hid hr
    have HE2 := Lib.hid (HE1.out.trans hE2)
    have hq2 := heap_ext HQ0.out HE2.out
    have x0 : w2.cell? ⟨q, 0, none⟩ = some (.int .i64 tc) := cell_of_heap hq2 0
    have x1 : w2.cell? ⟨q, 1, none⟩ = some (.slice s1 s2 s3) := cell_of_heap hq2 1
    have x2 : w2.cell? ⟨q, 2, none⟩ = some (.slice d1 d2 d3) := cell_of_heap hq2 2
    clear hE2 hq2 hr z0 z1 z2
    cases r with
    | false =>
      go_wp2_with fail
      refine (alive12_any _).mono ?_
      rintro e wA ⟨rfl, hEA⟩
      have HEA := Lib.hid (Ext.trans (HE0.out.trans HE2.out) hEA)
      clear hEA
      go_wp2_with fail
      go_ret
      exact ⟨rfl, HEA.out⟩
    | true =>
    obtain ⟨ps, hps, hfl, hpi⟩ := flat_of_ents (HEN.out W (Ext.refl W))
    have hpl : ps.length = N := by rw [← HLN.out.1, ← hps, List.length_map]
    have HPS := Lib.hid hps
    have HPL := Lib.hid hpl
    have HFL := Lib.hid (show ∀ w', Ext W w' → SlN 6 w' (.slice a N cp) ps.length (entFlat ps) ∧ ∀ q ∈ ps, Ints w' q.1 q.2.cut from fun w' h => ⟨SlN.below hfl h, fun q hq => (hpi q hq).below h⟩)
    clear hps hfl hpi hpl
    go_wp2_with fail
    refine (mine12l_any _ ps w2 (HFL.out w2 HE2.out).1 (HFL.out w2 HE2.out).2 (by rw [HPL.out]; have := HN100.out; omega)).mono ?_
    rintro e w3 ⟨u, rfl, hrow3, hE3⟩
    obtain ⟨ua, un, uc, rfl⟩ := ownSlice hrow3
    have HE3 := Lib.hid (HE2.out.trans hE3)
    have hen3 : Ents w3 (.slice ua un uc) l := by
      have h1 := ents_of_flat (HFL.out w3 HE3.out).2 (SlN.ofOwn hrow3)
      rw [HPS.out] at h1
      exact h1
    have HEN3 := Lib.hid hen3
    have hq3 := heap_ext HQ0.out HE3.out
    have v0 : w3.cell? ⟨q, 0, none⟩ = some (.int .i64 tc) := cell_of_heap hq3 0
    have v1 : w3.cell? ⟨q, 1, none⟩ = some (.slice s1 s2 s3) := cell_of_heap hq3 1
    have v2 : w3.cell? ⟨q, 2, none⟩ = some (.slice d1 d2 d3) := cell_of_heap hq3 2
    clear hrow3 hE3 hen3 hq3 x0 x1 x2
    go_wp2_with fail
    refine (chain5_any _ l w3 HEN3.out).mono ?_
    rintro e w4 ⟨rfl, hE4⟩
    obtain ⟨C, hC⟩ : ∃ C, Ent.chain l = C := ⟨_, rfl⟩
    rw [hC]
    have HC := Lib.hid hC
    have HE4 := Lib.hid (HE3.out.trans hE4)
    have hq4 := heap_ext HQ0.out HE4.out
    have t0 : w4.cell? ⟨q, 0, none⟩ = some (.int .i64 tc) := cell_of_heap hq4 0
    have t1 : w4.cell? ⟨q, 1, none⟩ = some (.slice s1 s2 s3) := cell_of_heap hq4 1
    have t2 : w4.cell? ⟨q, 2, none⟩ = some (.slice d1 d2 d3) := cell_of_heap hq4 2
    clear hE4 hC hq4 v0 v1 v2
    by_cases hCN : C = N
    case neg =>
      have hci : ((C : Int) != (N : Int)) = true := by rw [bne_iff_ne]; omega
      go_wp2_with fail
      refine (alive12_any _).mono ?_
      rintro e wA ⟨rfl, hEA⟩
      have HEA := Lib.hid (Ext.trans (HE0.out.trans HE4.out) hEA)
      clear hEA
      go_wp2_with fail
      go_ret
      exact ⟨rfl, HEA.out⟩
    case pos =>
    have hci : ((C : Int) != (N : Int)) = false := by rw [hCN]; simp
    have HCH := Lib.hid (show Ent.isChain l by unfold Ent.isChain; rw [HC.out, HLN.out.1]; exact hCN)
    clear hCN
    by_cases hlen : (n2 : Int) < (s2 : Int)
    case pos =>
      go_wp2_with fail
      refine (alive12_any _).mono ?_
      rintro e wA ⟨rfl, hEA⟩
      have HEA := Lib.hid (Ext.trans (HE0.out.trans HE4.out) hEA)
      clear hEA
      go_wp2_with fail
      go_ret
      exact ⟨rfl, HEA.out⟩
    case neg =>
    have HNL := Lib.hid (show s2 ≤ n2 by omega)
    go_wp2_with fail
    refine (newS12_any w4 _ c (HCF.out w4 HE4.out)).mono ?_
    rintro e w5 ⟨h, hE5⟩
    rcases h with ⟨xa, _, rfl, SA, ha⟩ | ⟨h, _⟩
    case inr => exact absurd HR.out (by rw [h]; decide)
    have HA5 := Lib.hid ha
    have HE5 := Lib.hid (HE4.out.trans hE5)
    have hq5 := heap_ext HQ0.out HE5.out
    have s0 : w5.cell? ⟨q, 0, none⟩ = some (.int .i64 tc) := cell_of_heap hq5 0
    have s1' : w5.cell? ⟨q, 1, none⟩ = some (.slice s1 s2 s3) := cell_of_heap hq5 1
    have s2' : w5.cell? ⟨q, 2, none⟩ = some (.slice d1 d2 d3) := cell_of_heap hq5 2
    clear ha hE5 hq5 t0 t1 t2
    go_wp2_with fail
    refine (newS12_any w5 _ c (HCF.out w5 HE5.out)).mono ?_
    rintro e w6 ⟨h, hE6⟩
    rcases h with ⟨xb, _, rfl, SB, hb⟩ | ⟨h, _⟩
    case inr => exact absurd HR.out (by rw [h]; decide)
    have hT6 : Two12 W SA SB xa xb ⟨c, []⟩ ⟨c, []⟩ w6 := ⟨(HA5.out.ext hE6).lower12 HE4.out.size, hb.lower12 HE5.out.size, HE5.out.trans hE6, fun k hk e => by have h1 := (HA5.out.lt k hk).2; have h2 := (hb.lt k e).1; omega⟩
    have HT6 := Lib.hid hT6
    have hq6 := heap_ext HQ0.out hT6.ext
    have r1 : w6.cell? ⟨q, 1, none⟩ = some (.slice s1 s2 s3) := cell_of_heap hq6 1
    have hs16 : s2 ≤ 7 ∧ 1 ≤ s2 := by
      have h1 := (Term.right_ok HR.out).2.2.2.1
      rw [HLN.out.2.2] at h1
      omega
    obtain ⟨hs7, hs1⟩ := hs16
    clear hb hE6 hT6 hq6 s0 s1' s2'
    go_wp2_with fail
    go_loopw [11, 13, 14, 82] (fun m _ _ i wr => ∃ (j : Nat) (SA SB : Nat → Prop) (sa sb : Quo.Se) (M : Nat), j ≤ s2 ∧ i = .int .i64 j ∧ m = .int .i64 (M : Nat) ∧ M ≤ N ∧ Hid (Two12 W SA SB xa xb sa sb wr ∧ Quo.Tl c l (kk12 l ns) (List.range j) sa ∧ Quo.Tl c l (kk12 l ns) (Quo.back s2 j) sb ∧ M = Quo.mx (kk12 l ns) (List.range j))) (fun _ _ _ i _ => s2 - (intOf i).toNat)
    case atStart => exact ⟨0, _, _, _, _, 0, by omega, rfl, rfl, by omega, Lib.hid ⟨HT6.out, Quo.Tl.new _ _ _, Quo.Tl.new _ _ _, rfl⟩⟩
    case round =>
      obtain ⟨j, SA, SB, sa, sb, M, hj, rfl, rfl, hM, hI⟩ := hrel
      obtain ⟨wt, hwt⟩ : ∃ z, z = wr := ⟨_, rfl⟩
      subst hwt
      by_cases hlt : j < s2
      · have HNL' := HNL.out
        have hjn : j < ns.length := by rw [HLN.out.2.1]; omega
        have hjs : j < c.seqs.length := by rw [HLN.out.2.2]; exact hlt
        obtain ⟨R, hR⟩ : ∃ R, s2 - 1 - j = R := ⟨_, rfl⟩
        have hRn : R < ns.length := by rw [HLN.out.2.1]; omega
        have hRs : R < c.seqs.length := by rw [HLN.out.2.2]; omega
        have hRi : (s2 : Int) - 1 - (j : Int) = (R : Int) := by omega
        obtain ⟨nb, no, ha2, hcj⟩ := (HNS.out wt hI.out.1.ext).at_12 j hjn
        subst ha2
        have hcR : wt.cell? ⟨nb, no + R, none⟩ = some (.int .i64 ns[R]) := by
          obtain ⟨nb', no', e, h⟩ := (HNS.out wt hI.out.1.ext).at_12 R hRn
          injection e with e
          injection e with e1 e2
          subst e1 e2
          exact h
        obtain ⟨sq, so, hs1e, hsj⟩ := (HSQ.out wt hI.out.1.ext).at_12 j hjs
        subst hs1e
        have hsR : wt.cell? ⟨sq, so + R, none⟩ = some (.int .i64 c.seqs[R]) := by
          obtain ⟨nb', no', e, h⟩ := (HSQ.out wt hI.out.1.ext).at_12 R hRs
          injection e with e
          injection e with e1 e2
          subst e1 e2
          exact h
        have hcell : ∀ w', Ext W w' → w'.cell? ⟨nb, no + R, none⟩ = some (.int .i64 ns[R]) ∧ w'.cell? ⟨sq, so + R, none⟩ = some (.int .i64 c.seqs[R]) ∧ w'.cell? ⟨q, 1, none⟩ = some (.slice (some ⟨sq, so, none⟩) s2 s3) := fun w' hE => by
          refine ⟨?_, ?_, cell_of_heap (heap_ext HQ0.out hE) 1⟩
          · obtain ⟨nb', no', e, h⟩ := (HNS.out w' hE).at_12 R hRn
            injection e with e
            injection e with e1 e2
            subst e1 e2
            exact h
          · obtain ⟨nb', no', e, h⟩ := (HSQ.out w' hE).at_12 R hRs
            injection e with e
            injection e with e1 e2
            subst e1 e2
            exact h
        have hwf : ∀ i (h : i < c.seqs.length), Wf64 c.seqs[i] := fun i h => by
          have h1 := (Term.unlike_ok (Term.right_ok HR.out).2.2.2.2).1 c.seqs[i] (List.getElem_mem h)
          unfold Wf64
          simp [Lit.wf, IntKind.min, IntKind.max, IntKind.signed, IntKind.bits]
          omega
        have hgd : ∀ i (h : i < c.seqs.length), c.seqs.getD i 0 = c.seqs[i] := fun i h => by rw [List.getD_eq_getElem?_getD, List.getElem?_eq_getElem h, Option.getD_some]
        have hj1 := hI.out.2.1.hears HR.out HCH.out (kk12_le l ns) hjs (fun h => by have := List.mem_range.1 h; omega)
        have hj2 := hI.out.2.2.1.hears HR.out HCH.out (kk12_le l ns) (i := s2 - 1 - j) (by rw [hR]; exact hRs) (Quo.back_not hlt)
        rw [← Quo.back_succ, hR, hgd R hRs] at hj2
        rw [← List.range_succ, hgd j hjs] at hj1
        have hk1 := kk12_is hjn HLN.out.1
        have hk2 := kk12_is hRn HLN.out.1
        obtain ⟨Kj, hKj⟩ : ∃ z, kk12 l ns j = z := ⟨_, rfl⟩
        obtain ⟨KR, hKR⟩ : ∃ z, kk12 l ns R = z := ⟨_, rfl⟩
        obtain ⟨sj, hsjv⟩ : ∃ z, c.seqs[j] = z := ⟨_, rfl⟩
        obtain ⟨sR, hsRv⟩ : ∃ z, c.seqs[R] = z := ⟨_, rfl⟩
        obtain ⟨zj, hzj⟩ : ∃ z, ns[j] = z := ⟨_, rfl⟩
        obtain ⟨zR, hzR⟩ : ∃ z, ns[R] = z := ⟨_, rfl⟩
        have HWF := Lib.hid (show Wf64 sj ∧ Wf64 sR from ⟨hsjv ▸ hwf j hjs, hsRv ▸ hwf R hRs⟩)
        have hKjN : Kj ≤ N := by rw [← hKj, ← HLN.out.1]; exact kk12_le l ns j
        have hKRN : KR ≤ N := by rw [← hKR, ← HLN.out.1]; exact kk12_le l ns R
        rw [hKj, hsjv] at hj1
        rw [hKR, hsRv] at hj2
        rw [hzj, hKj] at hk1
        rw [hzR, hKR] at hk2
        rw [hzj] at hcj
        rw [hzR] at hcR
        rw [hsjv] at hsj
        rw [hsRv] at hsR
        rw [hzR, hsRv] at hcell
        have HCELL := Lib.hid hcell
        obtain ⟨M2, hM2⟩ : ∃ z, max M Kj = z := ⟨_, rfl⟩
        have HM2 := Lib.hid (show max (M : Int) (Kj : Int) = (M2 : Int) ∧ M2 ≤ N ∧ M2 = Quo.mx (kk12 l ns) (List.range (j + 1)) from ⟨by omega, by omega, by rw [List.range_succ, Quo.mx_snoc, hKj, ← hI.out.2.2.2, hM2]⟩)
        have HJ1 := Lib.hid hj1
        have HJ2 := Lib.hid hj2
        have HK1 := Lib.hid hk1
        have HK2 := Lib.hid hk2
        have HCJ := Lib.hid (And.intro hsj (And.intro hcR hsR))
        have HRI := Lib.hid hRi
        have HRN := Lib.hid (And.intro hR (And.intro hRn hRs))
        have hqt := heap_ext HQ0.out hI.out.1.ext
        have q1 : wt.cell? ⟨q, 1, none⟩ = some (.slice (some ⟨sq, so, none⟩) s2 s3) := cell_of_heap hqt 1
        have HKN := Lib.hid (And.intro hKjN hKRN)
        have hslj : ∀ wy : World, (Instr.sliceAt 27 (.slice a N cp) none (some (.int .i64 (Kj : Int))) none).run Try.prog wy = .ok (.slice a Kj cp) wy := fun wy => runTo (size := 6) Try.underlying27 (by kernel_rfl) Kj (by omega) .i64
        have hslR : ∀ wy : World, (Instr.sliceAt 27 (.slice a N cp) none (some (.int .i64 (KR : Int))) none).run Try.prog wy = .ok (.slice a KR cp) wy := fun wy => runTo (size := 6) Try.underlying27 (by kernel_rfl) KR (by omega) .i64
        have HSLJ := Lib.hid hslj
        have HSLR := Lib.hid hslR
        clear hsj hcR hsR hcell hwf hgd hj1 hj2 hk1 hk2 hKj hKR hsjv hsRv hzj hzR hKjN hKRN hM2 hRi hR hRn hRs hqt hslj hslR HNL' r1
        go_upto_region 12 with fail
        go_cut [14] (fun s wx => s = .int .i64 (Kj : Nat) ∧ wx = wt)
        case first =>
          go_wp2_with fail
          go_meet
          exact ⟨by rw [HK1.out], rfl⟩
        case rest =>
        obtain ⟨rfl, hwc⟩ := hcut
        have hwc := hwc.symm
        subst hwc
        go_upto_region 13 with fail
        go_cut [11] (fun s wx => s = .int .i64 (M2 : Nat) ∧ wx = wt)
        case first =>
          go_wp2_with fail
          go_meet
          exact ⟨by rw [HM2.out.1], rfl⟩
        case rest =>
        obtain ⟨rfl, hwc⟩ := hcut
        have hwc := hwc.symm
        subst hwc
        have HQ1 := Lib.hid q1
        clear hcj
        go_upto_region 14 with fail
        refine wp_region_tail (by kernel_rfl) 10 Ext (fun iop v w => match iop with
            | 0 => v = .pointer (some ⟨xa, 0, none⟩)
            | 1 => v = .pointer (some ⟨q, 1, none⟩)
            | 2 => v = .slice (some ⟨sq, so, none⟩) s2 s3
            | 3 => v = .int .i64 (j : Nat)
            | 4 => v = .pointer (some ⟨sq, so + j, none⟩)
            | 5 => v = .int .i64 sj
            | 6 => v = .slice a N cp
            | 7 => v = .int .i64 (Kj : Nat)
            | 8 => v = .slice a Kj cp
            | _ => w.ownsRow wt.heap.size 74 6 v (ps.take Kj).length (entFlat (ps.take Kj))
            ) (by kernel_rfl) (by kernel_rfl) (by decide) (fun _ _ _ h k => Ext.trans h k) (fun a => Ext.refl a) (Ext.drew _) ?_ ?_ ?_
        · intro iop v wa wb hF hL
          iterate 9 (rcases iop with _ | iop; exact hF)
          (first | exact hF | exact rowExt hF hL)
        · refine Obls.cons ?_ (Obls.cons ?_ (Obls.cons ?_ (Obls.cons ?_ (Obls.cons ?_ (Obls.cons ?_ (Obls.cons ?_ (Obls.cons ?_ (Obls.cons ?_ (Obls.cons ?_ (Obls.nil))))))))))
          · intro ev wy hp hl hk hd
            have e7 : ev (.tmp 7) = .pointer (some ⟨xa, 0, none⟩) := hk 7 (by decide)
            clear hk hd
            exact Yield.mv rfl ⟨Ext.refl _, e7⟩
          · intro ev wy hp hl hk hd
            have e3 : ev (.tmp 3) = .pointer (some ⟨q, 0, none⟩) := hk 3 (by decide)
            clear hk hd
            exact Yield.op (v := .pointer (some ⟨q, 1, none⟩)) (w' := wy) (by simp [execOp, go_sem, e3]) ⟨Ext.refl _, rfl⟩
          · intro ev wy hp hl hk hd
            have e97 : ev (.tmp 97) = .pointer (some ⟨q, 1, none⟩) := hk 97 (by decide)
            clear hk hd
            exact Yield.load rfl e97 (by simp [go_sem, cellExt hl HQ1.out]) ⟨Ext.refl _, rfl⟩
          · intro ev wy hp hl hk hd
            have e13 : ev (.tmp 13) = .int .i64 (j : Nat) := hk 13 (by decide)
            clear hk hd
            exact Yield.mv rfl ⟨Ext.refl _, e13⟩
          · intro ev wy hp hl hk hd
            have e98 : ev (.tmp 98) = .slice (some ⟨sq, so, none⟩) s2 s3 := hk 98 (by decide)
            have e99 : ev (.tmp 99) = .int .i64 (j : Nat) := hk 99 (by decide)
            clear hk hd
            exact Yield.op (v := .pointer (some ⟨sq, so + j, none⟩)) (w' := wy) (by simp [execOp, go_sem, e98, e99, hlt, hs5]) ⟨Ext.refl _, rfl⟩
          · intro ev wy hp hl hk hd
            have e100 : ev (.tmp 100) = .pointer (some ⟨sq, so + j, none⟩) := hk 100 (by decide)
            clear hk hd
            exact Yield.load rfl e100 (by simp [go_sem, cellExt hl HCJ.out.1]) ⟨Ext.refl _, rfl⟩
          · intro ev wy hp hl hk hd
            have e1 : ev (.tmp 1) = .slice a N cp := hk 1 (by decide)
            clear hk hd
            exact Yield.mv rfl ⟨Ext.refl _, e1⟩
          · intro ev wy hp hl hk hd
            have e14 : ev (.tmp 14) = .int .i64 (Kj : Nat) := hk 14 (by decide)
            clear hk hd
            exact Yield.mv rfl ⟨Ext.refl _, e14⟩
          · intro ev wy hp hl hk hd
            have e102 : ev (.tmp 102) = .slice a N cp := hk 102 (by decide)
            have e103 : ev (.tmp 103) = .int .i64 (Kj : Nat) := hk 103 (by decide)
            clear hk hd
            exact Yield.slice rfl e102 (by simp only [Option.map_some, Option.map_none, e103]; exact HSLJ.out wy) ⟨Ext.refl _, rfl⟩
          · intro ev wy hp hl hk hd
            have e104 : ev (.tmp 104) = .slice a Kj cp := hk 104 (by decide)
            clear hk hd
            refine Yield.call rfl hp Try.func14 rfl (by kernel_rfl) ?_
            simp only [List.map_toArray, List.map_cons, List.map_nil, e104]
            exact ((show Calls Try.prog 14 #[.slice a Kj cp] wy fun e w' => ∃ u, e = .returned u ∧ Ext wy w' ∧ w'.ownsRow wt.heap.size 74 6 u (ps.take Kj).length (entFlat (ps.take Kj)) from (mine12l_any _ (ps.take Kj) wy ((HFL.out wy (hI.out.1.ext.trans hl)).1.takeE Kj (by rw [HPL.out]; exact HKN.out.1)) (fun q hq => (HFL.out wy (hI.out.1.ext.trans hl)).2 q (List.mem_of_mem_take hq)) (by rw [List.length_take, HPL.out]; have := HN100.out; omega)).mono fun e w' ⟨u, h1, h2, h3⟩ => ⟨u, h1, h3, rowLower h2 hl.size⟩)).mono fun _ _ ⟨u, he, hb, hu⟩ => ⟨u, he, hb, hu⟩
        · intro vals wz hz hv
          have g96 : vals 0 = .pointer (some ⟨xa, 0, none⟩) := hv 0 (by decide)
          have g97 : vals 1 = .pointer (some ⟨q, 1, none⟩) := hv 1 (by decide)
          have g98 : vals 2 = .slice (some ⟨sq, so, none⟩) s2 s3 := hv 2 (by decide)
          have g99 : vals 3 = .int .i64 (j : Nat) := hv 3 (by decide)
          have g100 : vals 4 = .pointer (some ⟨sq, so + j, none⟩) := hv 4 (by decide)
          have g101 : vals 5 = .int .i64 sj := hv 5 (by decide)
          have g102 : vals 6 = .slice a N cp := hv 6 (by decide)
          have g103 : vals 7 = .int .i64 (Kj : Nat) := hv 7 (by decide)
          have g104 : vals 8 = .slice a Kj cp := hv 8 (by decide)
          have g105 : (fun (v : Value) (w : World) => w.ownsRow wt.heap.size 74 6 v (ps.take Kj).length (entFlat (ps.take Kj))) (vals 9) wz := hv 9 (by decide)
          clear hv
          simp only [List.take_succ_cons, List.take_zero, List.drop_succ_cons, List.drop_zero]
          simp only [putAll, Act.put, List.setIfInBounds_toArray, List.set_cons_zero, List.set_cons_succ, g96, g97, g98, g99, g100, g101, g102, g103, g104]
          clear g96
          clear g97
          clear g98
          clear g99
          clear g100
          clear g101
          clear g102
          clear g103
          clear g104
          generalize vals 9 = v105 at *
          have HTZ := Lib.hid (hI.out.1.extend hz)
          obtain ⟨ma, mn, mc, rfl⟩ := ownSlice g105
          have hmap : (ps.take Kj).map (·.2) = l.take Kj := by rw [List.map_take, HPS.out]
          have HRW := Lib.hid g105
          have HZ := Lib.hid hz
          clear g105 hz
          go_wp2_with fail
          refine (heardS12_any HTZ.out.ia sj HWF.out.1 _ (ps.take Kj) (by rw [List.length_take, HPL.out]; have := HN100.out; omega) (fun w' ht => ⟨SlN.ofOwn (rowOwn HRW.out fun k hk => ht.block k (HRW.out.lt k hk).2 (fun hs => by have h1 := (hI.out.1.ia.lt k hs).2; have h2 := (HRW.out.lt k hk).1; omega)), fun q hq => by
            have h1 := (HFL.out W (Ext.refl W)).2 q (List.mem_of_mem_take hq)
            exact Sl.below h1 (extOf12 HTZ.out.ext ht (fun k hk => (HTZ.out.ia.lt k hk).1))⟩)).mono ?_
          rw [hmap]
          unfold GivesHeardS12
          rw [HJ1.out.1]
          rintro e w7 ⟨rfl, hl7⟩
          obtain ⟨SA7, hT7⟩ := HTZ.out.stepA hl7
          have HT7 := Lib.hid hT7
          have c7 := (HCELL.out w7 hT7.ext).1
          have hRi := HRI.out
          clear hl7 hT7 hmap
          go_upto_region 16 with fail
          go_cut [14] (fun s wx => s = .int .i64 (KR : Nat) ∧ wx = w7)
          case first =>
            go_wp2_with fail
            go_meet
            exact ⟨by rw [HK2.out], rfl⟩
          case rest =>
          obtain ⟨rfl, hwc⟩ := hcut
          have hwc := hwc.symm
          subst hwc
          clear c7 hRi
          go_upto_region 17 with fail
          refine wp_region_tail (by kernel_rfl) 13 Ext (fun iop v w => match iop with
              | 0 => v = .pointer (some ⟨xb, 0, none⟩)
              | 1 => v = .pointer (some ⟨q, 1, none⟩)
              | 2 => v = .slice (some ⟨sq, so, none⟩) s2 s3
              | 3 => v = .int .i64 (s2 : Nat)
              | 4 => v = .int .i64 ((s2 : Int) - 1)
              | 5 => v = .int .i64 (j : Nat)
              | 6 => v = .int .i64 (R : Nat)
              | 7 => v = .pointer (some ⟨sq, so + R, none⟩)
              | 8 => v = .int .i64 sR
              | 9 => v = .slice a N cp
              | 10 => v = .int .i64 (KR : Nat)
              | 11 => v = .slice a KR cp
              | _ => w.ownsRow w7.heap.size 74 6 v (ps.take KR).length (entFlat (ps.take KR))
              ) (by kernel_rfl) (by kernel_rfl) (by decide) (fun _ _ _ h k => Ext.trans h k) (fun a => Ext.refl a) (Ext.drew _) ?_ ?_ ?_
          · intro iop v wa wb hF hL
            iterate 12 (rcases iop with _ | iop; exact hF)
            (first | exact hF | exact rowExt hF hL)
          · refine Obls.cons ?_ (Obls.cons ?_ (Obls.cons ?_ (Obls.cons ?_ (Obls.cons ?_ (Obls.cons ?_ (Obls.cons ?_ (Obls.cons ?_ (Obls.cons ?_ (Obls.cons ?_ (Obls.cons ?_ (Obls.cons ?_ (Obls.cons ?_ (Obls.nil)))))))))))))
            · intro ev wy hp hl hk hd
              have e9 : ev (.tmp 9) = .pointer (some ⟨xb, 0, none⟩) := hk 9 (by decide)
              clear hk hd
              exact Yield.mv rfl ⟨Ext.refl _, e9⟩
            · intro ev wy hp hl hk hd
              have e3 : ev (.tmp 3) = .pointer (some ⟨q, 0, none⟩) := hk 3 (by decide)
              clear hk hd
              exact Yield.op (v := .pointer (some ⟨q, 1, none⟩)) (w' := wy) (by simp [execOp, go_sem, e3]) ⟨Ext.refl _, rfl⟩
            · intro ev wy hp hl hk hd
              have e120 : ev (.tmp 120) = .pointer (some ⟨q, 1, none⟩) := hk 120 (by decide)
              clear hk hd
              exact Yield.load rfl e120 (by simp [go_sem, (HCELL.out wy (HT7.out.ext.trans hl)).2.2]) ⟨Ext.refl _, rfl⟩
            · intro ev wy hp hl hk hd
              have e12 : ev (.tmp 12) = .int .i64 (s2 : Nat) := hk 12 (by decide)
              clear hk hd
              exact Yield.mv rfl ⟨Ext.refl _, e12⟩
            · intro ev wy hp hl hk hd
              have e122 : ev (.tmp 122) = .int .i64 (s2 : Nat) := hk 122 (by decide)
              clear hk hd
              exact Yield.op (v := .int .i64 ((s2 : Int) - 1)) (w' := wy) (by simp [execOp, go_sem, e122, hp.const]; rw [IntWalk.i64_in _ (by omega)]) ⟨Ext.refl _, rfl⟩
            · intro ev wy hp hl hk hd
              have e13 : ev (.tmp 13) = .int .i64 (j : Nat) := hk 13 (by decide)
              clear hk hd
              exact Yield.mv rfl ⟨Ext.refl _, e13⟩
            · intro ev wy hp hl hk hd
              have e123 : ev (.tmp 123) = .int .i64 ((s2 : Int) - 1) := hk 123 (by decide)
              have e124 : ev (.tmp 124) = .int .i64 (j : Nat) := hk 124 (by decide)
              clear hk hd
              exact Yield.op (v := .int .i64 (R : Nat)) (w' := wy) (by simp [execOp, go_sem, e123, e124]; rw [HRI.out, IntWalk.i64_in _ (by have := HRI.out; omega)]) ⟨Ext.refl _, rfl⟩
            · intro ev wy hp hl hk hd
              have e121 : ev (.tmp 121) = .slice (some ⟨sq, so, none⟩) s2 s3 := hk 121 (by decide)
              have e125 : ev (.tmp 125) = .int .i64 (R : Nat) := hk 125 (by decide)
              clear hk hd
              exact Yield.op (v := .pointer (some ⟨sq, so + R, none⟩)) (w' := wy) (by have hR2 : R < s2 := (by have := HRI.out; omega); simp [execOp, go_sem, e121, e125, hR2, hs5]) ⟨Ext.refl _, rfl⟩
            · intro ev wy hp hl hk hd
              have e126 : ev (.tmp 126) = .pointer (some ⟨sq, so + R, none⟩) := hk 126 (by decide)
              clear hk hd
              exact Yield.load rfl e126 (by simp [go_sem, (HCELL.out wy (HT7.out.ext.trans hl)).2.1]) ⟨Ext.refl _, rfl⟩
            · intro ev wy hp hl hk hd
              have e1 : ev (.tmp 1) = .slice a N cp := hk 1 (by decide)
              clear hk hd
              exact Yield.mv rfl ⟨Ext.refl _, e1⟩
            · intro ev wy hp hl hk hd
              have e14 : ev (.tmp 14) = .int .i64 (KR : Nat) := hk 14 (by decide)
              clear hk hd
              exact Yield.mv rfl ⟨Ext.refl _, e14⟩
            · intro ev wy hp hl hk hd
              have e128 : ev (.tmp 128) = .slice a N cp := hk 128 (by decide)
              have e129 : ev (.tmp 129) = .int .i64 (KR : Nat) := hk 129 (by decide)
              clear hk hd
              exact Yield.slice rfl e128 (by simp only [Option.map_some, Option.map_none, e129]; exact HSLR.out wy) ⟨Ext.refl _, rfl⟩
            · intro ev wy hp hl hk hd
              have e130 : ev (.tmp 130) = .slice a KR cp := hk 130 (by decide)
              clear hk hd
              refine Yield.call rfl hp Try.func14 rfl (by kernel_rfl) ?_
              simp only [List.map_toArray, List.map_cons, List.map_nil, e130]
              exact ((show Calls Try.prog 14 #[.slice a KR cp] wy fun e w' => ∃ u, e = .returned u ∧ Ext wy w' ∧ w'.ownsRow w7.heap.size 74 6 u (ps.take KR).length (entFlat (ps.take KR)) from (mine12l_any _ (ps.take KR) wy ((HFL.out wy (HT7.out.ext.trans hl)).1.takeE KR (by rw [HPL.out]; exact HKN.out.2)) (fun q hq => (HFL.out wy (HT7.out.ext.trans hl)).2 q (List.mem_of_mem_take hq)) (by rw [List.length_take, HPL.out]; have := HN100.out; omega)).mono fun e w' ⟨u, h1, h2, h3⟩ => ⟨u, h1, h3, rowLower h2 hl.size⟩)).mono fun _ _ ⟨u, he, hb, hu⟩ => ⟨u, he, hb, hu⟩
          · intro vals wz hz hv
            have g119 : vals 0 = .pointer (some ⟨xb, 0, none⟩) := hv 0 (by decide)
            have g120 : vals 1 = .pointer (some ⟨q, 1, none⟩) := hv 1 (by decide)
            have g121 : vals 2 = .slice (some ⟨sq, so, none⟩) s2 s3 := hv 2 (by decide)
            have g122 : vals 3 = .int .i64 (s2 : Nat) := hv 3 (by decide)
            have g123 : vals 4 = .int .i64 ((s2 : Int) - 1) := hv 4 (by decide)
            have g124 : vals 5 = .int .i64 (j : Nat) := hv 5 (by decide)
            have g125 : vals 6 = .int .i64 (R : Nat) := hv 6 (by decide)
            have g126 : vals 7 = .pointer (some ⟨sq, so + R, none⟩) := hv 7 (by decide)
            have g127 : vals 8 = .int .i64 sR := hv 8 (by decide)
            have g128 : vals 9 = .slice a N cp := hv 9 (by decide)
            have g129 : vals 10 = .int .i64 (KR : Nat) := hv 10 (by decide)
            have g130 : vals 11 = .slice a KR cp := hv 11 (by decide)
            have g131 : (fun (v : Value) (w : World) => w.ownsRow w7.heap.size 74 6 v (ps.take KR).length (entFlat (ps.take KR))) (vals 12) wz := hv 12 (by decide)
            clear hv
            simp only [List.take_succ_cons, List.take_zero, List.drop_succ_cons, List.drop_zero]
            simp only [putAll, Act.put, List.setIfInBounds_toArray, List.set_cons_zero, List.set_cons_succ, g119, g120, g121, g122, g123, g124, g125, g126, g127, g128, g129, g130]
            clear g119
            clear g120
            clear g121
            clear g122
            clear g123
            clear g124
            clear g125
            clear g126
            clear g127
            clear g128
            clear g129
            clear g130
            generalize vals 12 = v131 at *
            have HT8 := Lib.hid (HT7.out.extend hz)
            obtain ⟨mb, mm, mk, rfl⟩ := ownSlice g131
            have hmap : (ps.take KR).map (·.2) = l.take KR := by rw [List.map_take, HPS.out]
            have HRW8 := Lib.hid g131
            clear g131 hz
            go_wp2_with fail
            refine (heardS12_any HT8.out.ib sR HWF.out.2 _ (ps.take KR) (by rw [List.length_take, HPL.out]; have := HN100.out; omega) (fun w' ht => ⟨SlN.ofOwn (rowOwn HRW8.out fun k hk => ht.block k (HRW8.out.lt k hk).2 (fun hs => by have h1 := (HT7.out.ib.lt k hs).2; have h2 := (HRW8.out.lt k hk).1; omega)), fun q hq => by
              have h1 := (HFL.out W (Ext.refl W)).2 q (List.mem_of_mem_take hq)
              exact Sl.below h1 (extOf12 HT8.out.ext ht (fun k hk => (HT8.out.ib.lt k hk).1))⟩)).mono ?_
            rw [hmap]
            unfold GivesHeardS12
            rw [HJ2.out.1]
            rintro e w9 ⟨rfl, hl9⟩
            obtain ⟨SB9, hT9⟩ := HT8.out.stepB hl9
            have HT9 := Lib.hid (show Two12 W SA7 SB9 xa xb (sa.hear sj (l.take Kj)) (sb.hear sR (l.take KR)) w9 ∧ Quo.Tl c l (kk12 l ns) (List.range (j + 1)) (sa.hear sj (l.take Kj)) ∧ Quo.Tl c l (kk12 l ns) (Quo.back s2 (j + 1)) (sb.hear sR (l.take KR)) ∧ M2 = Quo.mx (kk12 l ns) (List.range (j + 1)) from ⟨hT9, HJ1.out.2, HJ2.out.2, HM2.out.2.2⟩)
            clear hl9 hT9 hmap
            go_wp2_with fail
            go_roundw
            case rel => exact ⟨j + 1, _, _, _, _, M2, by omega, by go_num, rfl, HM2.out.2.1, HT9⟩
            case measure => simp [intOf]; omega
      · obtain rfl : j = s2 := by omega
        have hda := hI.out.2.1.done HR.out (by rw [List.length_range, HLN.out.2.2])
        have hdb := hI.out.2.2.1.done HR.out (by unfold Quo.back; rw [List.length_map, List.length_range, HLN.out.2.2])
        have hla := hI.out.2.1.long (kk12_le l ns)
        have hlb := hI.out.2.2.1.long (kk12_le l ns)
        rw [Quo.back_all, ← hI.out.2.2.2] at hlb
        rw [← hI.out.2.2.2] at hla
        have HD := Lib.hid (And.intro (And.intro hda hdb) (And.intro hla hlb))
        have HM := Lib.hid hM
        clear hda hdb hla hlb
        go_wp2_with fail
        refine (tail12_any hI.out.1.ia).mono ?_
        rw [HD.out.1.1, HD.out.2.1]
        rintro e w7 ⟨u7, q7, rfl, hE7, hrow7, hqs7, hq7⟩
        obtain ⟨xa1, xa2, xa3, rfl⟩ := ownSlice hrow7
        have HT7 := Lib.hid (hI.out.1.extend hE7)
        have HX7 := Lib.hid (show ∀ w', Ext w7 w' → SlN 6 w' (.slice xa1 xa2 xa3) q7.length (entFlat q7) ∧ ∀ q ∈ q7, Ints w' q.1 q.2.cut from fun w' h => ⟨SlN.below (SlN.ofOwn hrow7) h, fun q hq => Sl.below (hq7 q hq).row.ints h⟩)
        have HQ7 := Lib.hid (show q7.map (·.2) = l.take M ∧ q7.length ≤ 13107 from ⟨hqs7, by
          have h1 := congrArg List.length hqs7
          simp only [orNil12, List.length_map, List.length_take] at h1
          have := HN100.out
          have := HM.out
          omega⟩)
        clear hE7 hrow7 hqs7 hq7
        go_wp2_with fail
        refine (tail12_any HT7.out.ib).mono ?_
        rw [HD.out.1.2, HD.out.2.2]
        rintro e w8 ⟨u8, q8, rfl, hE8, hrow8, hqs8, hq8⟩
        obtain ⟨xb1, xb2, xb3, rfl⟩ := ownSlice hrow8
        have HT8 := Lib.hid (HT7.out.extend hE8)
        have HX7' := Lib.hid (fun w' (h : Ext w8 w') => HX7.out w' (hE8.trans h))
        have HX8 := Lib.hid (show ∀ w', Ext w8 w' → SlN 6 w' (.slice xb1 xb2 xb3) q8.length (entFlat q8) ∧ ∀ q ∈ q8, Ints w' q.1 q.2.cut from fun w' h => ⟨SlN.below (SlN.ofOwn hrow8) h, fun q hq => Sl.below (hq8 q hq).row.ints h⟩)
        have HQ8 := Lib.hid (show q8.map (·.2) = l.take M ∧ q8.length ≤ 13107 from ⟨hqs8, by
          have h1 := congrArg List.length hqs8
          simp only [orNil12, List.length_map, List.length_take] at h1
          have := HN100.out
          have := HM.out
          omega⟩)
        have hslM : ∀ wy : World, (Instr.sliceAt 27 (.slice a N cp) none (some (.int .i64 (M : Int))) none).run Try.prog wy = .ok (.slice a M cp) wy := fun wy => runTo (size := 6) Try.underlying27 (by kernel_rfl) M (by omega) .i64
        have HSLM := Lib.hid hslM
        have HENM := Lib.hid (show ∀ w', Ext w8 w' → Ents w' (.slice a M cp) (l.take M) from fun w' h => (HEN.out w' (HT8.out.ext.trans h)).take M (by rw [HLN.out.1]; exact HM.out))
        clear hE8 hrow8 hqs8 hq8 hslM HX7
        go_upto_region 22 with fail
        refine wp_region_facts (by kernel_rfl) Ext (fun iop v w => match iop with
            | 0 => v = .bool true
            | 1 => v = .bool true
            | 2 => v = .bool true
            | 3 => v = .bool true
            | 4 => v = .bool true
            | 5 => v = .bool true
            | 6 => v = .bool true
            | 7 => v = .bool true
            | 8 => v = .slice xa1 xa2 xa3
            | 9 => Ents w v (l.take M)
            | 10 => v = .slice a N cp
            | 11 => v = .int .i64 (M : Nat)
            | 12 => v = .slice a M cp
            | 13 => v = .bool true
            | 14 => v = .bool true
            | 15 => v = .bool true
            | 16 => v = .slice xb1 xb2 xb3
            | 17 => Ents w v (l.take M)
            | 18 => v = .slice a N cp
            | 19 => v = .int .i64 (M : Nat)
            | 20 => v = .slice a M cp
            | 21 => v = .bool true
            | 22 => v = .bool true
            | _ => v = .bool true
            ) (by kernel_rfl) (fun _ _ _ h k => Ext.trans h k) (fun a => Ext.refl a) (Ext.drew _) ?_ ?_ ?_
        · intro iop v wa wb hF hL
          iterate 9 (rcases iop with _ | iop; exact hF)
          rcases iop with _ | iop; (first | exact hF | exact Ents.below hF hL)
          iterate 7 (rcases iop with _ | iop; exact hF)
          rcases iop with _ | iop; (first | exact hF | exact Ents.below hF hL)
          iterate 5 (rcases iop with _ | iop; exact hF)
          exact hF
        · refine Obls.cons ?_ (Obls.cons ?_ (Obls.cons ?_ (Obls.cons ?_ (Obls.cons ?_ (Obls.cons ?_ (Obls.cons ?_ (Obls.cons ?_ (Obls.cons ?_ (Obls.cons ?_ (Obls.cons ?_ (Obls.cons ?_ (Obls.cons ?_ (Obls.cons ?_ (Obls.cons ?_ (Obls.cons ?_ (Obls.cons ?_ (Obls.cons ?_ (Obls.cons ?_ (Obls.cons ?_ (Obls.cons ?_ (Obls.cons ?_ (Obls.cons ?_ (Obls.cons ?_ (Obls.nil))))))))))))))))))))))))
          · intro ev wy hp hl hk hd
            clear hk hd
            refine Yield.call rfl hp Try.func9 rfl (by kernel_rfl) ?_
            simp only [List.map_toArray, List.map_nil]
            exact ((alive12_any wy)).mono fun _ _ ⟨he, hb⟩ => ⟨_, he, hb, by first | rfl | simp⟩
          · intro ev wy hp hl hk hd
            have e145 : ev (.tmp 145) = .bool true := hk 145 (by decide)
            clear hk hd
            exact Yield.mv rfl ⟨Ext.refl _, e145⟩
          · intro ev wy hp hl hk hd
            have e16 : ev (.tmp 16) = .bool true := hk 16 (by decide)
            clear hk
            refine ⟨fun _ _ _ => ?_, fun _ hx hne => absurd hx hne⟩
            clear hd
            exact Yield.mv rfl ⟨Ext.refl _, e16⟩
          · intro ev wy hp hl hk hd
            have e146 : ev (.tmp 146) = .bool true := hk 146 (by decide)
            have e147 : ev (.tmp 147) = .bool true := hk 147 (by decide)
            clear hk hd
            exact Yield.pick (t := true) rfl e146 ⟨Ext.refl _, e147⟩
          · intro ev wy hp hl hk hd
            have e148 : ev (.tmp 148) = .bool true := hk 148 (by decide)
            clear hk hd
            exact Yield.mv rfl ⟨Ext.refl _, e148⟩
          · intro ev wy hp hl hk hd
            have e18 : ev (.tmp 18) = .bool true := hk 18 (by decide)
            clear hk
            refine ⟨fun _ _ _ => ?_, fun _ hx hne => absurd hx hne⟩
            clear hd
            exact Yield.mv rfl ⟨Ext.refl _, e18⟩
          · intro ev wy hp hl hk hd
            have e149 : ev (.tmp 149) = .bool true := hk 149 (by decide)
            have e150 : ev (.tmp 150) = .bool true := hk 150 (by decide)
            clear hk hd
            exact Yield.pick (t := true) rfl e149 ⟨Ext.refl _, e150⟩
          · intro ev wy hp hl hk hd
            have e151 : ev (.tmp 151) = .bool true := hk 151 (by decide)
            clear hk hd
            exact Yield.mv rfl ⟨Ext.refl _, e151⟩
          · intro ev wy hp hl hk hd
            have e15 : ev (.tmp 15) = .slice xa1 xa2 xa3 := hk 15 (by decide)
            clear hk
            refine ⟨fun _ _ _ => ?_, fun _ hx hne => absurd hx hne⟩
            clear hd
            exact Yield.mv rfl ⟨Ext.refl _, e15⟩
          · intro ev wy hp hl hk hd
            have e153 : ev (.tmp 153) = .slice xa1 xa2 xa3 := hk 153 (by decide)
            clear hk
            refine ⟨fun _ _ _ => ?_, fun _ hx hne => absurd hx hne⟩
            clear hd
            refine Yield.call rfl hp Try.func20 rfl (by kernel_rfl) ?_
            simp only [List.map_toArray, List.map_cons, List.map_nil, e153]
            exact ((show Calls Try.prog 20 #[.slice xa1 xa2 xa3] wy fun e w' => ∃ u, e = .returned u ∧ Ext wy w' ∧ Ents w' u (l.take M) from (entries12l_any _ q7 wy (HX7'.out wy hl).1 (HX7'.out wy hl).2 HQ7.out.2).mono fun e w' ⟨u, h1, h2, h3⟩ => ⟨u, h1, h3, by have h4 := ents_of_flat (HX7'.out w' (hl.trans h3)).2 (SlN.ofOwn h2); rw [HQ7.out.1] at h4; exact h4⟩)).mono fun _ _ ⟨u, he, hb, hu⟩ => ⟨u, he, hb, hu⟩
          · intro ev wy hp hl hk hd
            have e1 : ev (.tmp 1) = .slice a N cp := hk 1 (by decide)
            clear hk
            refine ⟨fun _ _ _ => ?_, fun _ hx hne => absurd hx hne⟩
            clear hd
            exact Yield.mv rfl ⟨Ext.refl _, e1⟩
          · intro ev wy hp hl hk hd
            have e11 : ev (.tmp 11) = .int .i64 (M : Nat) := hk 11 (by decide)
            clear hk
            refine ⟨fun _ _ _ => ?_, fun _ hx hne => absurd hx hne⟩
            clear hd
            exact Yield.mv rfl ⟨Ext.refl _, e11⟩
          · intro ev wy hp hl hk hd
            have e155 : ev (.tmp 155) = .slice a N cp := hk 155 (by decide)
            have e156 : ev (.tmp 156) = .int .i64 (M : Nat) := hk 156 (by decide)
            clear hk
            refine ⟨fun _ _ _ => ?_, fun _ hx hne => absurd hx hne⟩
            clear hd
            exact Yield.slice rfl e155 (by simp only [Option.map_some, Option.map_none, e156]; exact HSLM.out wy) ⟨Ext.refl _, rfl⟩
          · intro ev wy hp hl hk hd
            have f154 : (fun (v : Value) (w : World) => Ents w v (l.take M)) (ev (.tmp 154)) wy := hk 154 (by decide)
            generalize hx154 : ev (.tmp 154) = x154 at *
            have e157 : ev (.tmp 157) = .slice a M cp := hk 157 (by decide)
            clear hk
            refine ⟨fun _ _ _ => ?_, fun _ hx hne => absurd hx hne⟩
            clear hd
            refine Yield.call rfl hp Try.func19 rfl (by kernel_rfl) ?_
            simp only [List.map_toArray, List.map_cons, List.map_nil, hx154, e157]
            exact ((refSameAll11 _ _ (l.take M) wy f154 (HENM.out wy hl))).mono fun _ _ ⟨he, hb⟩ => ⟨_, he, hb, by first | rfl | simp⟩
          · intro ev wy hp hl hk hd
            have e152 : ev (.tmp 152) = .bool true := hk 152 (by decide)
            have e158 : ev (.tmp 158) = .bool true := hk 158 (by decide)
            clear hk hd
            exact Yield.pick (t := true) rfl e152 ⟨Ext.refl _, e158⟩
          · intro ev wy hp hl hk hd
            have e159 : ev (.tmp 159) = .bool true := hk 159 (by decide)
            clear hk hd
            exact Yield.mv rfl ⟨Ext.refl _, e159⟩
          · intro ev wy hp hl hk hd
            have e17 : ev (.tmp 17) = .slice xb1 xb2 xb3 := hk 17 (by decide)
            clear hk
            refine ⟨fun _ _ _ => ?_, fun _ hx hne => absurd hx hne⟩
            clear hd
            exact Yield.mv rfl ⟨Ext.refl _, e17⟩
          · intro ev wy hp hl hk hd
            have e161 : ev (.tmp 161) = .slice xb1 xb2 xb3 := hk 161 (by decide)
            clear hk
            refine ⟨fun _ _ _ => ?_, fun _ hx hne => absurd hx hne⟩
            clear hd
            refine Yield.call rfl hp Try.func20 rfl (by kernel_rfl) ?_
            simp only [List.map_toArray, List.map_cons, List.map_nil, e161]
            exact ((show Calls Try.prog 20 #[.slice xb1 xb2 xb3] wy fun e w' => ∃ u, e = .returned u ∧ Ext wy w' ∧ Ents w' u (l.take M) from (entries12l_any _ q8 wy (HX8.out wy hl).1 (HX8.out wy hl).2 HQ8.out.2).mono fun e w' ⟨u, h1, h2, h3⟩ => ⟨u, h1, h3, by have h4 := ents_of_flat (HX8.out w' (hl.trans h3)).2 (SlN.ofOwn h2); rw [HQ8.out.1] at h4; exact h4⟩)).mono fun _ _ ⟨u, he, hb, hu⟩ => ⟨u, he, hb, hu⟩
          · intro ev wy hp hl hk hd
            have e1 : ev (.tmp 1) = .slice a N cp := hk 1 (by decide)
            clear hk
            refine ⟨fun _ _ _ => ?_, fun _ hx hne => absurd hx hne⟩
            clear hd
            exact Yield.mv rfl ⟨Ext.refl _, e1⟩
          · intro ev wy hp hl hk hd
            have e11 : ev (.tmp 11) = .int .i64 (M : Nat) := hk 11 (by decide)
            clear hk
            refine ⟨fun _ _ _ => ?_, fun _ hx hne => absurd hx hne⟩
            clear hd
            exact Yield.mv rfl ⟨Ext.refl _, e11⟩
          · intro ev wy hp hl hk hd
            have e163 : ev (.tmp 163) = .slice a N cp := hk 163 (by decide)
            have e164 : ev (.tmp 164) = .int .i64 (M : Nat) := hk 164 (by decide)
            clear hk
            refine ⟨fun _ _ _ => ?_, fun _ hx hne => absurd hx hne⟩
            clear hd
            exact Yield.slice rfl e163 (by simp only [Option.map_some, Option.map_none, e164]; exact HSLM.out wy) ⟨Ext.refl _, rfl⟩
          · intro ev wy hp hl hk hd
            have f162 : (fun (v : Value) (w : World) => Ents w v (l.take M)) (ev (.tmp 162)) wy := hk 162 (by decide)
            generalize hx162 : ev (.tmp 162) = x162 at *
            have e165 : ev (.tmp 165) = .slice a M cp := hk 165 (by decide)
            clear hk
            refine ⟨fun _ _ _ => ?_, fun _ hx hne => absurd hx hne⟩
            clear hd
            refine Yield.call rfl hp Try.func19 rfl (by kernel_rfl) ?_
            simp only [List.map_toArray, List.map_cons, List.map_nil, hx162, e165]
            exact ((refSameAll11 _ _ (l.take M) wy f162 (HENM.out wy hl))).mono fun _ _ ⟨he, hb⟩ => ⟨_, he, hb, by first | rfl | simp⟩
          · intro ev wy hp hl hk hd
            have e160 : ev (.tmp 160) = .bool true := hk 160 (by decide)
            have e166 : ev (.tmp 166) = .bool true := hk 166 (by decide)
            clear hk hd
            exact Yield.pick (t := true) rfl e160 ⟨Ext.refl _, e166⟩
          · intro ev wy hp hl hk hd
            have e167 : ev (.tmp 167) = .bool true := hk 167 (by decide)
            clear hk hd
            exact Yield.as rfl ⟨Ext.refl _, e167⟩
        · intro vals wz hz hv
          have g145 : vals 0 = .bool true := hv 0 (by decide)
          have g146 : vals 1 = .bool true := hv 1 (by decide)
          have g147 : vals 2 = .bool true := hv 2 (by decide)
          have g148 : vals 3 = .bool true := hv 3 (by decide)
          have g149 : vals 4 = .bool true := hv 4 (by decide)
          have g150 : vals 5 = .bool true := hv 5 (by decide)
          have g151 : vals 6 = .bool true := hv 6 (by decide)
          have g152 : vals 7 = .bool true := hv 7 (by decide)
          have g153 : vals 8 = .slice xa1 xa2 xa3 := hv 8 (by decide)
          have g154 : (fun (v : Value) (w : World) => Ents w v (l.take M)) (vals 9) wz := hv 9 (by decide)
          have g155 : vals 10 = .slice a N cp := hv 10 (by decide)
          have g156 : vals 11 = .int .i64 (M : Nat) := hv 11 (by decide)
          have g157 : vals 12 = .slice a M cp := hv 12 (by decide)
          have g158 : vals 13 = .bool true := hv 13 (by decide)
          have g159 : vals 14 = .bool true := hv 14 (by decide)
          have g160 : vals 15 = .bool true := hv 15 (by decide)
          have g161 : vals 16 = .slice xb1 xb2 xb3 := hv 16 (by decide)
          have g162 : (fun (v : Value) (w : World) => Ents w v (l.take M)) (vals 17) wz := hv 17 (by decide)
          have g163 : vals 18 = .slice a N cp := hv 18 (by decide)
          have g164 : vals 19 = .int .i64 (M : Nat) := hv 19 (by decide)
          have g165 : vals 20 = .slice a M cp := hv 20 (by decide)
          have g166 : vals 21 = .bool true := hv 21 (by decide)
          have g167 : vals 22 = .bool true := hv 22 (by decide)
          have g6 : vals 23 = .bool true := hv 23 (by decide)
          clear hv
          simp only [putAll, Act.put, List.setIfInBounds_toArray, List.set_cons_zero, List.set_cons_succ, g145, g146, g147, g148, g149, g150, g151, g152, g153, g155, g156, g157, g158, g159, g160, g161, g163, g164, g165, g166, g167, g6]
          clear g145
          clear g146
          clear g147
          clear g148
          clear g149
          clear g150
          clear g151
          clear g152
          clear g153
          generalize vals 9 = v154 at *
          clear g155
          clear g156
          clear g157
          clear g158
          clear g159
          clear g160
          clear g161
          generalize vals 17 = v162 at *
          clear g163
          clear g164
          clear g165
          clear g166
          clear g167
          clear g6
          have HFIN := Lib.hid (HE0.out.trans (HT8.out.ext.trans hz))
          clear hz g154 g162
          go_wp2_with fail
          go_ret
          exact ⟨rfl, HFIN.out⟩
namespace quorumTails
theorem own : ownKnob Try.prog.godebug = none := by kernel_rfl
theorem laidOut : laidOutB Try.prog = true := by kernel_rfl
set_option linter.unusedVariables false in
set_option maxRecDepth 100000 in
theorem lifted (os : Os) (started : os.Started) (H : Type) (enc : TypeId × Value → H) :
    ReturnsInHanded {} Try.checked os 7 .any (Rows.quorumTailsSpec.pre6 enc Try.prog Try.f7 Rows.quorumTailsRow.domain false) (Rows.quorumTailsSpec.post enc Try.prog Try.f7 false true false false) := by
  refine returnsInHanded_of_change_sized (C := Try.checked) own started (by kernel_rfl) Try.func7
    (ChangeSpec.witness6 (enc := enc) (C := Try.checked) false ⟨#[], #[.agg #[.int .i64 0, .slice none 0 0, .slice none 0 0], .slice none 0 0, .slice none 0 0], []⟩ 8 (by kernel_rfl) (by kernel_rfl) (by kernel_rfl) (by kernel_rfl)) ?_
  intro W base args ds gs before hval0 hW hcnd hsz _
  have hval : ∀ (j : Nat) t v, Try.f7.params[j]? = some t → args[j]? = some v → Value.okWide Try.prog W .any base t v := hval0
  have hW' := hW
  obtain ⟨p, q, hA0, hV, rfl, hfz, hnd⟩ := hW'
  have hA : DataW.TrodAll enc Try.prog W 0 (fun _ => true) true Try.f7.params.toList args.toList ds p := hA0
  rw [Try.params7] at hA hval
  obtain ⟨v0, vs0, d0, ds0, p0, q0, hargs, rfl, rfl, h0, r0⟩ := trodAll_cons hA
  obtain ⟨v1, vs1, d1, ds1, p1, q1, rfl, rfl, rfl, h1, r1⟩ := trodAll_cons r0
  obtain ⟨v2, vs2, d2, ds2, p2, q2, rfl, rfl, rfl, h2, r2⟩ := trodAll_cons r1
  obtain ⟨rfl, rfl, rfl⟩ := trodAll_nil r2
  obtain rfl : args = #[v0, v1, v2] := by cases args; simp_all
  obtain ⟨rfl, rfl⟩ := trodVars_none hV
  have k0 := h0
  have lt0 : ∀ x ∈ p0, x.block < W.heap.size := by obtain ⟨m, hm⟩ := k0; exact DataW.trod_lt m _ _ _ hm
  obtain ⟨l0, w0⟩ := conf_arg (hval 0 25 v0 rfl rfl) h0
  have k1 := h1
  have lt1 : ∀ x ∈ p1, x.block < W.heap.size := by obtain ⟨m, hm⟩ := k1; exact DataW.trod_lt m _ _ _ hm
  obtain ⟨a1, len1, cap1, rfl⟩ := okWide_slice Try.underlying27 (hval 1 27 v1 rfl rfl)
  obtain ⟨l1, w1⟩ : ∃ l, Ents W (.slice a1 len1 cap1) l := by
    obtain ⟨fuel, hf⟩ := h1
    obtain ⟨v, l, hcs, hb⟩ := ents_of_raw hf
    simp [Value.cells] at hcs
    subst hcs
    exact ⟨l, hb⟩
  have sz1 : len1 * 64 ≤ 140737488351232 := by obtain ⟨fuel, hf⟩ := h1; exact reach_of_raw (P := Try.prog) (x := (d1, p1)) (j := 1) hsz (by rw [Try.params7]; rfl) rfl Try.underlying27 (by kernel_rfl) hf
  have k2 := h2
  have lt2 : ∀ x ∈ p2, x.block < W.heap.size := by obtain ⟨m, hm⟩ := k2; exact DataW.trod_lt m _ _ _ hm
  obtain ⟨a2, len2, cap2, rfl⟩ := okWide_slice Try.underlying22 (hval 2 22 v2 rfl rfl)
  obtain ⟨l2, w2⟩ : ∃ l, Ints W (.slice a2 len2 cap2) l := by
    obtain ⟨fuel, hf⟩ := h2
    obtain ⟨v, l, hcs, hb⟩ := ints_of_raw Try.underlying22 Try.underlying3 (by kernel_rfl) hf
    simp [Value.cells] at hcs
    subst hcs
    exact ⟨l, hb⟩
  clear hA0 hval0
  refine (quorumTails_walk _ l0 a1 len1 cap1 l1 a2 len2 cap2 l2 W w0 w1 w2).mono fun e W' ⟨he, bel⟩ => ?_
  subst he
  exact ⟨_, rfl, _, _, _, [], _, [], hW, trodAll_mk1 (shut_bool Try.underlying4 _), (trodAll_cons_mk (Below.trod laidOut (by kernel_rfl) (of_decide_eq_true (by kernel_rfl)) k0 bel lt0) (trodAll_cons_mk (Below.trod laidOut (by kernel_rfl) (of_decide_eq_true (by kernel_rfl)) k1 bel lt1) (trodAll_cons_mk (Below.trod laidOut (by kernel_rfl) (of_decide_eq_true (by kernel_rfl)) k2 bel lt2) trodAll_mk0))), rfl, bel.frame _, fun h => by cases h⟩
theorem over : Rows.quorumTailsRow.holds Try.pinned (OpenSpec.ofChange Rows.quorumTailsSpec) :=
  OpenClaim.holds_of_wide 7 Try.f7 rfl rfl rfl rfl rfl rfl rfl ⟨rfl, rfl, rfl, rfl, rfl⟩ rfl rfl rfl rfl rfl (by kernel_rfl) Try.func7 (by kernel_rfl)
    (of_decide_eq_true (by kernel_rfl)) (by unfold Func.isWrapper; first | (rw [if_pos (by decide +kernel)]; kernel_rfl) | (rw [if_neg (by decide +kernel)]; exact ⟨rfl, rfl⟩))
    (fun os started H enc _ => lifted os started H enc)
theorem proved : Rows.QuorumTailsSaid := over
end quorumTails
end Go.Proofs.Ytnoeconcpgdjlaa
