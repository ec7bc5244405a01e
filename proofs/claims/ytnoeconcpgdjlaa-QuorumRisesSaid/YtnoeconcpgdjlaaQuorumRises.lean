/-
  QuorumRises: what is committed never falls, and is never more than there is: for every input the statement's function returns true, and leaves what came in as it was.
-/
import Derived.Test.YtnoeconcpgdjlaaBsQuP
namespace Go.Proofs.Ytnoeconcpgdjlaa
set_option linter.unusedSimpArgs false
set_option linter.unusedVariables false
open Go.ChangeShapes Go.WideShapes Go.ChangeAt Go.RowKit

set_option maxRecDepth 100000 in
set_option maxHeartbeats 40000000 in
theorem quorumRises_walk (cv : Value) (c : Term.C) (a : Option Addr) (n cp : Nat) (l : List Quo.Op) (W0 : World) (hc : IsConf W0 cv c) (h0 : Ops12 W0 (.slice a n cp) l) (hf : ∀ o ∈ l, Wf64 o.m.src) :
    Calls Try.prog 4 #[cv, .slice a n cp] W0 fun e W' => e = .returned (.bool true) ∧ Below W0.heap.size W0 W' := by
  obtain ⟨hn, hnc, hc9⟩ := h0.len
  have hbx := box_confR
  obtain ⟨s, d, rfl, hs, hd⟩ := hc
  obtain ⟨s1, s2, s3, rfl⟩ := intsSlice hs
  obtain ⟨d1, d2, d3, rfl⟩ := irowsSlice hd
  obtain ⟨tc, htc⟩ : ∃ z, c.term = z := ⟨_, rfl⟩
  unfold confV
  rw [htc]
  have hE0 : Ext W0 (W0.alloc (.cells #[.int .i64 tc, .slice s1 s2 s3, .slice d1 d2 d3] 25)) := Ext.alloc _ _
  have hq0 := heap_alloc_new W0 (.cells #[.int .i64 tc, .slice s1 s2 s3, .slice d1 d2 d3] 25)
  obtain ⟨W, hW⟩ : ∃ z, W0.alloc (.cells #[.int .i64 tc, .slice s1 s2 s3, .slice d1 d2 d3] 25) = z := ⟨_, rfl⟩
  obtain ⟨q, hq⟩ : ∃ z, W0.heap.size = z := ⟨_, rfl⟩
  rw [hW] at hE0 hq0
  rw [hq] at hq0
  have HW := Lib.hid (And.intro hW hq)
  have HQ0 := Lib.hid hq0
  have HE0 := Lib.hid hE0
  have HN := Lib.hid hn.symm
  have HL0 := Lib.hid (h0.below hE0)
  have HF := Lib.hid hf
  have HTC := Lib.hid htc
  have HCF := Lib.hid (show ∀ w', Ext W w' → IsConf w' (.agg #[.int .i64 tc, .slice s1 s2 s3, .slice d1 d2 d3]) c from fun w' h => ⟨_, _, by unfold confV; rw [htc], hs.below (hE0.trans h), hd.below (hE0.trans h)⟩)
  have HFEW := Lib.hid (fun w1 (hE1 : Ext W w1) => few12_any (.agg #[.int .i64 tc, .slice s1 s2 s3, .slice d1 d2 d3]) c _ l w1 ⟨_, _, by unfold confV; rw [htc], hs.below (hE0.trans hE1), hd.below (hE0.trans hE1)⟩ ((h0.below hE0).below hE1))
  have y0 : W.cell? ⟨q, 0, none⟩ = some (.int .i64 tc) := cell_of_heap hq0 0
  have y1 : W.cell? ⟨q, 1, none⟩ = some (.slice s1 s2 s3) := cell_of_heap hq0 1
  have y2 : W.cell? ⟨q, 2, none⟩ = some (.slice d1 d2 d3) := cell_of_heap hq0 2
  clear h0 hf hn hs hd hW hq hE0 hq0 htc
  go_enter Try.func4, Try.ntmps4
  go_upto_region 1 with fail
  rw [HW.out.1, HW.out.2]
  clear hbx
  go_wp2_with fail
  refine (new12_any W _ c (HCF.out W (Ext.refl W))).mono ?_
  rintro e w1 ⟨h, hE1⟩
  rcases h with ⟨x, hr, rfl, S1, K1, hR⟩ | ⟨_, rfl⟩
  case inr =>
    have HE1 := Lib.hid (HE0.out.trans hE1)
    clear hE1 y0 y1 y2
    go_wp2_with fail
    refine (alive12_any w1).mono ?_
    rintro e w2 ⟨rfl, hE2⟩
    have HE2 := Lib.hid (HE1.out.trans hE2)
    clear hE2
    go_wp2_with fail
    go_ret
    exact ⟨rfl, HE2.out⟩
  have HS1 := Lib.hid (Seat12.begun (Ext.refl W) hR hE1)
  have HR := Lib.hid hr
  have hq1 := heap_ext HQ0.out hE1
  have z0 : w1.cell? ⟨q, 0, none⟩ = some (.int .i64 tc) := cell_of_heap hq1 0
  have z1 : w1.cell? ⟨q, 1, none⟩ = some (.slice s1 s2 s3) := cell_of_heap hq1 1
  have z2 : w1.cell? ⟨q, 2, none⟩ = some (.slice d1 d2 d3) := cell_of_heap hq1 2
  clear hR hE1 y0 y1 y2 hr hq1
  go_wp2_with fail
  refine (HFEW.out w1 HS1.out.ext).mono ?_
  rintro e w2 ⟨⟨b, rfl⟩, hE2⟩
  have HS2 := Lib.hid (HS1.out.extend hE2)
  clear hE2 z0 z1 z2
  cases b with
  | false =>
    go_wp2_with fail
    refine (alive12_any w2).mono ?_
    rintro e w3 ⟨rfl, hE3⟩
    have HE3 := Lib.hid (HE0.out.trans (HS2.out.ext.trans hE3))
    clear hE3
    go_wp2_with fail
    go_ret
    exact ⟨rfl, HE3.out⟩
  | true =>
    go_wp2_with fail
    go_loopw [8, 9, 10, 31] (fun _ _ _ i wr => ∃ (k : Nat) (S K : Nat → Prop) (p : Quo.Pr), k ≤ n ∧ i = .int .i64 k ∧ Hid (Seat12 W S K x p wr)) (fun _ _ _ i _ => n - (intOf i).toNat)
    case atStart => exact ⟨0, _, _, _, by omega, rfl, HS2⟩
    case round =>
      obtain ⟨k, S, K, p, hk, rfl, hI⟩ := hrel
      by_cases hlt : k < n
      · have hkl : k < l.length := by rw [HN.out]; exact hlt
        obtain ⟨b, off, a2, n2, c2, a3, n3, c3, a4, n4, c4, a5, n5, c5, a6, n6, c6, rfl, hop, hldw⟩ := HL0.out.at k hkl
        have hld := hldw wr hI.out.ext
        obtain ⟨o, hO⟩ : ∃ o, l[k] = o := ⟨_, rfl⟩
        have hon := HF.out l[k] (List.getElem_mem hkl)
        rw [hO] at hld hop hon
        have HOP := Lib.hid hop
        have HON := Lib.hid hon
        clear hO hop hon hldw
        go_upto_region 7 with (first
          | (refine ldAny (by rfl) _ rfl rfl hld ?_)
          | (refine allocO12 (by rfl) rfl ?_; intro W1 q1 hat1 hE1 hq1)
          | (refine putO12 (by rfl) _ _ rfl rfl rfl hat1.out ⟨_, _, _, rfl⟩ ⟨_, _, _, rfl⟩ ⟨_, _, _, rfl⟩ ⟨_, _, _, rfl⟩ ⟨_, _, _, rfl⟩ ?_; intro W2 hat2 hB2))
        have hE2 : Ext wr W2 := Ext.newQ11 hE1.out (Nat.le_of_eq hq1.out.symm) hB2.out
        have HS3 := Lib.hid (hI.out.extend hE2)
        have HAT := Lib.hid hat2.out
        clear hE2 hat1 hE1 hq1 hat2 hB2 hld
        have hrs := Quo.rises HS3.out.pr.ok o
        go_wp2_with fail
        refine (committed12_any HS3.out.pr).mono ?_
        rintro e w4 ⟨rfl, hE4⟩
        have HS4 := Lib.hid (HS3.out.extend hE4)
        have HAT4 := Lib.hid (show OpAt12 w4 q1 o _ _ _ _ _ from heap_ext HAT.out hE4)
        obtain ⟨pc, hpc⟩ : ∃ z, p.committed = z := ⟨_, rfl⟩
        obtain ⟨pl, hpl⟩ : ∃ z, p.l.length = z := ⟨_, rfl⟩
        rw [hpc] at hrs ⊢
        rw [hpl] at hrs
        have HPL := Lib.hid hpl
        clear hE4 hpc hpl
        go_wp2_with fail
        obtain ⟨kb4, ev4, es4, hp4⟩ := HS4.out.pr
        refine (len12_any hp4.at').mono ?_
        rintro e w5 ⟨rfl, rfl⟩
        rw [HPL.out]
        have hlo := HAT4.out.ld
        clear hp4
        go_wp2_with (refine ldAny (by rfl) _ rfl rfl hlo ?_)
        refine (does12_any HS4.out.pr o _ _ _ _ _ HON.out (HOP.out _ HS4.out.ext)).mono ?_
        rintro e w6 ⟨u, rfl, _, hl6⟩
        obtain ⟨S6, K6, hs6, _⟩ := HS4.out.step hl6
        have HS6 := Lib.hid hs6
        obtain ⟨qc, hqc⟩ : ∃ z, (p.doN o).committed = z := ⟨_, rfl⟩
        obtain ⟨ql, hql⟩ : ∃ z, (p.doN o).l.length = z := ⟨_, rfl⟩
        rw [hqc, hql] at hrs
        have HQ := Lib.hid (And.intro hqc hql)
        have g1 : ¬ qc < pc := by omega
        have g2 : ¬ (ql : Int) < qc := by omega
        have g3 : ¬ (ql : Int) < (pl : Int) := by omega
        clear hl6 hs6 hqc hql hrs hlo
        go_wp2_with fail
        refine (committed12_any HS6.out.pr).mono ?_
        rw [HQ.out.1]
        rintro e w7 ⟨rfl, hE7⟩
        have HS7 := Lib.hid (HS6.out.extend hE7)
        clear hE7
        go_wp2_with fail
        refine (committed12_any HS7.out.pr).mono ?_
        rw [HQ.out.1]
        rintro e w8 ⟨rfl, hE8⟩
        have HS8 := Lib.hid (HS7.out.extend hE8)
        clear hE8
        go_wp2_with fail
        obtain ⟨kb8, ev8, es8, hp8⟩ := HS8.out.pr
        refine (len12_any hp8.at').mono ?_
        rw [HQ.out.2]
        rintro e w9 ⟨rfl, rfl⟩
        clear hp8
        go_wp2_with fail
        obtain ⟨kb8, ev8, es8, hp8⟩ := HS8.out.pr
        refine (len12_any hp8.at').mono ?_
        rw [HQ.out.2]
        rintro e w9 ⟨rfl, rfl⟩
        clear hp8
        go_wp2_with fail
        go_roundw
        case rel => exact ⟨k + 1, _, _, _, by omega, by go_num, HS8⟩
        case measure => simp [intOf]; omega
      · obtain rfl : k = n := by omega
        go_wp2_with fail
        refine (alive12_any wr).mono ?_
        rintro e w3 ⟨rfl, hE3⟩
        have HE3 := Lib.hid (HE0.out.trans (hI.out.ext.trans hE3))
        clear hE3
        go_wp2_with fail
        go_ret
        exact ⟨rfl, HE3.out⟩
namespace quorumRises
theorem own : ownKnob Try.prog.godebug = none := by kernel_rfl
theorem laidOut : laidOutB Try.prog = true := by kernel_rfl
set_option linter.unusedVariables false in
set_option maxRecDepth 100000 in
theorem lifted (os : Os) (started : os.Started) (H : Type) (enc : TypeId × Value → H) :
    ReturnsInHanded {} Try.checked os 4 .any (Rows.quorumRisesSpec.pre6 enc Try.prog Try.f4 Rows.quorumRisesRow.domain false) (Rows.quorumRisesSpec.post enc Try.prog Try.f4 false true false false) := by
  refine returnsInHanded_of_change_sized (C := Try.checked) own started (by kernel_rfl) Try.func4
    (ChangeSpec.witness6 (enc := enc) (C := Try.checked) false ⟨#[], #[.agg #[.int .i64 0, .slice none 0 0, .slice none 0 0], .slice none 0 0], []⟩ 8 (by kernel_rfl) (by kernel_rfl) (by kernel_rfl) (by kernel_rfl)) ?_
  intro W base args ds gs before hval0 hW hcnd hsz _
  have hval : ∀ (j : Nat) t v, Try.f4.params[j]? = some t → args[j]? = some v → Value.okWide Try.prog W .any base t v := hval0
  have hW' := hW
  obtain ⟨p, q, hA0, hV, rfl, hfz, hnd⟩ := hW'
  have hA : DataW.TrodAll enc Try.prog W 0 (fun _ => true) true Try.f4.params.toList args.toList ds p := hA0
  rw [Try.params4] at hA hval
  obtain ⟨v0, vs0, d0, ds0, p0, q0, hargs, rfl, rfl, h0, r0⟩ := trodAll_cons hA
  obtain ⟨v1, vs1, d1, ds1, p1, q1, rfl, rfl, rfl, h1, r1⟩ := trodAll_cons r0
  obtain ⟨rfl, rfl, rfl⟩ := trodAll_nil r1
  obtain rfl : args = #[v0, v1] := by cases args; simp_all
  obtain ⟨rfl, rfl⟩ := trodVars_none hV
  have k0 := h0
  have lt0 : ∀ x ∈ p0, x.block < W.heap.size := by obtain ⟨m, hm⟩ := k0; exact DataW.trod_lt m _ _ _ hm
  obtain ⟨l0, w0⟩ := conf_arg (hval 0 25 v0 rfl rfl) h0
  have k1 := h1
  have lt1 : ∀ x ∈ p1, x.block < W.heap.size := by obtain ⟨m, hm⟩ := k1; exact DataW.trod_lt m _ _ _ hm
  obtain ⟨a1, len1, cap1, rfl⟩ := okWide_slice Try.underlying53 (hval 1 53 v1 rfl rfl)
  obtain ⟨l1, w1, f1⟩ : ∃ l, Ops12 W (.slice a1 len1 cap1) l ∧ ∀ o ∈ l, Wf64 o.m.src := by
    obtain ⟨fuel, hf⟩ := h1
    obtain ⟨v, l, hcs, hb, hft⟩ := ops12_of_raw hf
    simp [Value.cells] at hcs
    subst hcs
    exact ⟨l, hb, hft⟩
  clear hA0 hval0
  refine (quorumRises_walk _ l0 a1 len1 cap1 l1 W w0 w1 f1).mono fun e W' ⟨he, bel⟩ => ?_
  subst he
  exact ⟨_, rfl, _, _, _, [], _, [], hW, trodAll_mk1 (shut_bool Try.underlying4 _), (trodAll_cons_mk (Below.trod laidOut (by kernel_rfl) (of_decide_eq_true (by kernel_rfl)) k0 bel lt0) (trodAll_cons_mk (Below.trod laidOut (by kernel_rfl) (of_decide_eq_true (by kernel_rfl)) k1 bel lt1) trodAll_mk0)), rfl, bel.frame _, fun h => by cases h⟩
theorem over : Rows.quorumRisesRow.holds Try.pinned (OpenSpec.ofChange Rows.quorumRisesSpec) :=
  OpenClaim.holds_of_wide 4 Try.f4 rfl rfl rfl rfl rfl rfl rfl ⟨rfl, rfl, rfl, rfl, rfl⟩ rfl rfl rfl rfl rfl (by kernel_rfl) Try.func4 (by kernel_rfl)
    (of_decide_eq_true (by kernel_rfl)) (by unfold Func.isWrapper; first | (rw [if_pos (by decide +kernel)]; kernel_rfl) | (rw [if_neg (by decide +kernel)]; exact ⟨rfl, rfl⟩))
    (fun os started H enc _ => lifted os started H enc)
theorem proved : Rows.QuorumRisesSaid := over
end quorumRises
end Go.Proofs.Ytnoeconcpgdjlaa
