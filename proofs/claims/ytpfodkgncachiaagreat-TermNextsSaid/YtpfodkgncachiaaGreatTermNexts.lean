/-
  TermNexts: the next term's configuration, without any nodes, is what the document says; it is right, and has none of them: for every input the statement's function returns true, and leaves what came in as it was.
-/
import Derived.Test.YtpfodkgncachiaaGreatTrmRaw
namespace Go.Proofs.YtpfodkgncachiaaGreat
set_option maxRecDepth 100000
set_option linter.unusedSimpArgs false
set_option linter.unusedVariables false
open Go.ChangeShapes Go.WideShapes Go.ChangeAt Go.RowKit

theorem rightAll {c : Term.C} (h : Term.right c = true) : (Term.all c).length ≤ 100 ∧ c.shards.length ≤ 8 ∧ ∀ y ∈ Term.all c, Wf64 y := by
  obtain ⟨h1, h2, h3, h4, h5⟩ := Term.right_ok h
  have hfl : ∀ ls : List (List Int), (∀ l ∈ ls, Term.okShard l = true) → ls.flatten.length ≤ 3 * ls.length := by
    intro ls
    induction ls with
    | nil => intro _; simp
    | cons l ls ih =>
      intro hl
      have := (Term.shard_ok (hl l (by simp))).2.1
      have := ih (fun m hm => hl m (by simp [hm]))
      rw [List.flatten_cons, List.length_append, List.length_cons]
      omega
  have hb : ∀ y ∈ Term.all c, 0 ≤ y ∧ y ≤ 15 := by
    intro y hy
    rcases List.mem_append.1 hy with hy | hy
    · exact (Term.unlike_ok h5).1 y hy
    · obtain ⟨l, hl, hy⟩ := List.mem_flatten.1 hy
      exact (Term.unlike_ok (Term.shard_ok (h3 l hl)).2.2).1 y hy
  refine ⟨?_, h2.2, fun y hy => ?_⟩
  · have := hfl c.shards h3
    unfold Term.all
    rw [List.length_append]
    omega
  · have := hb y hy
    unfold Wf64
    exact WalkArith.wf_i64 (by omega)
theorem hasI_iff {l : List Int} {x : Int} : hasI l x = true ↔ x ∈ l := by unfold hasI; rw [List.contains_eq_mem, decide_eq_true_eq]
theorem hasI_not {l : List Int} {x : Int} : hasI l x = false ↔ x ∉ l := by unfold hasI; rw [List.contains_eq_mem, decide_eq_false_iff_not]

set_option maxHeartbeats 16000000 in
theorem termNexts_walk (v gv : Value) (c : Term.C) (gone : List Int) (W : World) (hv : IsConf W v c) (hg : Ints W gv gone) :
    Calls Tryz.prog 6 #[v, gv] W fun e W' => e = .returned (.bool true) ∧ Below W.heap.size W W' := by
  have HV := Lib.hid hv
  have HG := Lib.hid hg
  have hbx := box_confR
  obtain ⟨s, d, rfl, hs, hd⟩ := hv
  obtain ⟨a1, p1, rfl, _⟩ := hs.open
  obtain ⟨b1, q1, rfl, hq1, hm1, _⟩ := hd.open
  obtain ⟨ga, gc, rfl, hgc, hgm, _⟩ := hg.open
  unfold maxLen at hm1 hgm
  clear hs hd hg
  obtain ⟨t, ht⟩ : ∃ t, c.term = t := ⟨_, rfl⟩
  have HTT := Lib.hid ht
  unfold confV at *
  rw [ht] at HV ⊢
  clear ht
  have h1 := fun (w : World) h1 h2 => next6_any (.agg #[.int .i64 t, .slice a1 c.seqs.length p1, .slice b1 c.shards.length q1]) (.slice ga gone.length gc) c gone w h1 h2
  have h2 := fun (w : World) h1 h2 => refNext6_any (.agg #[.int .i64 t, .slice a1 c.seqs.length p1, .slice b1 c.shards.length q1]) (.slice ga gone.length gc) c gone w h1 h2
  unfold GivesNext6 at h1 h2
  obtain ⟨N, hN⟩ : ∃ N, orNoC (Term.nextOk c gone) (Term.next c gone) = N := ⟨_, rfl⟩
  rw [hN] at h1 h2
  obtain ⟨ok, hok⟩ : ∃ ok, Term.nextOk c gone = ok := ⟨_, rfl⟩
  rw [hok] at h1 h2 hN
  have H1 := Lib.hid h1
  have H2 := Lib.hid h2
  have HN := Lib.hid hN
  have HOK := Lib.hid hok
  have hNE : (ok != ok) = false := by cases ok <;> rfl
  have HSELF := Lib.hid (Term.alike_self N)
  clear h1 h2 hN hok
  have hE0 : Ext W (W.alloc (.cells #[.int .i64 t, .slice a1 c.seqs.length p1, .slice b1 c.shards.length q1] 25)) := Ext.alloc _ _
  have HA0 := Lib.hid (ConfAt.new 25 W t (.slice a1 c.seqs.length p1) (.slice b1 c.shards.length q1))
  go_enter Tryz.func6, Tryz.ntmps6
  go_wp2_with fail
  refine (fewSome6_any _ c _ (HV.out.below hE0)).mono ?_
  unfold SomeBool
  rintro e w1 ⟨⟨fb, rfl⟩, hE1⟩
  have A1 := Lib.hid (HA0.out.ext hE1)
  have e1 := hE0.trans hE1
  obtain ⟨q, hq⟩ : ∃ q, W.heap.size = q := ⟨_, rfl⟩
  rw [hq] at A1
  cases fb with
  | false =>
    go_wp2_with fail
    refine (termAlive_any _).mono ?_
    rintro e w2 ⟨rfl, hE2⟩
    go_wp2_with fail
    go_ret
    exact ⟨rfl, e1.trans hE2⟩
  | true =>
    by_cases hlong : (100 : Int) < (gone.length : Int)
    · go_wp2_with fail
      refine (termAlive_any _).mono ?_
      rintro e w2 ⟨rfl, hE2⟩
      go_wp2_with fail
      go_ret
      exact ⟨rfl, e1.trans hE2⟩
    · obtain ⟨c0, c1, c2⟩ := A1.out.cells
      rw [hq]
      go_wp2_with fail
      refine (H1.out _ (HV.out.below e1) (HG.out.below e1)).mono ?_
      rintro e w2 ⟨u2, rfl, hi2, hE2⟩
      have e2 := e1.trans hE2
      have HI2 := Lib.hid hi2
      obtain ⟨s2, d2, rfl, hs2, hd2⟩ := hi2
      obtain ⟨a2, p2, rfl, _⟩ := hs2.open
      obtain ⟨b2, q2, rfl, hq2, hm2, _⟩ := hd2.open
      unfold maxLen at hm2
      unfold confV at *
      have hE3 := Ext.alloc w2 (.cells #[.int .i64 N.term, .slice a2 N.seqs.length p2, .slice b2 N.shards.length q2] 32)
      have X3 := Lib.hid (ConfAt.new 32 w2 N.term (.slice a2 N.seqs.length p2) (.slice b2 N.shards.length q2))
      have A3 := Lib.hid ((A1.out.ext hE2).ext hE3)
      have e3 := e2.trans hE3
      have HI3 := Lib.hid (HI2.out.below hE3)
      clear c0 c1 c2 hs2 hd2
      obtain ⟨c0, c1, c2⟩ := A3.out.cells
      go_wp2_with fail
      obtain ⟨p, hp⟩ : ∃ p, w2.heap.size = p := ⟨_, rfl⟩
      rw [hp] at X3 ⊢
      obtain ⟨w3, hw3⟩ : ∃ w3, w2.alloc (.cells #[.int .i64 N.term, .slice a2 N.seqs.length p2, .slice b2 N.shards.length q2] 32) = w3 := ⟨_, rfl⟩
      rw [hw3] at X3 A3 e3 HI3 c0 c1 c2 ⊢
      clear hw3 hp hE3
      refine (H2.out _ (HV.out.below e3) (HG.out.below e3)).mono ?_
      rintro e w4 ⟨u4, rfl, hi4, hE4⟩
      have HI4 := Lib.hid hi4
      obtain ⟨a4, n4, p4, b4, m4, q4, rfl⟩ := hi4.shape
      have hE5 := Ext.alloc w4 (.cells #[.int .i64 N.term, .slice a4 n4 p4, .slice b4 m4 q4] 25)
      have e5 := (e3.trans hE4).trans hE5
      have X5 := Lib.hid ((X3.out.ext hE4).ext hE5)
      have A5 := Lib.hid ((A3.out.ext hE4).ext hE5)
      have HI5 := Lib.hid ((HI3.out.below hE4).below hE5)
      have HM5 := Lib.hid (HI4.out.below hE5)
      clear c0 c1 c2 hi4
      obtain ⟨y0, y1, y2⟩ := X5.out.cells
      go_wp2_with fail
      refine (refSame6_any _ _ N N _ HI5.out HM5.out).mono ?_
      rw [HSELF.out]
      rintro e w6 ⟨rfl, hE6⟩
      obtain ⟨w5, hw5⟩ : ∃ w5, w4.alloc (.cells #[.int .i64 N.term, .slice a4 n4 p4, .slice b4 m4 q4] 25) = w5 := ⟨_, rfl⟩
      rw [hw5] at X5 A5 HI5 e5 hE6 HM5
      have e6 := e5.trans hE6
      have X6 := Lib.hid (X5.out.ext hE6)
      have A6 := Lib.hid (A5.out.ext hE6)
      have HI6 := Lib.hid (HI5.out.below hE6)
      clear y0 y1 y2 hw5 hE5
      cases ok with
      | false =>
        go_wp2_with fail
        refine (termAlive_any _).mono ?_
        rintro e w7 ⟨rfl, hE7⟩
        go_wp2_with fail
        go_ret
        exact ⟨rfl, e6.trans hE7⟩
      | true =>
        have hNx : Term.next c gone = N := HN.out
        have hrr : Term.right c = true ∧ Term.right N = true := by
          have h := HOK.out
          unfold Term.nextOk at h
          rw [Bool.and_eq_true, hNx] at h
          exact h
        have HRC := Lib.hid hrr.1
        have HRN := Lib.hid hrr.2
        have HMEM := Lib.hid (show ∀ x, x ∈ Term.nodes N → hasI gone x = false ∧ hasI (Term.nodes c) x = true from fun x hx => by
          rw [← hNx] at hx
          have h := Term.next_nodes hx
          exact ⟨hasI_not.2 h.2, hasI_iff.2 h.1⟩)
        have HTERM := Lib.hid (show N.term = t + 1 by rw [← hNx, ← HTT.out]; rfl)
        have HSHL := Lib.hid (show N.shards.length = c.shards.length by rw [← hNx]; show (List.map _ _).length = _; simp)
        have ht64 : 1 ≤ t ∧ t ≤ 64 := by have := (Term.right_ok hrr.1).1; rw [HTT.out] at this; exact this
        have HNN := Lib.hid (fun (w : World) (h : IsConf w (.agg #[.int .i64 N.term, .slice a2 N.seqs.length p2, .slice b2 N.shards.length q2]) N) => nodes6_any _ N w h (by have := (rightAll hrr.2).1; omega) (by have := (rightAll hrr.2).2.1; omega) (rightAll hrr.2).2.2)
        have HNC := Lib.hid (fun (w : World) (h : IsConf w (.agg #[.int .i64 t, .slice a1 c.seqs.length p1, .slice b1 c.shards.length q1]) c) => refNodes6_any _ c w h (by have := (rightAll hrr.1).1; omega))
        obtain ⟨y0, y1, y2⟩ := X6.out.cells
        clear hNx hrr
        go_wp2_with fail
        clear y0 y1 y2
        refine (HNN.out _ HI6.out).mono ?_
        rintro e w7 ⟨u7, rfl, ho7, hE7⟩
        have e7 := e6.trans hE7
        have X7 := Lib.hid (X6.out.ext hE7)
        have A7 := Lib.hid (A6.out.ext hE7)
        have HI7 := Lib.hid (HI6.out.below hE7)
        have hi7 := ho7.ints
        obtain ⟨NL, hNL⟩ : ∃ NL, Term.nodes N = NL := ⟨_, rfl⟩
        rw [hNL] at hi7 HMEM
        obtain ⟨a7, c7, rfl, hc7, hm7, _, hcell7⟩ := hi7.open
        unfold maxLen at hm7
        have HC7 := Lib.hid hcell7
        clear ho7 hi7 hcell7 hNL
        go_wp2_with fail
        go_loopw [10, 47] (fun _ i wr => ∃ k : Nat, k ≤ NL.length ∧ i = .int .i64 k ∧ Ext w7 wr) (fun _ i _ => NL.length - (intOf i).toNat)
        case atStart => exact ⟨0, by omega, rfl, Ext.refl _⟩
        case round =>
          obtain ⟨k, hk, rfl, hE⟩ := hrel
          have e8 := e7.trans hE
          have A8 := Lib.hid (A7.out.ext hE)
          by_cases hlt : k < NL.length
          · obtain ⟨bb, off, rfl, hcw⟩ := HC7.out k hlt
            have hcell := cellExtN hE hcw
            have HB := Lib.hid (HMEM.out NL[k] (List.getElem_mem hlt))
            obtain ⟨z0, z1, z2⟩ := A8.out.cells
            clear hcw
            go_wp2_with fail
            refine (refHas6_any _ gone NL[k] _ (HG.out.below e8)).mono ?_
            rw [HB.out.1]
            rintro e w9 ⟨rfl, rfl⟩
            go_wp2_with fail
            clear z0 z1 z2 hcell
            refine (HNC.out _ (HV.out.below e8)).mono ?_
            rintro e w10 ⟨u10, rfl, ho10, hE10⟩
            obtain ⟨a10, c10, rfl, _⟩ := ho10.ints.open
            have HI10 := Lib.hid ho10.ints
            clear ho10
            go_wp2_with fail
            refine (refHas6_any _ _ NL[k] _ HI10.out).mono ?_
            rw [HB.out.2]
            rintro e w11 ⟨rfl, rfl⟩
            go_wp2_with fail
            go_roundw
            case rel => exact ⟨k + 1, by omega, by go_num, hE.trans hE10⟩
            case measure => simp [intOf]; omega
          · go_wp2_with fail
            refine (termAlive_any _).mono ?_
            rintro e w9 ⟨rfl, hE9⟩
            have e9 := e8.trans hE9
            have A9 := Lib.hid (A8.out.ext hE9)
            have X9 := Lib.hid ((X7.out.ext hE).ext hE9)
            have HI9 := Lib.hid ((HI7.out.below hE).below hE9)
            obtain ⟨y0, y1, y2⟩ := X9.out.cells
            go_wp2_with fail
            clear y0 y1 y2
            refine (right6_any _ N _ HI9.out).mono ?_
            rw [HRN.out]
            rintro e w10 ⟨rfl, hE10⟩
            obtain ⟨y0, y1, y2⟩ := (X9.out.ext hE10).cells
            obtain ⟨z0, z1, z2⟩ := (A9.out.ext hE10).cells
            rw [HTERM.out] at y0
            rw [HSHL.out] at y2
            go_wp2_with fail
            go_ret
            exact ⟨rfl, e9.trans hE10⟩

namespace termNexts
theorem own : ownKnob Tryz.prog.godebug = none := by kernel_rfl
theorem laidOut : laidOutB Tryz.prog = true := by kernel_rfl
set_option linter.unusedVariables false in
set_option maxRecDepth 100000 in
theorem lifted (os : Os) (started : os.Started) (H : Type) (enc : TypeId × Value → H) :
    ReturnsInHanded {} Tryz.checked os 6 .any (Rows.termNextsSpec.pre6 enc Tryz.prog Tryz.f6 Rows.termNextsRow.domain false) (Rows.termNextsSpec.post enc Tryz.prog Tryz.f6 false true false false) := by
  refine returnsInHanded_of_change_sized (C := Tryz.checked) own started (by kernel_rfl) Tryz.func6
    (ChangeSpec.witness6 (enc := enc) (C := Tryz.checked) false ⟨#[], #[.agg #[.int .i64 0, .slice none 0 0, .slice none 0 0], .slice none 0 0], []⟩ 8 (by kernel_rfl) (by kernel_rfl) (by kernel_rfl) (by kernel_rfl)) ?_
  intro W base args ds gs before hval0 hW hcnd hsz _
  have hval : ∀ (j : Nat) t v, Tryz.f6.params[j]? = some t → args[j]? = some v → Value.okWide Tryz.prog W .any base t v := hval0
  have hW' := hW
  obtain ⟨p, q, hA0, hV, rfl, hfz, hnd⟩ := hW'
  have hA : DataW.TrodAll enc Tryz.prog W 0 (fun _ => true) true Tryz.f6.params.toList args.toList ds p := hA0
  rw [Tryz.params6] at hA hval
  obtain ⟨v0, vs0, d0, ds0, p0, q0, hargs, rfl, rfl, h0, r0⟩ := trodAll_cons hA
  obtain ⟨v1, vs1, d1, ds1, p1, q1, rfl, rfl, rfl, h1, r1⟩ := trodAll_cons r0
  obtain ⟨rfl, rfl, rfl⟩ := trodAll_nil r1
  obtain rfl : args = #[v0, v1] := by cases args; simp_all
  obtain ⟨rfl, rfl⟩ := trodVars_none hV
  have k0 := h0
  have lt0 : ∀ x ∈ p0, x.block < W.heap.size := by obtain ⟨m, hm⟩ := k0; exact DataW.trod_lt m _ _ _ hm
  obtain ⟨l0, w0⟩ := conf_arg (hval 0 25 v0 rfl rfl) h0
  have k1 := h1
  have lt1 : ∀ x ∈ p1, x.block < W.heap.size := by obtain ⟨m, hm⟩ := k1; exact DataW.trod_lt m _ _ _ hm
  obtain ⟨a1, len1, cap1, rfl⟩ := okWide_slice Tryz.underlying22 (hval 1 22 v1 rfl rfl)
  obtain ⟨l1, w1⟩ : ∃ l, Ints W (.slice a1 len1 cap1) l := by
    obtain ⟨fuel, hf⟩ := h1
    obtain ⟨v, l, hcs, hb⟩ := ints_of_raw Tryz.underlying22 Tryz.underlying3 (by kernel_rfl) hf
    simp [Value.cells] at hcs
    subst hcs
    exact ⟨l, hb⟩
  clear hA0 hval0
  refine (termNexts_walk _ _ l0 l1 W w0 w1).mono fun e W' ⟨he, bel⟩ => ?_
  subst he
  exact ⟨_, rfl, _, _, _, [], _, [], hW, trodAll_mk1 (shut_bool Tryz.underlying4 _), (trodAll_cons_mk (Below.trod laidOut (by kernel_rfl) (of_decide_eq_true (by kernel_rfl)) k0 bel lt0) (trodAll_cons_mk (Below.trod laidOut (by kernel_rfl) (of_decide_eq_true (by kernel_rfl)) k1 bel lt1) trodAll_mk0)), rfl, bel.frame _, fun h => by cases h⟩
theorem over : Rows.termNextsRow.holds Tryz.pinned (OpenSpec.ofChange Rows.termNextsSpec) :=
  OpenClaim.holds_of_wide 6 Tryz.f6 rfl rfl rfl rfl rfl rfl rfl ⟨rfl, rfl, rfl, rfl, rfl⟩ rfl rfl rfl rfl rfl (by kernel_rfl) Tryz.func6 (by kernel_rfl)
    (of_decide_eq_true (by kernel_rfl)) (by unfold Func.isWrapper; first | (rw [if_pos (by decide +kernel)]; kernel_rfl) | (rw [if_neg (by decide +kernel)]; exact ⟨rfl, rfl⟩))
    (fun os started H enc _ => lifted os started H enc)
theorem proved : Rows.TermNextsSaid := over
end termNexts
end Go.Proofs.YtpfodkgncachiaaGreat
