/-
  TermEach: each of a configuration's nodes orders, or serves a shard, and who does either is one of them: for every input whose parts are at most 1048576 in all (the given bound) the statement's function returns true, and leaves what came in as it was.
-/
import Derived.Test.YtpfodkgncachiaaGreatTrmRaw
namespace Go.Proofs.YtpfodkgncachiaaGreat
set_option maxRecDepth 100000
set_option linter.unusedSimpArgs false
set_option linter.unusedVariables false
open Go.ChangeShapes Go.WideShapes Go.ChangeAt Go.RowKit

/-- Does a node order, or serve one of the first k shards? -/
def doesI (S : List Int) (D : List (List Int)) (node : Int) (k : Nat) : Bool := hasI S node || (D.take k).any (fun l => hasI l node)
theorem does_zero (S : List Int) (D : List (List Int)) (node : Int) : doesI S D node 0 = hasI S node := by unfold doesI; simp
theorem does_yes {S : List Int} {D : List (List Int)} {node : Int} {k : Nat} (hk : k < D.length) (h : doesI S D node k = true) : doesI S D node (k + 1) = true := by
  unfold doesI at h ⊢
  rw [take_succ_getD D k hk, List.any_append, ← Bool.or_assoc, h, Bool.true_or]
theorem does_no {S : List Int} {D : List (List Int)} {node : Int} {k : Nat} (hk : k < D.length) (h : doesI S D node k = false) : doesI S D node (k + 1) = hasI D[k] node := by
  unfold doesI at h ⊢
  rw [take_succ_getD D k hk, List.any_append, ← Bool.or_assoc, h]
  simp
theorem does_all {c : Term.C} {node : Int} : hasI (Term.nodes c) node = doesI c.seqs c.shards node c.shards.length := by
  unfold doesI
  rw [List.take_length, Bool.eq_iff_iff]
  unfold hasI
  rw [Bool.or_eq_true, List.any_eq_true, List.contains_eq_mem, decide_eq_true_eq, Term.mem_nodes, List.contains_eq_mem, decide_eq_true_eq]
  unfold Term.all
  rw [List.mem_append, List.mem_flatten]
  constructor
  · rintro (h | ⟨l, h1, h2⟩)
    · exact .inl h
    · exact .inr ⟨l, h1, by rw [List.contains_eq_mem, decide_eq_true_eq]; exact h2⟩
  · rintro (h | ⟨l, h1, h2⟩)
    · exact .inl h
    · exact .inr ⟨l, h1, by rw [List.contains_eq_mem, decide_eq_true_eq] at h2; exact h2⟩
theorem rises_at {l : List Int} (h : Term.rises l) {j : Nat} (hj : j + 1 < l.length) : l[j] < l[j + 1] := List.pairwise_iff_getElem.1 h j (j + 1) (by omega) hj (by omega)

set_option maxHeartbeats 16000000 in
theorem termEach_walk (v : Value) (c : Term.C) (node : Int) (W : World) (hv : IsConf W v c) (hf : ∀ y ∈ Term.all c, Wf64 y) (hlen : (Term.all c).length ≤ 1048576) (hsh : c.shards.length ≤ 1048576) :
    Calls Tryz.prog 8 #[v, .int .i64 node] W fun e W' => e = .returned (.bool true) ∧ Below W.heap.size W W' := by
  have HV := Lib.hid hv
  have hbx := box_confR
  obtain ⟨s, d, rfl, hs, hd⟩ := hv
  have HS := Lib.hid hs
  obtain ⟨a1, p1, rfl, _⟩ := hs.open
  obtain ⟨b1, q1, rfl, hq1, hm1, _⟩ := hd.open
  unfold maxLen at hm1
  clear hs hd
  obtain ⟨t, ht⟩ : ∃ t, c.term = t := ⟨_, rfl⟩
  unfold confV at *
  rw [ht] at HV ⊢
  clear ht
  have HNM := Lib.hid (fun (w : World) (h : IsConf w (.agg #[.int .i64 t, .slice a1 c.seqs.length p1, .slice b1 c.shards.length q1]) c) => nodes6_any _ c w h (show (Term.all c).length ≤ 2000000 by omega) (show c.shards.length ≤ 2000000 by omega) hf)
  have hNl : (Term.nodes c).length ≤ 1048576 := by
    have := Term.foldl_length (Term.all c) []
    unfold Term.nodes
    simp only [List.length_nil] at this
    omega
  have HNR := Lib.hid (Term.nodes_rise c)
  have HDA := Lib.hid (does_all (c := c) (node := node))
  clear hf hlen
  have hE0 : Ext W (W.alloc (.cells #[.int .i64 t, .slice a1 c.seqs.length p1, .slice b1 c.shards.length q1] 25)) := Ext.alloc _ _
  have HA0 := Lib.hid (ConfAt.new 25 W t (.slice a1 c.seqs.length p1) (.slice b1 c.shards.length q1))
  go_enter Tryz.func8, Tryz.ntmps8
  go_wp2_with fail
  refine (fewSome6_any _ c _ (HV.out.below hE0)).mono ?_
  unfold SomeBool
  rintro e w1 ⟨⟨fb, rfl⟩, hE1⟩
  have A1 := Lib.hid (HA0.out.ext hE1)
  have e1 := hE0.trans hE1
  obtain ⟨q, hq⟩ : ∃ q, W.heap.size = q := ⟨_, rfl⟩
  rw [hq] at A1
  cases fb with
  | false =>
    go_wp2_with fail
    refine (termAlive_any _).mono ?_
    rintro e w2 ⟨rfl, hE2⟩
    go_wp2_with fail
    go_ret
    exact ⟨rfl, e1.trans hE2⟩
  | true =>
    have hE2 := Ext.alloc w1 (.cells #[.int .i64 t, .slice a1 c.seqs.length p1, .slice b1 c.shards.length q1] 32)
    have X2 := Lib.hid (ConfAt.new 32 w1 t (.slice a1 c.seqs.length p1) (.slice b1 c.shards.length q1))
    have A2 := Lib.hid (A1.out.ext hE2)
    have e2 := e1.trans hE2
    obtain ⟨c0, c1, c2⟩ := A1.out.cells
    obtain ⟨d0, d1, d2⟩ := A2.out.cells
    rw [hq]
    go_wp2_with fail
    clear c0 c1 c2 d0 d1 d2
    obtain ⟨p, hp⟩ : ∃ p, w1.heap.size = p := ⟨_, rfl⟩
    rw [hp] at X2 ⊢
    obtain ⟨w2, hw2⟩ : ∃ w2, w1.alloc (.cells #[.int .i64 t, .slice a1 c.seqs.length p1, .slice b1 c.shards.length q1] 32) = w2 := ⟨_, rfl⟩
    rw [hw2] at X2 A2 e2 hE2 ⊢
    clear hw2 hp hE2
    refine (refHas6_any _ c.seqs node _ (HS.out.below e2)).mono ?_
    rintro e w' ⟨rfl, rfl⟩
    obtain ⟨d0, d1, d2⟩ := A2.out.cells
    have HDZ := Lib.hid (does_zero c.seqs c.shards node)
    obtain ⟨z, hz⟩ : ∃ z, hasI c.seqs node = z := ⟨_, rfl⟩
    rw [hz] at HDZ ⊢
    clear hz
    go_wp2_with fail
    clear d0 d1 d2
    go_loopw [6, 7, 22] (fun dv _ i wr => ∃ k : Nat, k ≤ c.shards.length ∧ i = .int .i64 k ∧ ∃ d : Bool, dv = .bool d ∧ Hid (doesI c.seqs c.shards node k = d) ∧ Ext w2 wr) (fun _ _ i _ => c.shards.length - (intOf i).toNat)
    case atStart => exact ⟨0, by omega, rfl, _, rfl, HDZ.out, Ext.refl _⟩
    case round =>
      obtain ⟨k, hk, rfl, d, rfl, hD, hE⟩ := hrel
      obtain ⟨y0, y1, y2⟩ := (X2.out.ext hE).cells
      have e3 := e2.trans hE
      by_cases hlt : k < c.shards.length
      · cases d with
        | true =>
          have HY := Lib.hid (does_yes hlt hD.out)
          go_wp2_with fail
          go_roundw
          case rel => exact ⟨k + 1, by omega, by go_num, _, rfl, HY.out, hE⟩
          case measure => simp [intOf]; omega
        | false =>
          have HY := Lib.hid (does_no hlt hD.out)
          have HSV := Lib.hid (serves_at (node := node) hlt)
          go_wp2_with fail
          refine (serves6_any _ c node k _ (HV.out.below e3)).mono ?_
          rw [HSV.out]
          rintro e w4 ⟨rfl, hE4⟩
          go_wp2_with fail
          go_roundw
          case rel => exact ⟨k + 1, by omega, by go_num, _, rfl, HY.out, hE.trans hE4⟩
          case measure => simp [intOf]; omega
      · obtain rfl : k = c.shards.length := by omega
        go_wp2_with fail
        refine (HNM.out _ (HV.out.below e3)).mono ?_
        rintro e w4 ⟨u4, rfl, ho4, hE4⟩
        have hi4 := ho4.ints
        have e4 := e3.trans hE4
        obtain ⟨NL, hNL⟩ : ∃ NL, Term.nodes c = NL := ⟨_, rfl⟩
        rw [hNL] at HNR HDA hi4 hNl
        have HI4 := Lib.hid hi4
        obtain ⟨a4, c4, rfl, hc4, hm4, _, hcell4⟩ := hi4.open
        unfold maxLen at hm4
        have HC4 := Lib.hid hcell4
        have HD2 := Lib.hid (HDA.out.trans hD.out)
        clear ho4 hi4 hcell4 hNL y0 y1 y2
        go_wp2_with fail
        go_loopw [9] (fun i wr => ∃ j : Nat, j ≤ NL.length ∧ i = .int .i64 ((j : Int) + 1) ∧ Ext w4 wr) (fun i _ => NL.length + 1 - (intOf i).toNat)
        case atStart => exact ⟨0, by omega, by go_num, Ext.refl _⟩
        case round =>
          obtain ⟨j, hj, rfl, hE5⟩ := hrel
          by_cases hlt : j + 1 < NL.length
          · have hr := rises_at HNR.out hlt
            obtain ⟨bb, off, rfl, hcw1⟩ := HC4.out j (by omega)
            obtain ⟨bb2, off2, eb2, hcw2⟩ := HC4.out (j + 1) hlt
            injection eb2 with eb2
            injection eb2 with eb2 eo2
            subst eb2 eo2
            have h1 := cellExtN hE5 hcw1
            have h2 := cellExtN hE5 hcw2
            have h1d : wr.drew.cell? ⟨bb, off + j, none⟩ = some (.int .i64 NL[j]) := h1
            have h2d : wr.drew.cell? ⟨bb, off + (j + 1), none⟩ = some (.int .i64 NL[j + 1]) := h2
            have hlt' : (j : Int) + 1 < (NL.length : Int) := by omega
            have hno : ¬ NL[j + 1] ≤ NL[j] := by omega
            clear hcw1 hcw2
            go_wp2_with fail
            go_quiet (fail)
            go_wp2_with fail
            go_roundw
            case rel => exact ⟨j + 1, by omega, by go_num, hE5.trans (Ext.drewN _ _)⟩
            case measure => simp [intOf]; omega
          · have hlt' : ¬ (j : Int) + 1 < (NL.length : Int) := by omega
            obtain ⟨dd, hdd⟩ : ∃ dd, hasI NL node = dd := ⟨_, rfl⟩
            have HDD := Lib.hid hdd
            rw [hdd] at HD2
            obtain rfl := HD2.out
            have hSS : (dd == dd) = true := by cases dd <;> rfl
            clear hdd
            go_wp2_with fail
            refine (termAlive_any _).mono ?_
            rintro e w6 ⟨rfl, hE6⟩
            go_wp2_with fail
            refine (refHas6_any _ NL node _ (HI4.out.below (hE5.trans hE6))).mono ?_
            rw [HDD.out]
            rintro e w7 ⟨rfl, rfl⟩
            go_wp2_with fail
            go_ret
            exact ⟨rfl, (e4.trans hE5).trans hE6⟩

namespace termEachUpto
theorem own : ownKnob Tryz.prog.godebug = none := by kernel_rfl
theorem laidOut : laidOutB Tryz.prog = true := by kernel_rfl
set_option linter.unusedVariables false in
set_option maxRecDepth 100000 in
theorem lifted (os : Os) (started : os.Started) (H : Type) (enc : TypeId × Value → H) (F : Stop.Interp) :
    ReturnsInHanded {} Tryz.checked os 8 .any ((Rows.OpenSpec.upto Rows.termEachSpec).pre6 enc Tryz.prog Tryz.f8 Rows.termEachUptoRow.domain false) (((Rows.OpenSpec.upto Rows.termEachSpec).at F).post enc Tryz.prog Tryz.f8 false true false false) := by
  refine returnsInHanded_of_cond (C := Tryz.checked) (s := (Rows.OpenSpec.upto Rows.termEachSpec)) (k := Rows.uptoSmall) rfl own started (by kernel_rfl) Tryz.func8
    (OpenSpec.witness (enc := enc) (C := Tryz.checked) (s := (Rows.OpenSpec.upto Rows.termEachSpec)) (k := Rows.uptoSmall) rfl false ⟨#[], #[.agg #[.int .i64 0, .slice none 0 0, .slice none 0 0], .int .i64 0], []⟩ 8 (by kernel_rfl) (by kernel_rfl) (by kernel_rfl)
      (x := ([.agg [.lit (.int .i64 0), .nil, .nil], .lit (.int .i64 0)], [], [])) (by kernel_rfl) rfl (by kernel_rfl)) ?_
  intro W base args ds gs before hval0 hW hcnd hbulk0 _
  have hval : ∀ (j : Nat) t v, Tryz.f8.params[j]? = some t → args[j]? = some v → Value.okWide Tryz.prog W .any base t v := hval0
  have hW' := hW
  obtain ⟨p, q, hA0, hV, rfl, hfz, hnd⟩ := hW'
  have hA : DataW.TrodAll enc Tryz.prog W 0 (fun _ => true) true Tryz.f8.params.toList args.toList ds p := hA0
  rw [Tryz.params8] at hA hval
  obtain ⟨v0, vs0, d0, ds0, p0, q0, hargs, rfl, rfl, h0, r0⟩ := trodAll_cons hA
  obtain ⟨v1, vs1, d1, ds1, p1, q1, rfl, rfl, rfl, h1, r1⟩ := trodAll_cons r0
  obtain ⟨rfl, rfl, rfl⟩ := trodAll_nil r1
  obtain rfl : args = #[v0, v1] := by cases args; simp_all
  obtain ⟨rfl, rfl⟩ := trodVars_none hV
  have hbulk : Rows.uptoBulkAll [d0, d1] ≤ 1048576 := of_decide_eq_true hbulk0
  simp only [Rows.uptoBulkAll] at hbulk
  have k0 := h0
  have lt0 : ∀ x ∈ p0, x.block < W.heap.size := by obtain ⟨m, hm⟩ := k0; exact DataW.trod_lt m _ _ _ hm
  obtain ⟨l0, w0, f0, sz0⟩ := conf_full (hval 0 25 v0 rfl rfl) h0
  have k1 := h1
  have lt1 : ∀ x ∈ p1, x.block < W.heap.size := by obtain ⟨m, hm⟩ := k1; exact DataW.trod_lt m _ _ _ hm
  obtain ⟨a1, rfl, _, _, w1⟩ := open_int Tryz.underlying3 (hval 1 3 v1 rfl rfl) h1
  clear hA0 hval0
  refine (termEach_walk _ l0 a1 W w0 f0 (by omega) (by omega)).mono fun e W' ⟨he, bel⟩ => ?_
  subst he
  exact ⟨_, rfl, _, _, _, [], _, [], hW, trodAll_mk1 (shut_bool Tryz.underlying4 _), (trodAll_cons_mk (Below.trod laidOut (by kernel_rfl) (of_decide_eq_true (by kernel_rfl)) k0 bel lt0) (trodAll_cons_mk (Below.trod laidOut (by kernel_rfl) (of_decide_eq_true (by kernel_rfl)) k1 bel lt1) trodAll_mk0)), rfl, bel.frame _, fun h => by cases h⟩
theorem over : Rows.termEachUptoRow.holds Tryz.pinned (Rows.OpenSpec.upto Rows.termEachSpec) :=
  OpenClaim.holds_of_cond 8 Tryz.f8 rfl rfl rfl rfl rfl rfl rfl ⟨rfl, rfl, rfl, rfl, rfl⟩ rfl rfl rfl rfl rfl (by kernel_rfl) Tryz.func8 (by kernel_rfl)
    (of_decide_eq_true (by kernel_rfl)) (by unfold Func.isWrapper; first | (rw [if_pos (by decide +kernel)]; kernel_rfl) | (rw [if_neg (by decide +kernel)]; exact ⟨rfl, rfl⟩))
    (fun os started H enc _ F => lifted os started H enc F)
theorem proved : Rows.TermEachUptoSaid := over
end termEachUpto
end Go.Proofs.YtpfodkgncachiaaGreat
