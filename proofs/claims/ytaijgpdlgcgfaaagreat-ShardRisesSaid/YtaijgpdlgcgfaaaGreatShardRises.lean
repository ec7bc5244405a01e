/-
  ShardRises: how far a node is never falls, whatever it is told, and however it crashes: for every input the statement's function returns true, and leaves what came in as it was.
-/
import Derived.Test.YtaijgpdlgcgfaaaGreatBsSh2
namespace Go.Proofs.YtaijgpdlgcgfaaaGreat
set_option linter.unusedSimpArgs false
set_option linter.unusedVariables false
open Go.ChangeShapes Go.WideShapes Go.ChangeAt Go.RowKit

set_option maxRecDepth 100000 in
set_option maxHeartbeats 40000000 in
theorem shardRises_walk (id : Int) (a : Option Addr) (n c : Nat) (l : List Shd.Op) (t : Int) (W : World) (h0 : Ops10 W (.slice a n c) l) (hf : ∀ o ∈ l, Wf64 o.n) (ht : Wf64 t) :
    Calls Tryz.prog 4 #[.int .i64 id, .slice a n c, .int .i64 t] W fun e W' => e = .returned (.bool true) ∧ Below W.heap.size W W' := by
  obtain ⟨hn, hnc, hc9⟩ := h0.len
  have HL0 := Lib.hid h0
  have HF := Lib.hid hf
  have HN := Lib.hid hn.symm
  have HT := Lib.hid ht
  have HFEW := Lib.hid (fun w1 (hE1 : Ext W w1) => few10_any _ l w1 (h0.below hE1))
  have HALIVE := Lib.hid shardAlive_any
  clear h0 hf hn ht
  go_enter Tryz.func4, Tryz.ntmps4
  go_wp2_with fail
  refine (newN_any id W (fun _ => 0) (fun k hk => absurd rfl hk) 0 (by omega)).mono ?_
  rintro e w1 ⟨h, hE1⟩
  rcases h with ⟨x, col, rfl, hA, _, hlo, _, _⟩ | ⟨_, rfl⟩
  case inr =>
    have HE1 := Lib.hid hE1
    clear hE1
    go_wp2_with fail
    refine (HALIVE.out w1).mono ?_
    rintro e w2 ⟨rfl, hE2⟩
    have HE2 := Lib.hid (HE1.out.trans hE2)
    clear hE2
    go_wp2_with fail
    go_ret
    exact ⟨rfl, HE2.out⟩
  have HS1 := Lib.hid (show Seat10 W W.heap.size x 0 col (Shd.new id) w1 from ⟨hA, hE1, fun k hk => (hlo k hk).elim (fun h => absurd rfl h) (fun h => h)⟩)
  clear hA hE1 hlo
  go_wp2_with fail
  refine (HFEW.out w1 HS1.out.ext).mono ?_
  rintro e w2 ⟨⟨b, rfl⟩, hE2⟩
  have HS2 := Lib.hid (HS1.out.extend hE2)
  clear hE2
  cases b with
  | false =>
    go_wp2_with fail
    refine (HALIVE.out w2).mono ?_
    rintro e w3 ⟨rfl, hE3⟩
    have HE3 := Lib.hid (HS2.out.ext.trans hE3)
    clear hE3
    go_wp2_with fail
    go_ret
    exact ⟨rfl, HE3.out⟩
  | true =>
    go_wp2_with fail
    go_loopw [34] (fun i wr => ∃ (k : Nat) (col : Nat → Nat) (nd : Shd.Nd), k ≤ n ∧ i = .int .i64 k ∧ Hid (Seat10 W W.heap.size x 0 col nd wr ∧ Shd.Good nd)) (fun i _ => n - (intOf i).toNat)
    case atStart => exact ⟨0, _, _, by omega, rfl, Lib.hid (And.intro HS2.out (Shd.good_new id))⟩
    case round =>
      obtain ⟨k, colr, nd, hk, rfl, hI⟩ := hrel
      by_cases hlt : k < n
      · have hkl : k < l.length := by rw [HN.out]; exact hlt
        obtain ⟨b, off, a1, n1, c1, a2, n2, c2, a3, n3, c3, a4, n4, c4, a5, n5, c5, a6, n6, c6, a7, n7, c7, rfl, hin, hldw⟩ := HL0.out.at k hkl
        have hld := hldw wr hI.out.1.ext
        obtain ⟨o, hO⟩ : ∃ o, l[k] = o := ⟨_, rfl⟩
        have hon := HF.out l[k] (List.getElem_mem hkl)
        rw [hO] at hld hin hon
        have HIN := Lib.hid hin
        have HON := Lib.hid hon
        clear hO hin hon hldw
        go_upto_region 7 with (first
          | (refine ldAny (by rfl) _ rfl rfl hld ?_)
          | (refine allocO (by rfl) rfl ?_; intro W1 q hat1 hE1 hq1)
          | (refine putO (by rfl) _ _ rfl rfl rfl hat1.out ⟨_, _, _, rfl⟩ ⟨_, _, _, rfl⟩ ⟨_, _, _, rfl⟩ ⟨_, _, _, rfl⟩ ⟨_, _, _, rfl⟩ ⟨_, _, _, rfl⟩ ⟨_, _, _, rfl⟩ ?_; intro W2 hat2 hB2))
        have hq0 := hI.out.1.new (q := q) (Nat.le_of_eq hq1.out.symm)
        have HS3 := Lib.hid ((hI.out.1.extend hE1.out).but hB2.out hq0.1 hq0.2)
        have HQ := Lib.hid (show colr q = 0 from hq0.1)
        have hE3 : Ext wr W2 := Below.trans (B := wr.heap.size) hE1.out (hB2.out.below (Nat.le_of_eq hq1.out.symm) hE1.out.size)
        have HE3 := Lib.hid hE3
        clear hq0 hE1 hq1 hat1 hB2 hld hE3
        go_wp2_with fail
        refine (progress10_any HS3.out.node hI.out.2 t HT.out).mono ?_
        rintro e w4 ⟨v4, rfl, ho4, hE4⟩
        obtain ⟨va, vn, vc, rfl⟩ := ownSlice ho4
        have HS4 := Lib.hid (HS3.out.extend hE4)
        have HO4 := Lib.hid ho4
        have hat4 := Lib.hid (heap_ext hat2.out hE4 : OpAt10 w4 q o (.slice a1 n1 c1) (.slice a2 n2 c2) (.slice a3 n3 c3) (.slice a4 n4 c4) (.slice a5 n5 c5) (.slice a6 n6 c6) (.slice a7 n7 c7))
        have hld4 := OpAt10.ld hat4.out
        have HBASE := Lib.hid (show ∀ k, W2.heap.size ≤ k → colr k = 0 from fun k hk => Classical.byContradiction fun hc => absurd (HS3.out.node.cover k hc) (by omega))
        have HE4 := Lib.hid (HE3.out.trans hE4)
        clear ho4 hE4
        go_wp2_with (refine ldAny (by rfl) _ rfl rfl hld4 ?_)
        refine (does10_any HS4.out.node hI.out.2 o _ _ _ _ _ _ _ HON.out (fun w' ht => HIN.out w' (Below.ofTws HS4.out.ext (ht.mono fun k _ hc => HS4.out.low k hc)))).mono ?_
        rintro e w5 ⟨⟨v5, rfl⟩, hl5⟩
        obtain ⟨col5, hs5, ha5, hst5⟩ := HS4.out.step hl5
        have HS5 := Lib.hid hs5
        have HO5 := Lib.hid (OwnI.stay HO4.out HBASE.out hst5)
        have HG5 := Lib.hid (hI.out.2.doN o)
        have HLE := Lib.hid (Shd.le_doN hI.out.2.inv o)
        clear hl5 hs5 ha5 hst5 hld4
        go_wp2_with fail
        refine (progress10_any HS5.out.node HG5.out t HT.out).mono ?_
        rintro e w6 ⟨v6, rfl, ho6, hE6⟩
        obtain ⟨wa, wn, wc, rfl⟩ := ownSlice ho6
        have HS6 := Lib.hid (HS5.out.extend hE6)
        have HO6 := Lib.hid (And.intro ho6 (rowExt HO5.out hE6))
        clear ho6 hE6
        cases hpr : nd.progress t with
        | none =>
          clear hpr
          go_wp2_with fail
          go_roundw
          case rel => exact ⟨k + 1, col5, _, by omega, by go_num, Lib.hid (And.intro HS6.out HG5.out)⟩
          case measure => simp [intOf]; omega
        | some pv =>
          obtain ⟨pv', h1, h2, h3⟩ := Shd.rises hI.out.2 HG5.out HLE.out hpr
          have o6 := HO6.out
          rw [hpr, h1] at o6
          simp only [Option.getD_some] at o6
          have i1 : Ints w6 (.slice wa wn wc) pv' := (OwnI.ints o6.1)
          have i2 : Ints w6 (.slice va vn vc) pv := (OwnI.ints (base := W2.heap.size) o6.2)
          have hl1 := i1.len.1
          have hl2 := i2.len.1
          have hwn : wn = vn := by omega
          have HC := Lib.hid (refCovers_any _ _ pv' pv w6 i1 i2)
          rw [h3] at HC
          subst hwn
          rw [h1]
          clear hpr h1 h2 h3 o6 i1 i2 hl1 hl2
          go_wp2_with fail
          refine HC.out.mono ?_
          rintro e w7 ⟨rfl, hE7⟩
          have HS7 := Lib.hid (HS6.out.extend hE7)
          clear hE7
          go_wp2_with fail
          go_roundw
          case rel => exact ⟨k + 1, col5, _, by omega, by go_num, Lib.hid (And.intro HS7.out HG5.out)⟩
          case measure => simp [intOf]; omega
      · obtain rfl : k = n := by omega
        go_wp2_with fail
        refine (HALIVE.out wr).mono ?_
        rintro e w3 ⟨rfl, hE3⟩
        have HE3 := Lib.hid (hI.out.1.ext.trans hE3)
        clear hE3
        go_wp2_with fail
        go_ret
        exact ⟨rfl, HE3.out⟩

namespace shardRises
theorem own : ownKnob Tryz.prog.godebug = none := by kernel_rfl
theorem laidOut : laidOutB Tryz.prog = true := by kernel_rfl
set_option linter.unusedVariables false in
set_option maxRecDepth 100000 in
theorem lifted (os : Os) (started : os.Started) (H : Type) (enc : TypeId × Value → H) :
    ReturnsInHanded {} Tryz.checked os 4 .any (Rows.shardRisesSpec.pre6 enc Tryz.prog Tryz.f4 Rows.shardRisesRow.domain false) (Rows.shardRisesSpec.post enc Tryz.prog Tryz.f4 false true false false) := by
  refine returnsInHanded_of_change_sized (C := Tryz.checked) own started (by kernel_rfl) Tryz.func4
    (ChangeSpec.witness6 (enc := enc) (C := Tryz.checked) false ⟨#[], #[.int .i64 0, .slice none 0 0, .int .i64 0], []⟩ 8 (by kernel_rfl) (by kernel_rfl) (by kernel_rfl) (by kernel_rfl)) ?_
  intro W base args ds gs before hval0 hW hcnd hsz _
  have hval : ∀ (j : Nat) t v, Tryz.f4.params[j]? = some t → args[j]? = some v → Value.okWide Tryz.prog W .any base t v := hval0
  have hW' := hW
  obtain ⟨p, q, hA0, hV, rfl, hfz, hnd⟩ := hW'
  have hA : DataW.TrodAll enc Tryz.prog W 0 (fun _ => true) true Tryz.f4.params.toList args.toList ds p := hA0
  rw [Tryz.params4] at hA hval
  obtain ⟨v0, vs0, d0, ds0, p0, q0, hargs, rfl, rfl, h0, r0⟩ := trodAll_cons hA
  obtain ⟨v1, vs1, d1, ds1, p1, q1, rfl, rfl, rfl, h1, r1⟩ := trodAll_cons r0
  obtain ⟨v2, vs2, d2, ds2, p2, q2, rfl, rfl, rfl, h2, r2⟩ := trodAll_cons r1
  obtain ⟨rfl, rfl, rfl⟩ := trodAll_nil r2
  obtain rfl : args = #[v0, v1, v2] := by cases args; simp_all
  obtain ⟨rfl, rfl⟩ := trodVars_none hV
  have k0 := h0
  have lt0 : ∀ x ∈ p0, x.block < W.heap.size := by obtain ⟨m, hm⟩ := k0; exact DataW.trod_lt m _ _ _ hm
  obtain ⟨a0, rfl, _, _, w0⟩ := open_int Tryz.underlying3 (hval 0 3 v0 rfl rfl) h0
  have k1 := h1
  have lt1 : ∀ x ∈ p1, x.block < W.heap.size := by obtain ⟨m, hm⟩ := k1; exact DataW.trod_lt m _ _ _ hm
  obtain ⟨a1, len1, cap1, rfl⟩ := okWide_slice Tryz.underlying22 (hval 1 22 v1 rfl rfl)
  obtain ⟨l1, w1, f1⟩ : ∃ l, Ops10 W (.slice a1 len1 cap1) l ∧ ∀ o ∈ l, Wf64 o.n := by
    obtain ⟨fuel, hf⟩ := h1
    obtain ⟨v, l, hcs, hb, hft⟩ := ops10_of_raw hf
    simp [Value.cells] at hcs
    subst hcs
    exact ⟨l, hb, hft⟩
  have k2 := h2
  have lt2 : ∀ x ∈ p2, x.block < W.heap.size := by obtain ⟨m, hm⟩ := k2; exact DataW.trod_lt m _ _ _ hm
  obtain ⟨a2, rfl, _, _, w2⟩ := open_int Tryz.underlying3 (hval 2 3 v2 rfl rfl) h2
  clear hA0 hval0
  refine (shardRises_walk a0 a1 len1 cap1 l1 a2 W w1 f1 w2).mono fun e W' ⟨he, bel⟩ => ?_
  subst he
  exact ⟨_, rfl, _, _, _, [], _, [], hW, trodAll_mk1 (shut_bool Tryz.underlying4 _), (trodAll_cons_mk (Below.trod laidOut (by kernel_rfl) (of_decide_eq_true (by kernel_rfl)) k0 bel lt0) (trodAll_cons_mk (Below.trod laidOut (by kernel_rfl) (of_decide_eq_true (by kernel_rfl)) k1 bel lt1) (trodAll_cons_mk (Below.trod laidOut (by kernel_rfl) (of_decide_eq_true (by kernel_rfl)) k2 bel lt2) trodAll_mk0))), rfl, bel.frame _, fun h => by cases h⟩
theorem over : Rows.shardRisesRow.holds Tryz.pinned (OpenSpec.ofChange Rows.shardRisesSpec) :=
  OpenClaim.holds_of_wide 4 Tryz.f4 rfl rfl rfl rfl rfl rfl rfl ⟨rfl, rfl, rfl, rfl, rfl⟩ rfl rfl rfl rfl rfl (by kernel_rfl) Tryz.func4 (by kernel_rfl)
    (of_decide_eq_true (by kernel_rfl)) (by unfold Func.isWrapper; first | (rw [if_pos (by decide +kernel)]; kernel_rfl) | (rw [if_neg (by decide +kernel)]; exact ⟨rfl, rfl⟩))
    (fun os started H enc _ => lifted os started H enc)
theorem proved : Rows.ShardRisesSaid := over
end shardRises
end Go.Proofs.YtaijgpdlgcgfaaaGreat
