/-
  ShardKeeps: what was told to be kept is there behind any crash, as it came: for every input the statement's function returns true, and leaves what came in as it was.
-/
import Derived.Test.YtaijgpdlgcgfaaaGreatBsMsg
import Derived.Test.YtaijgpdlgcgfaaaGreatBsRec
import Derived.Test.YtaijgpdlgcgfaaaGreatBsSh2
namespace Go.Proofs.YtaijgpdlgcgfaaaGreat
set_option linter.unusedSimpArgs false
set_option linter.unusedVariables false
open Go.ChangeShapes Go.WideShapes Go.ChangeAt Go.RowKit

set_option maxRecDepth 100000 in
set_option maxHeartbeats 40000000 in
theorem shardKeeps_walk (a : Option Addr) (n c : Nat) (l : List Shd.Op) (v : Value) (m : Msg.M) (keep : Int) (W0 : World) (h0 : Ops10 W0 (.slice a n c) l) (hf : ∀ o ∈ l, Wf64 o.n) (hm : IsMsg W0 v m) (hk : Wf64 keep) :
    Calls Tryz.prog 3 #[.slice a n c, v, .int .i64 keep] W0 fun e W' => e = .returned (.bool true) ∧ Below W0.heap.size W0 W' := by
  obtain ⟨hn, hnc, hc9⟩ := h0.len
  obtain ⟨ra, rn, rc, ea, en, ec, sa, sn, sc, da, dn, dc, rfl, i1, i2, i3, i4⟩ := hm.opened
  have hbx := box_msgR
  obtain ⟨W, hW⟩ : ∃ W, W0.alloc (.cells (msgCells m (.slice ra rn rc) (.slice ea en ec) (.slice sa sn sc) (.slice da dn dc)) 36) = W := ⟨_, rfl⟩
  obtain ⟨qm, hqm⟩ : ∃ q, W0.heap.size = q := ⟨_, rfl⟩
  have hE0 : Ext W0 W := by rw [← hW]; exact Ext.alloc _ _
  have hqW : qm < W.heap.size := by rw [← hW, World.size_alloc]; omega
  have hat : MsgAt 36 W qm m (.slice ra rn rc) (.slice ea en ec) (.slice sa sn sc) (.slice da dn dc) := by rw [← hW, ← hqm]; exact MsgAt.new _ _ _ _ _ _ _
  have HW := Lib.hid (And.intro hW hqm)
  have HL0 := Lib.hid (h0.below hE0)
  have HF := Lib.hid hf
  have HN := Lib.hid hn.symm
  have HK := Lib.hid hk
  have HE0 := Lib.hid hE0
  have HQW := Lib.hid hqW
  have HAT := Lib.hid hat
  have HI := Lib.hid (And.intro (i1.below hE0) (And.intro (i2.below hE0) (And.intro (i3.below hE0) (i4.below hE0))))
  have HFEW := Lib.hid (fun w1 (hE1 : Ext W w1) => few10_any _ l w1 ((h0.below hE0).below hE1))
  have HALIVE := Lib.hid shardAlive_any
  have hms : ∀ w', (∀ k, k < W.heap.size → w'.heap[k]? = W.heap[k]?) → MsgAt 36 w' qm m (.slice ra rn rc) (.slice ea en ec) (.slice sa sn sc) (.slice da dn dc) := fun w' h => (h qm hqW).trans hat
  have HMS := Lib.hid hms
  clear h0 hf hn hk hm i1 i2 i3 i4 hW hqm hE0 hqW hms
  have k2 := hat.head.2.2.1
  obtain ⟨ds, hds⟩ : ∃ z, m.dst = z := ⟨_, rfl⟩
  rw [hds] at k2
  clear hat hds
  go_enter Tryz.func3, Tryz.ntmps3
  go_upto_region 1 with fail
  rw [HW.out.1, HW.out.2]
  clear hbx
  go_wp2_with fail
  refine (newN_any ds W (fun _ => 0) (fun k hk => absurd rfl hk) 0 (by omega)).mono ?_
  rintro e w1 ⟨h, hE1⟩
  rcases h with ⟨x, col, rfl, hA, _, hlo, _, _⟩ | ⟨_, rfl⟩
  case inr =>
    have HE1 := Lib.hid (HE0.out.trans hE1)
    clear hE1
    go_wp2_with fail
    refine (HALIVE.out w1).mono ?_
    rintro e w2 ⟨rfl, hE2⟩
    have HE2 := Lib.hid (HE1.out.trans hE2)
    clear hE2
    go_wp2_with fail
    go_ret
    exact ⟨rfl, HE2.out⟩
  have HS1 := Lib.hid (show Seat10 W W.heap.size x 0 col (Shd.new ds) w1 from ⟨hA, hE1, fun k hk => (hlo k hk).elim (fun h => absurd rfl h) (fun h => h)⟩)
  clear hA hE1 hlo k2
  go_wp2_with fail
  refine (HFEW.out w1 HS1.out.ext).mono ?_
  rintro e w2 ⟨⟨b, rfl⟩, hE2⟩
  have HS2 := Lib.hid (HS1.out.extend hE2)
  clear hE2
  cases b with
  | false =>
    go_wp2_with fail
    refine (HALIVE.out w2).mono ?_
    rintro e w3 ⟨rfl, hE3⟩
    have HE3 := Lib.hid (HE0.out.trans (HS2.out.ext.trans hE3))
    clear hE3
    go_wp2_with fail
    go_ret
    exact ⟨rfl, HE3.out⟩
  | true =>
    go_wp2_with fail
    go_loopw [37] (fun i wr => ∃ (k : Nat) (col : Nat → Nat) (nd : Shd.Nd), k ≤ n ∧ i = .int .i64 k ∧ Hid (Seat10 W W.heap.size x 0 col nd wr ∧ Shd.Good nd)) (fun i _ => n - (intOf i).toNat)
    case atStart => exact ⟨0, _, _, by omega, rfl, Lib.hid (And.intro HS2.out (Shd.good_new ds))⟩
    case round =>
      obtain ⟨k, colr, nd, hk, rfl, hI⟩ := hrel
      by_cases hlt : k < n
      · have hkl : k < l.length := by rw [HN.out]; exact hlt
        obtain ⟨b, off, a1, n1, c1, a2, n2, c2, a3, n3, c3, a4, n4, c4, a5, n5, c5, a6, n6, c6, a7, n7, c7, rfl, hin, hldw⟩ := HL0.out.at k hkl
        have hld := hldw wr hI.out.1.ext
        obtain ⟨o, hO⟩ : ∃ o, l[k] = o := ⟨_, rfl⟩
        have hon := HF.out l[k] (List.getElem_mem hkl)
        rw [hO] at hld hin hon
        have HIN := Lib.hid hin
        have HON := Lib.hid hon
        clear hO hin hon hldw
        go_upto_region 7 with (first
          | (refine ldAny (by rfl) _ rfl rfl hld ?_)
          | (refine allocO (by rfl) rfl ?_; intro W1 q hat1 hE1 hq1)
          | (refine putO (by rfl) _ _ rfl rfl rfl hat1.out ⟨_, _, _, rfl⟩ ⟨_, _, _, rfl⟩ ⟨_, _, _, rfl⟩ ⟨_, _, _, rfl⟩ ⟨_, _, _, rfl⟩ ⟨_, _, _, rfl⟩ ⟨_, _, _, rfl⟩ ?_; intro W2 hat2 hB2))
        have hq0 := hI.out.1.new (q := q) (Nat.le_of_eq hq1.out.symm)
        have HS3 := Lib.hid ((hI.out.1.extend hE1.out).but hB2.out hq0.1 hq0.2)
        have hld4 := OpAt10.ld hat2.out
        clear hq0 hE1 hq1 hat1 hB2 hld
        go_wp2_with (refine ldAny (by rfl) _ rfl rfl hld4 ?_)
        refine (does10_any HS3.out.node hI.out.2 o _ _ _ _ _ _ _ HON.out (fun w' ht => HIN.out w' (Below.ofTws HS3.out.ext (ht.mono fun k _ hc => HS3.out.low k hc)))).mono ?_
        rintro e w5 ⟨⟨v5, rfl⟩, hl5⟩
        obtain ⟨col5, hs5, ha5, hst5⟩ := HS3.out.step hl5
        have HS5 := Lib.hid hs5
        have HG5 := Lib.hid (hI.out.2.doN o)
        clear hl5 hs5 ha5 hst5 hld4
        go_wp2_with fail
        go_roundw
        case rel => exact ⟨k + 1, col5, _, by omega, by go_num, Lib.hid (And.intro HS5.out HG5.out)⟩
        case measure => simp [intOf]; omega
      · obtain rfl : k = n := by omega
        have hold : ∀ k, k < W.heap.size → wr.heap[k]? = W.heap[k]? := hI.out.1.ext.block
        have hatr := HMS.out wr hold
        have him : ∀ w', TwS (fun k => colr k ≠ 0) wr w' → IsMsg w' (.agg (msgCells m (.slice ra rn rc) (.slice ea en ec) (.slice sa sn sc) (.slice da dn dc))) m := fun w' ht => by
          have hb : Below W.heap.size W w' := Below.ofTws hI.out.1.ext (ht.mono fun k _ hc => hI.out.1.low k hc)
          exact ⟨_, _, _, _, rfl, HI.out.1.below hb, HI.out.2.1.below hb, HI.out.2.2.1.below hb, HI.out.2.2.2.below hb⟩
        have HIM := Lib.hid him
        have hlm : (Instr.loadAt 36 (.pointer (some ⟨qm, 0, none⟩))).run Tryz.prog wr = .ok (.agg (msgCells m (.slice ra rn rc) (.slice ea en ec) (.slice sa sn sc) (.slice da dn dc))) wr := run_loadAt_mid wr qm 0 36 _ _ (MsgAt.range hatr) Tryz.underlying36 rfl (by kernel_rfl)
        obtain ⟨mv, hmv⟩ : ∃ z : Value, .agg (msgCells m (.slice ra rn rc) (.slice ea en ec) (.slice sa sn sc) (.slice da dn dc)) = z := ⟨_, rfl⟩
        rw [hmv] at hlm HIM
        have HP := Lib.hid (Shd.take_plain nd m)
        have HTE := Lib.hid (Shd.take_err (n := nd) (m := m))
        have HKE := Lib.hid (fun (he : (nd.take m).2.2 = 0) => And.intro (Shd.take_bounds he) (Shd.keeps hI.out.2.inv hI.out.2.wf he keep))
        clear hold hatr him hmv
        go_wp2_with (refine ldAny (by rfl) _ rfl rfl hlm ?_)
        refine (own10m_any mv m wr (HIM.out wr (TwS.ext (Ext.refl _)))).mono ?_
        rintro e w1 ⟨rfl, hE2⟩
        have HE2 := Lib.hid hE2
        clear hE2 hlm
        go_wp2_with fail
        refine (take10_any (hI.out.1.node.ext HE2.out) hI.out.2.inv mv m (fun w' ht => HIM.out w' ((TwS.ext HE2.out).trans ht))).mono ?_
        unfold GivesTake
        rintro e w3 ⟨rfl, hl3⟩
        obtain ⟨col3, hs3, _, _⟩ := (hI.out.1.extend HE2.out).step hl3
        have HS3 := Lib.hid hs3
        obtain ⟨er, her⟩ : ∃ z, (nd.take m).2.2 = z := ⟨_, rfl⟩
        obtain ⟨mr, hmr⟩ : ∃ z, (nd.take m).2.1 = z := ⟨_, rfl⟩
        rw [hmr] at HP HKE HTE
        rw [her] at HKE HTE
        rw [her, hmr]
        clear her hmr hl3 hs3
        have hq3 := fun q (h : w3.heap.size ≤ q) => HS3.out.new (q := q) h
        have HQ3 := Lib.hid hq3
        clear hq3
        by_cases he0 : er = 0
        · subst he0
          obtain ⟨hrt, K, rfl, hKn, hE92, hE0, pv, hpv, hsl, hs0, hKp⟩ := HKE.out rfl
          have hbd := headBounds hrt
          obtain ⟨j, hj⟩ : ∃ j : Nat, m.shard = (j : Int) := ⟨m.shard.toNat, by omega⟩
          have hjt : m.shard.toNat = j := by omega
          obtain ⟨pj, hpj, hKp2, hjl⟩ : ∃ x, pv[j]? = some x ∧ (K : Int) ≤ x ∧ j < pv.length := ⟨pv[m.shard.toNat], by rw [← hjt]; exact List.getElem?_eq_getElem hsl, hKp, by omega⟩
          obtain ⟨N', hN'⟩ : ∃ z, (nd.take m).1.crash keep = z := ⟨_, rfl⟩
          have hgN : Shd.Good N' := by rw [← hN']; exact (hI.out.2.take m).crash keep
          rw [hN'] at hE92 hE0 hpv
          obtain ⟨R, hR⟩ : ∃ z, (N'.read m.term m.shard m.number).1 = z := ⟨_, rfl⟩
          obtain ⟨E, hE⟩ : ∃ z, (N'.read m.term m.shard m.number).2 = z := ⟨_, rfl⟩
          rw [hR, hE] at hE0
          rw [hE] at hE92
          obtain ⟨tm, htm⟩ : ∃ z, m.term = z := ⟨_, rfl⟩
          obtain ⟨nu, hnu⟩ : ∃ z, m.number = z := ⟨_, rfl⟩
          obtain ⟨sr, hsr⟩ : ∃ z, m.src = z := ⟨_, rfl⟩
          have HB := Lib.hid hbd
          have HNN := Lib.hid (And.intro hN' (And.intro hR hE))
          have HEE := Lib.hid (And.intro hE92 hE0)
          have HPV := Lib.hid (And.intro hpv (And.intro hgN (And.intro hjl (And.intro hpj hKp2))))
          have HJ := Lib.hid (And.intro hj (And.intro htm (And.intro hnu hsr)))
          have HKN := Lib.hid hKn
          have HWT := Lib.hid (And.intro (wfOf (by omega : -9223372036854775808 ≤ tm ∧ tm ≤ 9223372036854775807)) (wfOf (by omega : -9223372036854775808 ≤ m.shard ∧ m.shard ≤ 9223372036854775807)))
          clear hrt hKn hE92 hE0 hpv hKp hsl hs0 hpj hKp2 hjl hbd hjt hj hN' hgN hR hE htm hnu hsr
          go_wp2_with (first
            | (refine allocM (by rfl) rfl ?_; intro W4 q4 hat4 hE4 hq4)
            | (refine putM (m2 := Shd.kept nd m K) (r2 := .slice none 0 0) (e2 := .slice none 0 0) (s2 := .slice none 0 0) (d2 := .slice none 0 0) (by rfl) _ _ rfl rfl rfl hat4.out noSlice noSlice noSlice noSlice ?_; intro W5 hat5 hB5))
          have hq := HQ3.out q4 (Nat.le_of_eq hq4.out.symm)
          have HS5 := Lib.hid ((HS3.out.extend hE4.out).but hB5.out hq.1 hq.2)
          have HQ4 := Lib.hid hq.1
          clear hq hE4 hq4 hat4 hB5
          refine (crash10_any HS5.out.node keep (bounds_i64 HK.out)).mono ?_
          rintro e w6 ⟨rfl, hl6⟩
          obtain ⟨col6, hs6, ha6, hst6⟩ := HS5.out.step hl6
          rw [HNN.out.1] at hs6
          have HS6 := Lib.hid hs6
          have HAT6 := Lib.hid (HS5.out.msg hat5.out HQ4.out hst6)
          have hmq := (HMS.out w6 hs6.ext.block).head
          rw [HJ.out.1, HJ.out.2.1, HJ.out.2.2.1] at hmq
          obtain ⟨_, _, _, c3, c4, c5, _⟩ := hmq
          clear hl6 hs6 ha6 hst6
          go_wp2_with fail
          have hrd := read10_any HS6.out.node tm (j : Int) nu HWT.out.1 (by rw [← HJ.out.1]; exact HWT.out.2) (by have := HB.out; rw [HJ.out.2.2.1] at this; omega)
          rw [← HJ.out.1, ← HJ.out.2.1, ← HJ.out.2.2.1, HNN.out.2.1, HNN.out.2.2, HJ.out.1, HJ.out.2.1, HJ.out.2.2.1] at hrd
          refine hrd.mono ?_
          rintro e w7 ⟨rv, rfl, hrv, hE7⟩
          obtain ⟨ta, tn, tc, rfl⟩ := ownSlice hrv.choose_spec.choose_spec
          obtain ⟨r0, r1, r2, r3⟩ := R
          unfold recV
          simp only at hrv ⊢
          have HRV := Lib.hid hrv
          have HE7 := Lib.hid hE7
          obtain ⟨w8, hw8⟩ : ∃ z, w7.alloc (.cells #[.int .i64 r0, .int .i64 r1, .slice ta tn tc, .string ⟨r3.toArray⟩] 27) = z := ⟨_, rfl⟩
          obtain ⟨q8, hq8⟩ : ∃ z, w7.heap.size = z := ⟨_, rfl⟩
          have hE8 : Ext w7 w8 := by rw [← hw8]; exact Ext.alloc _ _
          have hx8 : w8.heap[q8]? = some (.cells #[.int .i64 r0, .int .i64 r1, .slice ta tn tc, .string ⟨r3.toArray⟩] 27 (0, 0)) := by rw [← hw8, ← hq8]; exact heap_alloc_new _ _
          have HS8 := Lib.hid (HS6.out.extend (hE7.trans hE8))
          have HX8 := Lib.hid hx8
          have HAT8 := Lib.hid (HAT6.out.ext (hE7.trans hE8))
          have HRV8 := Lib.hid (hrv.ext hE8)
          have HW8 := Lib.hid (And.intro hw8 hq8)
          have hmq8 := (HMS.out w8 HS8.out.ext.block).head
          rw [HJ.out.1, HJ.out.2.1, HJ.out.2.2.1] at hmq8
          obtain ⟨_, _, _, d3, d4, d5, _⟩ := hmq8
          clear hrd hrv hE7 hE8 hx8 hw8 hq8 c3 c4 c5
          go_upto_region 14 with fail
          rw [HW8.out.1, HW8.out.2]
          go_wp2_with fail
          have hpg := progress10_any HS8.out.node HPV.out.2.1 tm HWT.out.1
          rw [← HJ.out.2.1, HPV.out.1, HJ.out.2.1] at hpg
          unfold GivesProg at hpg
          simp only [Option.getD_some, Option.isSome_some] at hpg
          refine hpg.mono ?_
          rintro e w9 ⟨pvv, rfl, ho9, hE9⟩
          have hpvx : ∃ pb po pc L, pvv = .slice (some ⟨pb, po, none⟩) L pc ∧ j < L ∧ L ≤ pc ∧ pc ≤ 9223372036854775807 ∧ w9.cell? ⟨pb, po + j, none⟩ = some (.int .i64 pj) := by
            obtain ⟨_, pc, rfl, p1, p2, _, hpc⟩ := (OwnI.ints ho9).open
            obtain ⟨pb, po, rfl, hpx⟩ := hpc j HPV.out.2.2.1
            rw [(List.getElem?_eq_some_iff.1 HPV.out.2.2.2.1).2] at hpx
            unfold maxLen at p2
            exact ⟨pb, po, pc, _, rfl, HPV.out.2.2.1, p1, by omega, hpx⟩
          obtain ⟨pb, po, pc, L, rfl, hjL, p1, p2, hpx⟩ := hpvx
          have hed := hE9.trans (Ext.drew w9)
          have hm9 := (HMS.out w9.drew (HS8.out.ext.trans hed).block).head
          rw [HJ.out.1] at hm9
          obtain ⟨_, _, _, _, f4, _, _⟩ := hm9
          have f5 : w9.drew.cell? ⟨q4, 5, none⟩ = some (.int .i64 (K : Int)) := (HAT8.out.ext hed).head.2.2.2.2.2.1
          have fx : w9.drew.cell? ⟨pb, po + j, none⟩ = some (.int .i64 pj) := cellExt (Ext.drew w9) hpx
          have g1 : decide ((L : Int) ≤ (j : Int)) = false := by simp; omega
          have g2 : ¬ L ≤ j := by omega
          have hKp := HPV.out.2.2.2.2
          have g3 : decide (pj < (K : Int)) = false := by simp; omega
          have g4 : ¬ pj < (K : Int) := by omega
          have HE9 := Lib.hid hed
          clear hpg ho9 hE9 hed hpx d3 d4 d5 hKp
          go_wp2_with fail
          go_region
          clear f4 f5 fx g1 g2 g3 g4
          go_wp2_with fail
          refine (HALIVE.out _).mono ?_
          rintro e w10 ⟨rfl, hE10⟩
          have hex := HE9.out.trans hE10
          have hmt := HMS.out w10 (HS8.out.ext.trans hex).block
          have HFIN := Lib.hid (HE0.out.trans (HS8.out.ext.trans hex))
          have hbw := HS8.out.ext.trans hex
          have h7 : Msg7 36 w10 qm m (.slice ra rn rc) (.slice ea en ec) (.slice sa sn sc) (.slice da dn dc) := ⟨hmt, HI.out.1.below hbw, HI.out.2.1.below hbw, HI.out.2.2.1.below hbw, HI.out.2.2.2.below hbw⟩
          have hlr := h7.ldRec
          have HREC := Lib.hid (show IsRec w10 (.agg #[.int .i64 m.reco.client, .int .i64 m.reco.number, .slice ra rn rc, .string ⟨m.reco.data.toArray⟩]) m.reco from ⟨_, rfl, HI.out.1.below hbw⟩)
          obtain ⟨mrv, hmrv⟩ : ∃ z : Value, .agg #[.int .i64 m.reco.client, .int .i64 m.reco.number, .slice ra rn rc, .string ⟨m.reco.data.toArray⟩] = z := ⟨_, rfl⟩
          rw [hmrv] at hlr HREC
          have hm10 := hmt.head
          rw [HJ.out.2.2.2, HJ.out.2.2.1] at hm10
          obtain ⟨_, l1, _, _, _, l5, _⟩ := hm10
          have hkt := (HAT8.out.ext hex).head
          have n5 : w10.cell? ⟨q4, 5, none⟩ = some (.int .i64 (K : Int)) := hkt.2.2.2.2.2.1
          have n2 : w10.cell? ⟨q4, 2, none⟩ = some (.int .i64 sr) := by rw [← HJ.out.2.2.2]; exact hkt.2.2.1
          have hx10 := heap_ext HX8.out hex
          have y0 : w10.cell? ⟨q8, 0, none⟩ = some (.int .i64 r0) := cell_of_heap hx10 0
          have y1 : w10.cell? ⟨q8, 1, none⟩ = some (.int .i64 r1) := cell_of_heap hx10 1
          have y2 : w10.cell? ⟨q8, 2, none⟩ = some (.slice ta tn tc) := cell_of_heap hx10 2
          have y3 : w10.cell? ⟨q8, 3, none⟩ = some (.string ⟨r3.toArray⟩) := cell_of_heap hx10 3
          have HR1 := Lib.hid (show IsRec w10 (.agg #[.int .i64 r0, .int .i64 r1, .slice ta tn tc, .string ⟨r3.toArray⟩]) ⟨r0, r1, r2, r3⟩ from ⟨_, rfl, (HRV8.out.ext hex).ints⟩)
          obtain ⟨rs, hrs⟩ : ∃ z : ByteArray, (⟨r3.toArray⟩ : ByteArray) = z := ⟨_, rfl⟩
          rw [hrs] at y3 HR1
          have hnu := HKN.out
          rw [HJ.out.2.2.1] at hnu
          have g5 : decide (nu < (K : Int)) = true := decide_eq_true hnu
          have h92 := HEE.out.1
          simp only [List.mem_cons, List.not_mem_nil, or_false] at h92
          have HE92 := Lib.hid h92
          clear hex hmt hbw h7 hmrv hkt hx10 hrs h92 hE10
          rcases HE92.out with hE0 | hE0
          · have hsame := (Rec.same_iff _ _).2 (HEE.out.2 hE0)
            have HSM := Lib.hid hsame
            subst hE0
            clear hsame
            go_wp2_with (refine ldAny (by rfl) _ rfl rfl hlr ?_)
            refine (refSame4_any _ mrv ⟨r0, r1, r2, r3⟩ m.reco w10 HR1.out HREC.out).mono ?_
            rw [HSM.out]
            rintro e w11 ⟨rfl, hE11⟩
            have HF11 := Lib.hid (HFIN.out.trans hE11)
            clear hE11
            go_wp2_with fail
            go_ret
            exact ⟨rfl, HF11.out⟩
          · subst hE0
            go_wp2_with fail
            go_ret
            exact ⟨rfl, HFIN.out⟩
        · have hnone := HTE.out he0
          subst hnone
          have heb : (er != 0) = true := by simpa using he0
          have hbd := build_msg0
          have HA := Lib.hid (Msg.alike_self Msg.none0)
          go_wp2_with (first
            | (refine allocM (by rfl) rfl ?_; intro W4 q4 hat4 hE4 hq4)
            | (refine putM (m2 := Msg.none0) (r2 := .slice none 0 0) (e2 := .slice none 0 0) (s2 := .slice none 0 0) (d2 := .slice none 0 0) (by rfl) _ _ rfl rfl rfl hat4.out noSlice noSlice noSlice noSlice ?_; intro W5 hat5 hB5))
          have hE5 : Ext W0 W5 := Ext.newQ ((HE0.out.trans HS3.out.ext).trans hE4.out) (by have := (HE0.out.trans HS3.out.ext).size; have := hq4.out; omega) hB5.out
          have HE5 := Lib.hid hE5
          clear hE5 hE4 hq4 hat4 hB5
          refine (HALIVE.out W5).mono ?_
          rintro e w6 ⟨rfl, hE6⟩
          have HE6 := Lib.hid (HE5.out.trans hE6)
          have hld6 := MsgAt.ldFree (hat5.out.ext hE6)
          clear hE6
          go_wp2_with (refine ldAny (by rfl) _ rfl rfl hld6 ?_)
          refine (same7_any (.agg (msgCells Msg.none0 (.slice none 0 0) (.slice none 0 0) (.slice none 0 0) (.slice none 0 0))) (.agg (msgCells Msg.none0 (.slice none 0 0) (.slice none 0 0) (.slice none 0 0) (.slice none 0 0))) Msg.none0 Msg.none0 w6 (HP.out w6) (HP.out w6)).mono ?_
          rw [HA.out]
          rintro e w7 ⟨rfl, hE7⟩
          have HE7 := Lib.hid (HE6.out.trans hE7)
          clear hE7
          go_wp2_with fail
          go_ret
          exact ⟨rfl, HE7.out⟩

namespace shardKeeps
theorem own : ownKnob Tryz.prog.godebug = none := by kernel_rfl
theorem laidOut : laidOutB Tryz.prog = true := by kernel_rfl
set_option linter.unusedVariables false in
set_option maxRecDepth 100000 in
theorem lifted (os : Os) (started : os.Started) (H : Type) (enc : TypeId × Value → H) :
    ReturnsInHanded {} Tryz.checked os 3 .any (Rows.shardKeepsSpec.pre6 enc Tryz.prog Tryz.f3 Rows.shardKeepsRow.domain false) (Rows.shardKeepsSpec.post enc Tryz.prog Tryz.f3 false true false false) := by
  refine returnsInHanded_of_change_sized (C := Tryz.checked) own started (by kernel_rfl) Tryz.func3
    (ChangeSpec.witness6 (enc := enc) (C := Tryz.checked) false ⟨#[], #[.slice none 0 0, .agg #[.int .i64 0, .int .i64 0, .int .i64 0, .int .i64 0, .int .i64 0, .int .i64 0, .bool false, .int .i64 0, .int .i64 0, .slice none 0 0, .string ByteArray.empty, .int .i64 0, .int .i64 0, .slice none 0 0, .int .i64 0, .int .i64 0, .int .i64 0, .int .i64 0, .int .i64 0, .int .i64 0, .slice none 0 0, .slice none 0 0], .int .i64 0], []⟩ 8 (by kernel_rfl) (by kernel_rfl) (by kernel_rfl) (by kernel_rfl)) ?_
  intro W base args ds gs before hval0 hW hcnd hsz _
  have hval : ∀ (j : Nat) t v, Tryz.f3.params[j]? = some t → args[j]? = some v → Value.okWide Tryz.prog W .any base t v := hval0
  have hW' := hW
  obtain ⟨p, q, hA0, hV, rfl, hfz, hnd⟩ := hW'
  have hA : DataW.TrodAll enc Tryz.prog W 0 (fun _ => true) true Tryz.f3.params.toList args.toList ds p := hA0
  rw [Tryz.params3] at hA hval
  obtain ⟨v0, vs0, d0, ds0, p0, q0, hargs, rfl, rfl, h0, r0⟩ := trodAll_cons hA
  obtain ⟨v1, vs1, d1, ds1, p1, q1, rfl, rfl, rfl, h1, r1⟩ := trodAll_cons r0
  obtain ⟨v2, vs2, d2, ds2, p2, q2, rfl, rfl, rfl, h2, r2⟩ := trodAll_cons r1
  obtain ⟨rfl, rfl, rfl⟩ := trodAll_nil r2
  obtain rfl : args = #[v0, v1, v2] := by cases args; simp_all
  obtain ⟨rfl, rfl⟩ := trodVars_none hV
  have k0 := h0
  have lt0 : ∀ x ∈ p0, x.block < W.heap.size := by obtain ⟨m, hm⟩ := k0; exact DataW.trod_lt m _ _ _ hm
  obtain ⟨a0, len0, cap0, rfl⟩ := okWide_slice Tryz.underlying22 (hval 0 22 v0 rfl rfl)
  obtain ⟨l0, w0, f0⟩ : ∃ l, Ops10 W (.slice a0 len0 cap0) l ∧ ∀ o ∈ l, Wf64 o.n := by
    obtain ⟨fuel, hf⟩ := h0
    obtain ⟨v, l, hcs, hb, hft⟩ := ops10_of_raw hf
    simp [Value.cells] at hcs
    subst hcs
    exact ⟨l, hb, hft⟩
  have k1 := h1
  have lt1 : ∀ x ∈ p1, x.block < W.heap.size := by obtain ⟨m, hm⟩ := k1; exact DataW.trod_lt m _ _ _ hm
  obtain ⟨l1, w1⟩ := msg_arg (hval 1 36 v1 rfl rfl) h1
  have k2 := h2
  have lt2 : ∀ x ∈ p2, x.block < W.heap.size := by obtain ⟨m, hm⟩ := k2; exact DataW.trod_lt m _ _ _ hm
  obtain ⟨a2, rfl, _, _, w2⟩ := open_int Tryz.underlying3 (hval 2 3 v2 rfl rfl) h2
  clear hA0 hval0
  refine (shardKeeps_walk a0 len0 cap0 l0 v1 l1 a2 W w0 f0 w1 w2).mono fun e W' ⟨he, bel⟩ => ?_
  subst he
  exact ⟨_, rfl, _, _, _, [], _, [], hW, trodAll_mk1 (shut_bool Tryz.underlying4 _), (trodAll_cons_mk (Below.trod laidOut (by kernel_rfl) (of_decide_eq_true (by kernel_rfl)) k0 bel lt0) (trodAll_cons_mk (Below.trod laidOut (by kernel_rfl) (of_decide_eq_true (by kernel_rfl)) k1 bel lt1) (trodAll_cons_mk (Below.trod laidOut (by kernel_rfl) (of_decide_eq_true (by kernel_rfl)) k2 bel lt2) trodAll_mk0))), rfl, bel.frame _, fun h => by cases h⟩
theorem over : Rows.shardKeepsRow.holds Tryz.pinned (OpenSpec.ofChange Rows.shardKeepsSpec) :=
  OpenClaim.holds_of_wide 3 Tryz.f3 rfl rfl rfl rfl rfl rfl rfl ⟨rfl, rfl, rfl, rfl, rfl⟩ rfl rfl rfl rfl rfl (by kernel_rfl) Tryz.func3 (by kernel_rfl)
    (of_decide_eq_true (by kernel_rfl)) (by unfold Func.isWrapper; first | (rw [if_pos (by decide +kernel)]; kernel_rfl) | (rw [if_neg (by decide +kernel)]; exact ⟨rfl, rfl⟩))
    (fun os started H enc _ => lifted os started H enc)
theorem proved : Rows.ShardKeepsSaid := over
end shardKeeps
end Go.Proofs.YtaijgpdlgcgfaaaGreat
