/-
  ShardServes: a node keeps just for the shards that have it, in the terms that it serves; a term is served by one configuration alone: for every input the statement's function returns true, and leaves what came in as it was.
-/
import Derived.Test.YtaijgpdlgcgfaaaGreatBsSh2
import Derived.Test.YtaijgpdlgcgfaaaGreatBsTerm
namespace Go.Proofs.YtaijgpdlgcgfaaaGreat
set_option linter.unusedSimpArgs false
set_option linter.unusedVariables false
open Go.ChangeShapes Go.WideShapes Go.ChangeAt Go.RowKit

namespace Shd
theorem first_right {id : Int} {c : Term.C} (h : Term.right c = true) : (new id).serve c = (⟨id, [c], [] ++ parts c id c.shards.length⟩, 0) := by
  rw [serve_new h rfl]
  rfl
theorem first_wrong {id : Int} {c : Term.C} (h : Term.right c = false) : (new id).serve c = (new id, 1) := serve_bad h
theorem again {id : Int} {c d : Term.C} (h : Term.right c = true) (ht : d.term = c.term) : ((new id).serve c).1.serve d = (((new id).serve c).1, if Term.right d = true then (if Term.alike c d then 0 else 100) else 1) := by
  rw [first_right h]
  cases hd : Term.right d with
  | false =>
    rw [serve_bad hd]
    rfl
  | true =>
    have hc : (⟨id, [c], [] ++ parts c id c.shards.length⟩ : Nd).conf d.term = some c := by
      unfold Nd.conf
      simp [ht]
    rw [serve_had hd hc]
    rfl
theorem first_read {id : Int} {c : Term.C} (h : Term.right c = true) (k : Nat) : (((new id).serve c).1.read c.term (k : Int) 0).2 = if servesI c.shards id (k : Int) = true then 91 else 100 := by
  unfold Nd.read
  rw [serve_find h]
  by_cases hk : k < c.shards.length
  · have hs : servesI c.shards id (k : Int) = serves c id ((k : Int)).toNat := by
      rw [serves_at hk]
      unfold serves hasI
      rw [show ((k : Int)).toNat = k by omega, List.getD_eq_getElem?_getD, List.getElem?_eq_getElem hk]
      rfl
    rw [hs]
    cases hb : serves c id ((k : Int)).toNat with
    | true =>
      rw [if_pos ⟨rfl, by omega, by omega, rfl⟩, if_pos rfl]
      rfl
    | false =>
      rw [if_neg (by simp), if_neg (by simp)]
  · rw [serves_high (by omega), if_neg (by omega), if_neg (by simp)]
end Shd
theorem ldConfR {w : World} {q : Nat} {n : Int} {a b : Option Addr} {m k i j : Nat} (h : ConfAt 34 w q n (.slice a m k) (.slice b i j)) : (Instr.loadAt 34 (.pointer (some ⟨q, 0, none⟩))).run Tryz.prog w = .ok (.agg #[.int .i64 n, .slice a m k, .slice b i j]) w := by
  obtain ⟨c0, c1, c2⟩ := h.cells
  simp [go_sem, c0, c1, c2]
theorem LeavesNode.conf {B x o p : Nat} {col : Nat → Nat} {w w' : World} {n : Shd.Nd} {T : TypeId} {t : Int} {s d : Value} (hst : ∀ k, k < w.heap.size → col k = 0 → w'.heap[k]? = w.heap[k]?) (h : ConfAt T w p t s d) (h0 : col p = 0) : ConfAt T w' p t s d := (hst p h.lt h0).trans h
set_option maxRecDepth 100000 in
set_option maxHeartbeats 40000000 in
theorem shardServes_walk (id : Int) (v1 v2 : Value) (c d : Term.C) (W0 : World) (h1 : IsConf W0 v1 c) (h2 : IsConf W0 v2 d) :
    Calls Tryz.prog 5 #[.int .i64 id, v1, v2] W0 fun e W' => e = .returned (.bool true) ∧ Below W0.heap.size W0 W' := by
  have hbx := box_confR
  obtain ⟨s1, d1, rfl, i1, j1⟩ := h1
  obtain ⟨s2, d2, rfl, i2, j2⟩ := h2
  obtain ⟨a1, n1, k1, rfl⟩ := intsSlice i1
  obtain ⟨a2, n2, k2, rfl⟩ := irowsSlice j1
  obtain ⟨a3, n3, k3, rfl⟩ := intsSlice i2
  obtain ⟨a4, n4, k4, rfl⟩ := irowsSlice j2
  unfold confV
  obtain ⟨tc, htc⟩ : ∃ z, c.term = z := ⟨_, rfl⟩
  obtain ⟨td, htd⟩ : ∃ z, d.term = z := ⟨_, rfl⟩
  rw [htc, htd]
  obtain ⟨W, hW⟩ : ∃ W, (W0.alloc (.cells #[.int .i64 tc, .slice a1 n1 k1, .slice a2 n2 k2] 34)).alloc (.cells #[.int .i64 td, .slice a3 n3 k3, .slice a4 n4 k4] 34) = W := ⟨_, rfl⟩
  obtain ⟨q, hq⟩ : ∃ q, W0.heap.size = q := ⟨_, rfl⟩
  have hE0 : Ext W0 W := by rw [← hW]; exact (Ext.alloc _ _).trans (Ext.alloc _ _)
  have hca : ConfAt 34 W q tc (.slice a1 n1 k1) (.slice a2 n2 k2) := by
    rw [← hW, ← hq]
    exact (ConfAt.new _ _ _ _ _).ext (Ext.alloc _ _)
  have hcb : ConfAt 34 W (q + 1) td (.slice a3 n3 k3) (.slice a4 n4 k4) := by
    rw [← hW, ← hq]
    have := ConfAt.new 34 (W0.alloc (.cells #[.int .i64 tc, .slice a1 n1 k1, .slice a2 n2 k2] 34)) td (.slice a3 n3 k3) (.slice a4 n4 k4)
    rwa [World.size_alloc] at this
  have HW := Lib.hid (And.intro hW hq)
  have HE0 := Lib.hid hE0
  have HCA := Lib.hid hca
  have HCB := Lib.hid hcb
  have HI := Lib.hid (And.intro i1 (And.intro j1 (And.intro i2 j2)))
  have HT := Lib.hid (And.intro htc htd)
  have HALIVE := Lib.hid shardAlive_any
  have HSZ := Lib.hid (show W.heap.size = q + 1 + 1 by rw [← hW, World.size_alloc, World.size_alloc, hq])
  clear i1 j1 i2 j2 htc htd hW hq hE0 hca hcb
  go_enter Tryz.func5, Tryz.ntmps5
  go_upto_region 1 with fail
  rw [HW.out.1, HW.out.2]
  clear hbx
  go_wp2_with fail
  refine (newN_any id W (fun _ => 0) (fun k hk => absurd rfl hk) 0 (by omega)).mono ?_
  rintro e w1 ⟨h, hE1⟩
  rcases h with ⟨x, col, rfl, hA, _, hlo, _, _⟩ | ⟨_, rfl⟩
  case inr =>
    have HE1 := Lib.hid (HE0.out.trans hE1)
    clear hE1
    go_wp2_with fail
    refine (HALIVE.out w1).mono ?_
    rintro e w9 ⟨rfl, hE9⟩
    have HE9 := Lib.hid ((HE1.out).trans hE9)
    clear hE9
    go_wp2_with fail
    go_ret
    exact ⟨rfl, HE9.out⟩
  have HLO := Lib.hid (show ∀ k, k < W.heap.size → col k = 0 from fun k hk => Classical.byContradiction fun hc => (hlo k hc).elim (fun h => h rfl) (fun h => by omega))
  have HS1 := Lib.hid (show Seat10 W0 W.heap.size x 0 col (Shd.new id) w1 from ⟨hA, HE0.out.trans hE1, fun k hk => (hlo k hk).elim (fun h => absurd rfl h) (fun h => Nat.le_trans HE0.out.size h)⟩)
  have HCA1 := Lib.hid (HCA.out.ext hE1)
  have HCB1 := Lib.hid (HCB.out.ext hE1)
  obtain ⟨x0, x1, x2⟩ := HCA1.out.cells
  obtain ⟨y0, y1, y2⟩ := HCB1.out.cells
  clear hA hE1 hlo
  by_cases b1 : 20 < n2
  · have g : decide (20 < (n2 : Int)) = true := by simp; omega
    go_wp2_with fail
    refine (HALIVE.out w1).mono ?_
    rintro e w9 ⟨rfl, hE9⟩
    have HE9 := Lib.hid ((HS1.out.ext).trans hE9)
    clear hE9
    go_wp2_with fail
    go_ret
    exact ⟨rfl, HE9.out⟩
  have gb1 : decide (20 < (n2 : Int)) = false := by simp; omega
  by_cases b2 : 20 < n1
  · have g : decide (20 < (n1 : Int)) = true := by simp; omega
    go_wp2_with fail
    refine (HALIVE.out w1).mono ?_
    rintro e w9 ⟨rfl, hE9⟩
    have HE9 := Lib.hid ((HS1.out.ext).trans hE9)
    clear hE9
    go_wp2_with fail
    go_ret
    exact ⟨rfl, HE9.out⟩
  have gb2 : decide (20 < (n1 : Int)) = false := by simp; omega
  by_cases b3 : 20 < n4
  · have g : decide (20 < (n4 : Int)) = true := by simp; omega
    go_wp2_with fail
    refine (HALIVE.out w1).mono ?_
    rintro e w9 ⟨rfl, hE9⟩
    have HE9 := Lib.hid ((HS1.out.ext).trans hE9)
    clear hE9
    go_wp2_with fail
    go_ret
    exact ⟨rfl, HE9.out⟩
  have gb3 : decide (20 < (n4 : Int)) = false := by simp; omega
  by_cases b4 : 20 < n3
  · have g : decide (20 < (n3 : Int)) = true := by simp; omega
    go_wp2_with fail
    refine (HALIVE.out w1).mono ?_
    rintro e w9 ⟨rfl, hE9⟩
    have HE9 := Lib.hid ((HS1.out.ext).trans hE9)
    clear hE9
    go_wp2_with fail
    go_ret
    exact ⟨rfl, HE9.out⟩
  have gb4 : decide (20 < (n3 : Int)) = false := by simp; omega
  go_upto_region 4 with fail
  have hl1 := ldConfR HCA1.out
  clear b1 b2 b3 b4 gb1 gb2 gb3 gb4 x0 x1 x2 y0 y1 y2
  have hcf : ∀ w', Below W0.heap.size W0 w' → IsConf w' (.agg #[.int .i64 tc, .slice a1 n1 k1, .slice a2 n2 k2]) c := fun w' hb => ⟨_, _, by rw [HT.out.1]; rfl, HI.out.1.below hb, HI.out.2.1.below hb⟩
  have hdf : ∀ w', Below W0.heap.size W0 w' → IsConf w' (.agg #[.int .i64 tc, .slice a3 n3 k3, .slice a4 n4 k4]) ⟨tc, d.seqs, d.shards⟩ := fun w' hb => ⟨_, _, rfl, HI.out.2.2.1.below hb, HI.out.2.2.2.below hb⟩
  have HCF := Lib.hid hcf
  have HDF := Lib.hid hdf
  clear hcf hdf
  go_wp2_with (refine ldAny (by rfl) _ rfl rfl hl1 ?_)
  refine (serve10_any HS1.out.node (Shd.good_new id).wf _ c (fun w' ht => HCF.out w' (Below.ofTws HS1.out.ext (ht.mono fun k _ hc => HS1.out.low k hc)))).mono ?_
  unfold GivesErr10
  rintro e w2 ⟨rfl, hl2⟩
  obtain ⟨col2, hs2, ha2, hst2⟩ := HS1.out.step hl2
  have hca2 : ConfAt 34 w2 q tc (.slice a1 n1 k1) (.slice a2 n2 k2) := (hst2 q HCA1.out.lt (HLO.out q (by have := HSZ.out; omega))).trans HCA1.out
  have hcb2 : ConfAt 34 w2 (q + 1) td (.slice a3 n3 k3) (.slice a4 n4 k4) := (hst2 (q + 1) HCB1.out.lt (HLO.out (q + 1) (by have := HSZ.out; omega))).trans HCB1.out
  have HCA2 := Lib.hid hca2
  have HCB2 := Lib.hid hcb2
  have HQ2 := Lib.hid (show col2 (q + 1) = 0 by rw [ha2 (q + 1) HCB1.out.lt]; exact HLO.out (q + 1) (by have := HSZ.out; omega))
  have HQ1 := Lib.hid (show col2 q = 0 by rw [ha2 q HCA1.out.lt]; exact HLO.out q (by have := HSZ.out; omega))
  have HS2 := Lib.hid hs2
  clear hl2 hs2 ha2 hst2 hca2 hcb2 hl1
  cases hr : Term.right c with
  | false =>
    have HR := Lib.hid hr
    rw [Shd.first_wrong hr] at HS2 ⊢
    simp only at HS2 ⊢
    clear hr
    go_wp2_with fail
    refine (HALIVE.out w2).mono ?_
    rintro e w3 ⟨rfl, hE3⟩
    have hl3 := ldConfR (HCA2.out.ext hE3)
    have HS3 := Lib.hid (HS2.out.extend hE3)
    clear hE3
    go_wp2_with (refine ldAny (by rfl) _ rfl rfl hl3 ?_)
    refine (refRight6_any _ c w3 (HCF.out w3 HS3.out.ext)).mono ?_
    rw [HR.out]
    rintro e w4 ⟨rfl, hE4⟩
    have HS4 := Lib.hid (HS3.out.extend hE4)
    clear hE4 hl3
    go_wp2_with fail
    obtain ⟨M1, M2, cvs, gvs, hN⟩ := HS4.out.node
    refine (terms10_any hN (by simp [Shd.new])).mono ?_
    rintro e w5 ⟨⟨ta, tcap, rfl⟩, hE5⟩
    have HE5 := Lib.hid (HS4.out.ext.trans hE5)
    have hz : (Shd.new id).cs.length = 0 := rfl
    rw [hz]
    clear hE5 hN hz
    go_wp2_with fail
    go_ret
    exact ⟨rfl, HE5.out⟩
  | true =>
    have HR := Lib.hid hr
    have HRD := Lib.hid (fun k => Shd.first_read (id := id) hr k)
    have HAG := Lib.hid (Shd.again (id := id) (d := ⟨tc, d.seqs, d.shards⟩) hr HT.out.1.symm)
    have hrs := rightSmall hr
    have hl2 : n2 = c.shards.length := by
      obtain ⟨_, _, e, _⟩ := HI.out.2.1.open
      injection e
    have HBT := Lib.hid (show Wf64 tc from wfOf (by have := hrs.2.2.2; rw [HT.out.1] at this; omega))
    obtain ⟨N1, hN1⟩ : ∃ z, ((Shd.new id).serve c).1 = z := ⟨_, rfl⟩
    have HCS := Lib.hid (show N1.cs.length = 1 by rw [← hN1, Shd.first_right hr]; rfl)
    have HWF := Lib.hid (show Shd.Wf N1 by rw [← hN1]; exact (Shd.good_new id).wf.serve c)
    rw [hN1] at HS2 HRD HAG
    have hz2 : ((Shd.new id).serve c).2 = 0 := by rw [Shd.first_right hr]
    rw [hz2]
    rw [HT.out.1] at HRD
    have h8 : n2 ≤ 8 := by omega
    have HL2 := Lib.hid hl2
    obtain ⟨x0, x1, x2⟩ := HCA2.out.cells
    clear hr hrs hz2 hN1 hl2
    go_wp2_with fail
    go_loopw [75] (fun i wr => ∃ k : Nat, k ≤ n2 + 1 ∧ i = .int .i64 k ∧ Hid (Ext w2 wr)) (fun i _ => n2 + 1 - (intOf i).toNat)
    case atStart => exact ⟨0, by omega, rfl, Lib.hid (Ext.refl _)⟩
    case round =>
      obtain ⟨k, hk, rfl, hE⟩ := hrel
      by_cases hlt : k < n2 + 1
      · have hca := HCA2.out.ext hE.out
        obtain ⟨x0, x1, x2⟩ := hca.cells
        have hrd := read10_any (HS2.out.node.ext hE.out) tc (k : Int) 0 HBT.out (wfOf (by omega)) (by omega)
        rw [HRD.out k] at hrd
        have HRE := Lib.hid hrd
        have HCA3 := Lib.hid hca
        clear hrd hca
        go_wp2_with fail
        refine HRE.out.mono ?_
        rintro e w3 ⟨rv, rfl, hrv, hE3⟩
        obtain ⟨ta, tn, tcp, rfl⟩ := ownSlice hrv.choose_spec.choose_spec
        obtain ⟨R, hR⟩ : ∃ z, (N1.read tc (k : Int) 0).1 = z := ⟨_, rfl⟩
        rw [hR]
        obtain ⟨r0, r1, r2, r3⟩ := R
        unfold recV
        simp only
        obtain ⟨w4, hw4⟩ : ∃ z, w3.alloc (.cells #[.int .i64 r0, .int .i64 r1, .slice ta tn tcp, .string ⟨r3.toArray⟩] 27) = z := ⟨_, rfl⟩
        have hE4 : Ext w3 w4 := by rw [← hw4]; exact Ext.alloc _ _
        have HE4 := Lib.hid (hE.out.trans (hE3.trans hE4))
        have HCA4 := Lib.hid (HCA3.out.ext (hE3.trans hE4))
        have HW4 := Lib.hid hw4
        have hl4 := ldConfR HCA4.out
        obtain ⟨sb, hsb⟩ : ∃ z, servesI c.shards id (k : Int) = z := ⟨_, rfl⟩
        rw [hsb]
        have HSB := Lib.hid hsb
        clear hrv hE3 hR hE4 hw4 hsb x0 x1 x2
        cases sb with
        | true =>
          go_upto_region 11 with fail
          rw [HW4.out]
          go_wp2_with (refine ldAny (by rfl) _ rfl rfl hl4 ?_)
          refine (refServes6_any _ c id (k : Int) w4 (HCF.out w4 (HS2.out.ext.trans HE4.out))).mono ?_
          rw [HSB.out]
          rintro e w5 ⟨rfl, hE5⟩
          have HE5 := Lib.hid (HE4.out.trans hE5)
          clear hE5
          go_wp2_with fail
          go_roundw
          case rel => exact ⟨k + 1, by omega, by go_num, HE5⟩
          case measure => simp [intOf]; omega
        | false =>
          go_upto_region 11 with fail
          rw [HW4.out]
          go_wp2_with (refine ldAny (by rfl) _ rfl rfl hl4 ?_)
          refine (refServes6_any _ c id (k : Int) w4 (HCF.out w4 (HS2.out.ext.trans HE4.out))).mono ?_
          rw [HSB.out]
          rintro e w5 ⟨rfl, hE5⟩
          have HE5 := Lib.hid (HE4.out.trans hE5)
          clear hE5
          go_wp2_with fail
          go_roundw
          case rel => exact ⟨k + 1, by omega, by go_num, HE5⟩
          case measure => simp [intOf]; omega
      · obtain rfl : k = n2 + 1 := by omega
        have hca := HCA2.out.ext hE.out
        have hcb := HCB2.out.ext hE.out
        obtain ⟨x0, x1, x2⟩ := hca.cells
        obtain ⟨y0, y1, y2⟩ := hcb.cells
        have fy := frozen_of_heap hcb 0
        obtain ⟨w3, hw3⟩ : ∃ z, wr.setCell ⟨q + 1, 0, none⟩ (.int .i64 tc) = z := ⟨_, rfl⟩
        have hb3 : But (q + 1) wr w3 := by rw [← hw3]; exact butSet _ _ _ _
        have hcb3 : ConfAt 34 w3 (q + 1) tc (.slice a3 n3 k3) (.slice a4 n4 k4) := by rw [← hw3]; exact heap_setCell hcb 0 (.int .i64 tc)
        have hca3 : ConfAt 34 w3 q tc (.slice a1 n1 k1) (.slice a2 n2 k2) := hca.but hb3 (by omega)
        have HS3 := Lib.hid ((HS2.out.extend hE.out).but hb3 HQ2.out (by have := HW.out.2; omega))
        have HW3 := Lib.hid hw3
        have HCA3 := Lib.hid hca3
        have HCB3 := Lib.hid hcb3
        have hl3 := ldConfR hcb3
        clear hca hcb hb3 hca3 hcb3 hw3 hk hlt
        go_upto_region 15 with fail
        rw [HW3.out]
        clear x0 x1 x2 y0 y1 y2 fy
        go_wp2_with (refine ldAny (by rfl) _ rfl rfl hl3 ?_)
        refine (serve10_any HS3.out.node HWF.out _ ⟨tc, d.seqs, d.shards⟩ (fun w' ht => HDF.out w' (Below.ofTws HS3.out.ext (ht.mono fun k _ hc => HS3.out.low k hc)))).mono ?_
        unfold GivesErr10
        rintro e w4 ⟨rfl, hl4⟩
        obtain ⟨col4, hs4, ha4, hst4⟩ := HS3.out.step hl4
        rw [HAG.out] at hs4 ⊢
        simp only at hs4 ⊢
        have hcb4 : ConfAt 34 w4 (q + 1) tc (.slice a3 n3 k3) (.slice a4 n4 k4) := (hst4 (q + 1) HCB3.out.lt HQ2.out).trans HCB3.out
        have hca4 : ConfAt 34 w4 q tc (.slice a1 n1 k1) (.slice a2 n2 k2) := (hst4 q HCA3.out.lt HQ1.out).trans HCA3.out
        have HS4 := Lib.hid hs4
        have HCA4 := Lib.hid hca4
        have HCB4 := Lib.hid hcb4
        have hl4b := ldConfR hcb4
        obtain ⟨er, her⟩ : ∃ z : Int, (if Term.right ⟨tc, d.seqs, d.shards⟩ = true then (if Term.alike c ⟨tc, d.seqs, d.shards⟩ = true then (0 : Int) else 100) else 1) = z := ⟨_, rfl⟩
        rw [her]
        have HER := Lib.hid her
        clear hl4 hs4 ha4 hst4 hca4 hcb4 hl3 her
        go_wp2_with (refine ldAny (by rfl) _ rfl rfl hl4b ?_)
        refine (refRight6_any _ ⟨tc, d.seqs, d.shards⟩ w4 (HDF.out w4 HS4.out.ext)).mono ?_
        rintro e w5 ⟨rfl, hE5⟩
        have HS5 := Lib.hid (HS4.out.extend hE5)
        have HCA5 := Lib.hid (HCA4.out.ext hE5)
        have HCB5 := Lib.hid (HCB4.out.ext hE5)
        clear hE5 hl4b
        obtain ⟨rb, hrb⟩ : ∃ z, Term.right ⟨tc, d.seqs, d.shards⟩ = z := ⟨_, rfl⟩
        rw [hrb] at HER ⊢
        cases rb with
        | false =>
          have he1 : er = 1 := HER.out.symm
          subst he1
          clear hrb
          go_wp2_with fail
          refine (HALIVE.out w5).mono ?_
          rintro e w6 ⟨rfl, hE6⟩
          have HE6 := Lib.hid (HS5.out.ext.trans hE6)
          clear hE6
          go_wp2_with fail
          go_ret
          exact ⟨rfl, HE6.out⟩
        | true =>
          obtain ⟨ab, hab⟩ : ∃ z, Term.alike c ⟨tc, d.seqs, d.shards⟩ = z := ⟨_, rfl⟩
          rw [hab] at HER
          have HAB := Lib.hid hab
          clear hrb hab
          go_wp2_with fail
          refine (HALIVE.out w5).mono ?_
          rintro e w6 ⟨rfl, hE6⟩
          have HS6 := Lib.hid (HS5.out.extend hE6)
          have hla := ldConfR (HCA5.out.ext hE6)
          have hlb := ldConfR (HCB5.out.ext hE6)
          clear hE6
          cases ab with
          | true =>
            have he1 : er = 0 := HER.out.symm
            subst he1
            go_wp2_with (first | (refine ldAny (by rfl) _ rfl rfl hla ?_) | (refine ldAny (by rfl) _ rfl rfl hlb ?_))
            refine (refSame6_any _ _ c ⟨tc, d.seqs, d.shards⟩ w6 (HCF.out w6 HS6.out.ext) (HDF.out w6 HS6.out.ext)).mono ?_
            rw [HAB.out]
            rintro e w7 ⟨rfl, hE7⟩
            have HS7 := Lib.hid (HS6.out.extend hE7)
            clear hE7 hla hlb
            go_wp2_with fail
            obtain ⟨M1, M2, cvs, gvs, hN⟩ := HS7.out.node
            refine (terms10_any hN (by rw [HCS.out]; exact Nat.le_refl _)).mono ?_
            rw [HCS.out]
            rintro e w8 ⟨⟨ta, tcap, rfl⟩, hE8⟩
            have HE8 := Lib.hid (HS7.out.ext.trans hE8)
            clear hE8 hN
            go_wp2_with fail
            go_ret
            exact ⟨rfl, HE8.out⟩
          | false =>
            have he1 : er = 100 := HER.out.symm
            subst he1
            go_wp2_with (first | (refine ldAny (by rfl) _ rfl rfl hla ?_) | (refine ldAny (by rfl) _ rfl rfl hlb ?_))
            refine (refSame6_any _ _ c ⟨tc, d.seqs, d.shards⟩ w6 (HCF.out w6 HS6.out.ext) (HDF.out w6 HS6.out.ext)).mono ?_
            rw [HAB.out]
            rintro e w7 ⟨rfl, hE7⟩
            have HS7 := Lib.hid (HS6.out.extend hE7)
            clear hE7 hla hlb
            go_wp2_with fail
            obtain ⟨M1, M2, cvs, gvs, hN⟩ := HS7.out.node
            refine (terms10_any hN (by rw [HCS.out]; exact Nat.le_refl _)).mono ?_
            rw [HCS.out]
            rintro e w8 ⟨⟨ta, tcap, rfl⟩, hE8⟩
            have HE8 := Lib.hid (HS7.out.ext.trans hE8)
            clear hE8 hN
            go_wp2_with fail
            go_ret
            exact ⟨rfl, HE8.out⟩

namespace shardServes
theorem own : ownKnob Tryz.prog.godebug = none := by kernel_rfl
theorem laidOut : laidOutB Tryz.prog = true := by kernel_rfl
set_option linter.unusedVariables false in
set_option maxRecDepth 100000 in
theorem lifted (os : Os) (started : os.Started) (H : Type) (enc : TypeId × Value → H) :
    ReturnsInHanded {} Tryz.checked os 5 .any (Rows.shardServesSpec.pre6 enc Tryz.prog Tryz.f5 Rows.shardServesRow.domain false) (Rows.shardServesSpec.post enc Tryz.prog Tryz.f5 false true false false) := by
  refine returnsInHanded_of_change_sized (C := Tryz.checked) own started (by kernel_rfl) Tryz.func5
    (ChangeSpec.witness6 (enc := enc) (C := Tryz.checked) false ⟨#[], #[.int .i64 0, .agg #[.int .i64 0, .slice none 0 0, .slice none 0 0], .agg #[.int .i64 0, .slice none 0 0, .slice none 0 0]], []⟩ 8 (by kernel_rfl) (by kernel_rfl) (by kernel_rfl) (by kernel_rfl)) ?_
  intro W base args ds gs before hval0 hW hcnd hsz _
  have hval : ∀ (j : Nat) t v, Tryz.f5.params[j]? = some t → args[j]? = some v → Value.okWide Tryz.prog W .any base t v := hval0
  have hW' := hW
  obtain ⟨p, q, hA0, hV, rfl, hfz, hnd⟩ := hW'
  have hA : DataW.TrodAll enc Tryz.prog W 0 (fun _ => true) true Tryz.f5.params.toList args.toList ds p := hA0
  rw [Tryz.params5] at hA hval
  obtain ⟨v0, vs0, d0, ds0, p0, q0, hargs, rfl, rfl, h0, r0⟩ := trodAll_cons hA
  obtain ⟨v1, vs1, d1, ds1, p1, q1, rfl, rfl, rfl, h1, r1⟩ := trodAll_cons r0
  obtain ⟨v2, vs2, d2, ds2, p2, q2, rfl, rfl, rfl, h2, r2⟩ := trodAll_cons r1
  obtain ⟨rfl, rfl, rfl⟩ := trodAll_nil r2
  obtain rfl : args = #[v0, v1, v2] := by cases args; simp_all
  obtain ⟨rfl, rfl⟩ := trodVars_none hV
  have k0 := h0
  have lt0 : ∀ x ∈ p0, x.block < W.heap.size := by obtain ⟨m, hm⟩ := k0; exact DataW.trod_lt m _ _ _ hm
  obtain ⟨a0, rfl, _, _, w0⟩ := open_int Tryz.underlying3 (hval 0 3 v0 rfl rfl) h0
  have k1 := h1
  have lt1 : ∀ x ∈ p1, x.block < W.heap.size := by obtain ⟨m, hm⟩ := k1; exact DataW.trod_lt m _ _ _ hm
  obtain ⟨l1, w1⟩ := conf_arg (hval 1 34 v1 rfl rfl) h1
  have k2 := h2
  have lt2 : ∀ x ∈ p2, x.block < W.heap.size := by obtain ⟨m, hm⟩ := k2; exact DataW.trod_lt m _ _ _ hm
  obtain ⟨l2, w2⟩ := conf_arg (hval 2 34 v2 rfl rfl) h2
  clear hA0 hval0
  refine (shardServes_walk a0 v1 v2 l1 l2 W w1 w2).mono fun e W' ⟨he, bel⟩ => ?_
  subst he
  exact ⟨_, rfl, _, _, _, [], _, [], hW, trodAll_mk1 (shut_bool Tryz.underlying4 _), (trodAll_cons_mk (Below.trod laidOut (by kernel_rfl) (of_decide_eq_true (by kernel_rfl)) k0 bel lt0) (trodAll_cons_mk (Below.trod laidOut (by kernel_rfl) (of_decide_eq_true (by kernel_rfl)) k1 bel lt1) (trodAll_cons_mk (Below.trod laidOut (by kernel_rfl) (of_decide_eq_true (by kernel_rfl)) k2 bel lt2) trodAll_mk0))), rfl, bel.frame _, fun h => by cases h⟩
theorem over : Rows.shardServesRow.holds Tryz.pinned (OpenSpec.ofChange Rows.shardServesSpec) :=
  OpenClaim.holds_of_wide 5 Tryz.f5 rfl rfl rfl rfl rfl rfl rfl ⟨rfl, rfl, rfl, rfl, rfl⟩ rfl rfl rfl rfl rfl (by kernel_rfl) Tryz.func5 (by kernel_rfl)
    (of_decide_eq_true (by kernel_rfl)) (by unfold Func.isWrapper; first | (rw [if_pos (by decide +kernel)]; kernel_rfl) | (rw [if_neg (by decide +kernel)]; exact ⟨rfl, rfl⟩))
    (fun os started H enc _ => lifted os started H enc)
theorem proved : Rows.ShardServesSaid := over
end shardServes
end Go.Proofs.YtaijgpdlgcgfaaaGreat
