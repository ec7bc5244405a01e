/-
  QuorumMissing: what a node is not known to have is the end of all entries: for every input the statement's function returns true, and leaves what came in as it was.
-/
import Derived.Test.YtnoeconcpgdjlaaBsLib
import Derived.Test.YtnoeconcpgdjlaaBsQuP
import Derived.Test.YtnoeconcpgdjlaaBsTerm
namespace Go.Proofs.Ytnoeconcpgdjlaa
set_option linter.unusedSimpArgs false
set_option linter.unusedVariables false
open Go.ChangeShapes Go.WideShapes Go.ChangeAt Go.RowKit

theorem build_all12 (w : World) (node t n : Int) : (Instr.build 77 #[(0, .int .i64 4), (1, .int .i64 node), (3, .int .i64 t), (5, .int .i64 n)]).run Try.prog w = .ok (.agg (msgCells ⟨4, node, 0, t, 0, n, false, Msg.rec0, Msg.ent0, 0, 0, Msg.conf0⟩ (.slice none 0 0) (.slice none 0 0) (.slice none 0 0) (.slice none 0 0))) w := by kernel_rfl
theorem missing_len {p : Quo.Pr} (h : p.Ok) (node : Int) {l : List Ent.E} (hl : p.missing node = l) (hin : node ∈ p.c.seqs) {i : Nat} (hi : i < l.length) : (l[i]).number = (p.l.length : Int) - (l.length : Int) + (i : Int) + 1 ∧ l.length ≤ p.l.length := by
  unfold Quo.Pr.missing at hl
  rw [if_pos hin] at hl
  subst hl
  have hd : (p.l.drop (p.f node).toNat).length = p.l.length - (p.f node).toNat := List.length_drop
  have hlt : (p.f node).toNat + i < p.l.length := by omega
  rw [List.getElem_drop, Quo.chain_number h.chain hlt]
  omega
set_option maxRecDepth 100000 in
set_option maxHeartbeats 40000000 in
theorem quorumMissing_walk (cv : Value) (c : Term.C) (a : Option Addr) (n cp : Nat) (l : List Quo.Op) (node : Int) (W0 : World) (hc : IsConf W0 cv c) (h0 : Ops12 W0 (.slice a n cp) l) (hf : ∀ o ∈ l, Wf64 o.m.src) (hnode : Wf64 node) :
    Calls Try.prog 5 #[cv, .slice a n cp, .int .i64 node] W0 fun e W' => e = .returned (.bool true) ∧ Below W0.heap.size W0 W' := by
  obtain ⟨hn, hnc, hc9⟩ := h0.len
  have hbx := box_confR
  obtain ⟨s, d, rfl, hs, hd⟩ := hc
  obtain ⟨s1, s2, s3, rfl⟩ := intsSlice hs
  obtain ⟨d1, d2, d3, rfl⟩ := irowsSlice hd
  obtain ⟨tc, htc⟩ : ∃ z, c.term = z := ⟨_, rfl⟩
  unfold confV
  rw [htc]
  have hE0 : Ext W0 (W0.alloc (.cells #[.int .i64 tc, .slice s1 s2 s3, .slice d1 d2 d3] 25)) := Ext.alloc _ _
  have hq0 := heap_alloc_new W0 (.cells #[.int .i64 tc, .slice s1 s2 s3, .slice d1 d2 d3] 25)
  obtain ⟨W, hW⟩ : ∃ z, W0.alloc (.cells #[.int .i64 tc, .slice s1 s2 s3, .slice d1 d2 d3] 25) = z := ⟨_, rfl⟩
  obtain ⟨q, hq⟩ : ∃ z, W0.heap.size = z := ⟨_, rfl⟩
  rw [hW] at hE0 hq0
  rw [hq] at hq0
  have HW := Lib.hid (And.intro hW hq)
  have HQ0 := Lib.hid hq0
  have HE0 := Lib.hid hE0
  have HN := Lib.hid hn.symm
  have HL0 := Lib.hid (h0.below hE0)
  have HF := Lib.hid hf
  have HTC := Lib.hid htc
  have HCF := Lib.hid (show ∀ w', Ext W w' → IsConf w' (.agg #[.int .i64 tc, .slice s1 s2 s3, .slice d1 d2 d3]) c from fun w' h => ⟨_, _, by unfold confV; rw [htc], hs.below (hE0.trans h), hd.below (hE0.trans h)⟩)
  have HFEW := Lib.hid (fun w1 (hE1 : Ext W w1) => few12_any (.agg #[.int .i64 tc, .slice s1 s2 s3, .slice d1 d2 d3]) c _ l w1 ⟨_, _, by unfold confV; rw [htc], hs.below (hE0.trans hE1), hd.below (hE0.trans hE1)⟩ ((h0.below hE0).below hE1))
  have y0 : W.cell? ⟨q, 0, none⟩ = some (.int .i64 tc) := cell_of_heap hq0 0
  have y1 : W.cell? ⟨q, 1, none⟩ = some (.slice s1 s2 s3) := cell_of_heap hq0 1
  have y2 : W.cell? ⟨q, 2, none⟩ = some (.slice d1 d2 d3) := cell_of_heap hq0 2
  have HND := Lib.hid hnode
  have HSQ := Lib.hid (fun w' (h : Ext W w') => hs.below (hE0.trans h))
  clear hnode
  clear h0 hf hn hs hd hW hq hE0 hq0 htc
  go_enter Try.func5, Try.ntmps5
  go_upto_region 1 with fail
  rw [HW.out.1, HW.out.2]
  clear hbx
  go_wp2_with fail
  refine (new12_any W _ c (HCF.out W (Ext.refl W))).mono ?_
  rintro e w1 ⟨h, hE1⟩
  rcases h with ⟨x, hr, rfl, S1, K1, hR⟩ | ⟨_, rfl⟩
  case inr =>
    have HE1 := Lib.hid (HE0.out.trans hE1)
    clear hE1 y0 y1 y2
    go_wp2_with fail
    refine (alive12_any w1).mono ?_
    rintro e w2 ⟨rfl, hE2⟩
    have HE2 := Lib.hid (HE1.out.trans hE2)
    clear hE2
    go_wp2_with fail
    go_ret
    exact ⟨rfl, HE2.out⟩
  have HS1 := Lib.hid (Seat12.begun (Ext.refl W) hR hE1)
  have HR := Lib.hid hr
  have hq1 := heap_ext HQ0.out hE1
  have z0 : w1.cell? ⟨q, 0, none⟩ = some (.int .i64 tc) := cell_of_heap hq1 0
  have z1 : w1.cell? ⟨q, 1, none⟩ = some (.slice s1 s2 s3) := cell_of_heap hq1 1
  have z2 : w1.cell? ⟨q, 2, none⟩ = some (.slice d1 d2 d3) := cell_of_heap hq1 2
  clear hR hE1 y0 y1 y2 hr hq1
  go_wp2_with fail
  refine (HFEW.out w1 HS1.out.ext).mono ?_
  rintro e w2 ⟨⟨b, rfl⟩, hE2⟩
  have HS2 := Lib.hid (HS1.out.extend hE2)
  clear hE2 z0 z1 z2
  cases b with
  | false =>
    go_wp2_with fail
    refine (alive12_any w2).mono ?_
    rintro e w3 ⟨rfl, hE3⟩
    have HE3 := Lib.hid (HE0.out.trans (HS2.out.ext.trans hE3))
    clear hE3
    go_wp2_with fail
    go_ret
    exact ⟨rfl, HE3.out⟩
  | true =>
    go_wp2_with fail
    go_loopw [10, 35] (fun _ i wr => ∃ (k : Nat) (S K : Nat → Prop) (p : Quo.Pr), k ≤ n ∧ i = .int .i64 k ∧ Hid (Seat12 W S K x p wr ∧ p.c = c)) (fun _ i _ => n - (intOf i).toNat)
    case atStart => exact ⟨0, _, _, _, by omega, rfl, Lib.hid ⟨HS2.out, rfl⟩⟩
    case round =>
      obtain ⟨k, S, K, p, hk, rfl, hI⟩ := hrel
      by_cases hlt : k < n
      · have hkl : k < l.length := by rw [HN.out]; exact hlt
        obtain ⟨b, off, a2, n2, c2, a3, n3, c3, a4, n4, c4, a5, n5, c5, a6, n6, c6, rfl, hop, hldw⟩ := HL0.out.at k hkl
        have hld := hldw wr hI.out.1.ext
        obtain ⟨o, hO⟩ : ∃ o, l[k] = o := ⟨_, rfl⟩
        have hon := HF.out l[k] (List.getElem_mem hkl)
        rw [hO] at hld hop hon
        have HOP := Lib.hid hop
        have HON := Lib.hid hon
        clear hO hop hon hldw
        go_upto_region 7 with (first
          | (refine ldAny (by rfl) _ rfl rfl hld ?_)
          | (refine allocO12 (by rfl) rfl ?_; intro W1 q1 hat1 hE1 hq1)
          | (refine putO12 (by rfl) _ _ rfl rfl rfl hat1.out ⟨_, _, _, rfl⟩ ⟨_, _, _, rfl⟩ ⟨_, _, _, rfl⟩ ⟨_, _, _, rfl⟩ ⟨_, _, _, rfl⟩ ?_; intro W2 hat2 hB2))
        have hE2 : Ext wr W2 := Ext.newQ11 hE1.out (Nat.le_of_eq hq1.out.symm) hB2.out
        have HS3 := Lib.hid (hI.out.1.extend hE2)
        have HAT := Lib.hid hat2.out
        clear hE2 hat1 hE1 hq1 hat2 hB2 hld
        have hlo := HAT.out.ld
        go_wp2_with (refine ldAny (by rfl) _ rfl rfl hlo ?_)
        refine (does12_any HS3.out.pr o _ _ _ _ _ HON.out (HOP.out _ HS3.out.ext)).mono ?_
        rintro e w6 ⟨u, rfl, _, hl6⟩
        obtain ⟨S6, K6, hs6, _⟩ := HS3.out.step hl6
        have HS6 := Lib.hid (show Seat12 W S6 K6 x (p.doN o) w6 ∧ (p.doN o).c = c from ⟨hs6, (Quo.doN_keeps p o).1.trans hI.out.2⟩)
        clear hl6 hs6 hlo
        go_wp2_with fail
        go_roundw
        case rel => exact ⟨k + 1, _, _, _, by omega, by go_num, HS6⟩
        case measure => simp [intOf]; omega
      · obtain rfl : k = n := by omega
        obtain ⟨wt, hwt⟩ : ∃ z, z = wr := ⟨_, rfl⟩
        subst hwt
        go_wp2_with fail
        refine (missing12_any hI.out.1.pr node HND.out).mono ?_
        rintro e w3 ⟨u, qs, rfl, hE3, hrow, hqs, hq⟩
        have HS3 := Lib.hid (hI.out.1.extend hE3)
        have hqz := heap_ext HQ0.out (hI.out.1.ext.trans hE3)
        have z0 : w3.cell? ⟨q, 0, none⟩ = some (.int .i64 tc) := cell_of_heap hqz 0
        have z1 : w3.cell? ⟨q, 1, none⟩ = some (.slice s1 s2 s3) := cell_of_heap hqz 1
        obtain ⟨ua, un, uc, rfl⟩ := ownSlice hrow
        have hun := ownLen hrow
        obtain ⟨ml, hml⟩ : ∃ z, p.missing node = z := ⟨_, rfl⟩
        have hlen : un = ml.length := by rw [← hml, ← hqs, List.length_map]; exact hun
        have hents : Ents w3 (.slice ua un uc) ml := by
          have h1 := ents_of_flat (fun q h => (hq q h).row.ints) (SlN.ofOwn hrow)
          rw [hqs, hml] at h1
          exact h1
        have HEN := Lib.hid (And.intro hents hlen)
        have HML := Lib.hid hml
        clear hE3 hrow hq hqs hun hlen hents hml hqz
        go_wp2_with fail
        refine (refHas6_any _ c.seqs node w3 (HSQ.out w3 HS3.out.ext)).mono ?_
        rintro e w4 ⟨rfl, rfl⟩
        obtain ⟨hb, hhb⟩ : ∃ z, hasI c.seqs node = z := ⟨_, rfl⟩
        rw [hhb]
        have HB := Lib.hid hhb
        clear hhb
        cases hb with
        | false =>
          have hnil : ml = [] := by
            rw [← HML.out]
            unfold Quo.Pr.missing
            rw [if_neg]
            intro h
            rw [hI.out.2] at h
            have h1 := HB.out
            unfold hasI at h1
            rw [List.contains_iff_mem.2 h] at h1
            cases h1
          have hun0 : un = 0 := by rw [HEN.out.2, hnil]; rfl
          subst hun0
          clear hnil
          go_wp2_with fail
          refine (alive12_any w3).mono ?_
          rintro e w5 ⟨rfl, hE5⟩
          have HE5 := Lib.hid (HE0.out.trans (HS3.out.ext.trans hE5))
          clear hE5 z0 z1
          go_wp2_with fail
          go_ret
          exact ⟨rfl, HE5.out⟩
        | true =>
          have HIN := Lib.hid (show node ∈ p.c.seqs by rw [hI.out.2]; have h1 := HB.out; unfold hasI at h1; exact List.contains_iff_mem.1 h1)
          obtain ⟨PL, hPL⟩ : ∃ z, p.l.length = z := ⟨_, rfl⟩
          have hPm : PL ≤ 512 := by rw [← hPL]; exact HS3.out.pr.ok.max
          have hunP : un ≤ PL := by
            rw [HEN.out.2, ← hPL, ← HML.out]
            unfold Quo.Pr.missing
            rw [if_pos HIN.out, List.length_drop]
            omega
          have HLEN := Lib.hid (show ∀ w', Ext w3 w' → Calls Try.prog 23 #[.pointer (some ⟨x, 0, none⟩)] w' fun e w'' => e = .returned (.int .i64 (PL : Nat)) ∧ w' = w'' from fun w' h => by
            obtain ⟨kb, ev, es, hp⟩ := (HS3.out.extend h).pr
            have := len12_any hp.at'
            rw [hPL] at this
            exact this)
          have HPL := Lib.hid hPL
          clear hPL z1
          go_wp2_with fail
          go_loopw [12, 13, 59] (fun _ _ i wr => ∃ (j : Nat), j ≤ un ∧ i = .int .i64 j ∧ Hid (Ext w3 wr)) (fun _ _ i _ => un - (intOf i).toNat)
          case atStart => exact ⟨0, by omega, rfl, Lib.hid (Ext.refl _)⟩
          case round =>
            obtain ⟨j, hj, rfl, hE⟩ := hrel
            by_cases hlj : j < un
            · have hjl : j < ml.length := by rw [← HEN.out.2]; exact hlj
              have hnum := (missing_len HS3.out.pr.ok node HML.out HIN.out hjl).1
              obtain ⟨ra, rc, e', _, _, _, hc⟩ := HEN.out.1.below hE.out
              obtain ⟨b, off, rfl, ta, p0, p1, p2, p3, p4, p5, hta⟩ := hc j hjl
              injection e' with e1 e2 e3
              subst e1
              obtain ⟨a1, a2, a3, rfl⟩ := intsSlice hta
              rw [hnum, HPL.out, ← HEN.out.2] at p0
              obtain ⟨k1, hk1⟩ : ∃ z, (ml[j]).kind = z := ⟨_, rfl⟩
              obtain ⟨k3, hk3⟩ : ∃ z, (ml[j]).tag = z := ⟨_, rfl⟩
              obtain ⟨k4, hk4⟩ : ∃ z, (ml[j]).term = z := ⟨_, rfl⟩
              obtain ⟨k5, hk5⟩ : ∃ z, (ml[j]).pos = z := ⟨_, rfl⟩
              rw [hk1] at p1
              rw [hk3] at p3
              rw [hk4] at p4
              rw [hk5] at p5
              obtain ⟨N, hN⟩ : ∃ N : Int, (PL : Int) - (un : Int) + (j : Int) + 1 = N := ⟨_, rfl⟩
              rw [hN] at p0
              have HN := Lib.hid hN
              have hE2 : Ext wr (wr.alloc (.cells #[.int .i64 N, .int .i64 k1, .slice a1 a2 a3, .int .i64 k3, .int .i64 k4, .int .i64 k5] 74)) := Ext.alloc _ _
              have hn2 := heap_alloc_new wr (.cells #[.int .i64 N, .int .i64 k1, .slice a1 a2 a3, .int .i64 k3, .int .i64 k4, .int .i64 k5] 74)
              obtain ⟨q9, hq9⟩ : ∃ z, wr.heap.size = z := ⟨_, rfl⟩
              obtain ⟨w9, hw9⟩ : ∃ z, wr.alloc (.cells #[.int .i64 N, .int .i64 k1, .slice a1 a2 a3, .int .i64 k3, .int .i64 k4, .int .i64 k5] 74) = z := ⟨_, rfl⟩
              rw [hw9] at hE2 hn2
              rw [hq9] at hn2
              have HE9 := Lib.hid (hE.out.trans hE2)
              have HW9 := Lib.hid (And.intro hw9 hq9)
              have g0 : w9.cell? ⟨q9, 0, none⟩ = some (.int .i64 N) := cell_of_heap hn2 0
              clear hnum hc hta e2 e3 hk1 hk3 hk4 hk5 hE2 hn2 hq9 hw9 hN
              go_upto_region 15 with fail
              rw [HW9.out.1, HW9.out.2]
              clear p0 p1 p2 p3 p4 p5
              go_cut [74] (fun s wx => s = .bool false ∧ Hid (Ext w3 wx))
              case first =>
                go_region_law (go_simp; go_at_call 23; refine (HLEN.out _ (HE9.out.trans (Ext.drew w9))).mono ?_; rintro e w10 ⟨rfl, rfl⟩)
                all_goals
                  go_wp2_with fail
                  go_meet
                  refine ⟨?_, Lib.hid (HE9.out.trans (Ext.drew w9))⟩
                  have hN := HN.out
                  rw [IntWalk.i64_in ((PL : Int) - (un : Int)) (by omega), IntWalk.i64_in ((PL : Int) - (un : Int) + (j : Int)) (by omega), IntWalk.i64_in ((PL : Int) - (un : Int) + (j : Int) + 1) (by omega), hN]
                  simp
              case rest =>
                obtain ⟨rfl, HX⟩ := hcut
                go_wp2_with fail
                go_roundw
                case rel => exact ⟨j + 1, by omega, by go_num, HX⟩
                case measure => simp [intOf]; omega
            · obtain rfl : j = un := by omega
              obtain ⟨wt, hwt⟩ : ∃ z, z = wr := ⟨_, rfl⟩
              subst hwt
              have hqz := heap_ext HQ0.out (HS3.out.ext.trans hE.out)
              have HS9 := Lib.hid (HS3.out.extend hE.out)
              have z0 : wt.cell? ⟨q, 0, none⟩ = some (.int .i64 tc) := cell_of_heap hqz 0
              have hbd := fun w => build_all12 w node tc (PL : Int)
              obtain ⟨MV, hMV⟩ : ∃ z : Value, .agg (msgCells ⟨4, node, 0, tc, 0, (PL : Int), false, Msg.rec0, Msg.ent0, 0, 0, Msg.conf0⟩ (.slice none 0 0) (.slice none 0 0) (.slice none 0 0) (.slice none 0 0)) = z := ⟨_, rfl⟩
              rw [hMV] at hbd
              have HBD := Lib.hid hbd
              have HMV := Lib.hid hMV
              clear hqz hMV hbd
              go_upto_region 18 with fail
              refine wp_region_tail (by kernel_rfl) 7 Ext (fun iop v w => match iop with
                  | 0 => v = .pointer (some ⟨x, 0, none⟩)
                  | 1 => v = .int .i64 node
                  | 2 => v = .pointer (some ⟨q, 0, none⟩)
                  | 3 => v = .int .i64 tc
                  | 4 => v = .pointer (some ⟨x, 0, none⟩)
                  | 5 => v = .int .i64 (PL : Nat)
                  | _ => v = MV
                  ) (by kernel_rfl) (by kernel_rfl) (by decide) (fun _ _ _ h k => Ext.trans h k) (fun a => Ext.refl a) (Ext.drew _) ?_ ?_ ?_
              · intro iop v wa wb hF hL
                iterate 6 (rcases iop with _ | iop; exact hF)
                exact hF
              · refine Obls.cons ?_ (Obls.cons ?_ (Obls.cons ?_ (Obls.cons ?_ (Obls.cons ?_ (Obls.cons ?_ (Obls.cons ?_ (Obls.nil)))))))
                · intro ev wy hp hl hk hd
                  have e7 : ev (.tmp 7) = .pointer (some ⟨x, 0, none⟩) := hk 7 (by decide)
                  clear hk hd
                  exact Yield.mv rfl ⟨Ext.refl _, e7⟩
                · intro ev wy hp hl hk hd
                  have e2 : ev (.tmp 2) = .int .i64 node := hk 2 (by decide)
                  clear hk hd
                  exact Yield.mv rfl ⟨Ext.refl _, e2⟩
                · intro ev wy hp hl hk hd
                  have e3 : ev (.tmp 3) = .pointer (some ⟨q, 0, none⟩) := hk 3 (by decide)
                  clear hk hd
                  exact Yield.op (v := .pointer (some ⟨q, 0, none⟩)) (w' := wy) (by simp [execOp, go_sem, e3]) ⟨Ext.refl _, rfl⟩
                · intro ev wy hp hl hk hd
                  have e78 : ev (.tmp 78) = .pointer (some ⟨q, 0, none⟩) := hk 78 (by decide)
                  clear hk hd
                  exact Yield.load rfl e78 (by simp [go_sem, cellExt hl z0]) ⟨Ext.refl _, rfl⟩
                · intro ev wy hp hl hk hd
                  have e7 : ev (.tmp 7) = .pointer (some ⟨x, 0, none⟩) := hk 7 (by decide)
                  clear hk hd
                  exact Yield.mv rfl ⟨Ext.refl _, e7⟩
                · intro ev wy hp hl hk hd
                  have e80 : ev (.tmp 80) = .pointer (some ⟨x, 0, none⟩) := hk 80 (by decide)
                  clear hk hd
                  refine Yield.call rfl hp Try.func23 rfl (by kernel_rfl) ?_
                  simp only [List.map_toArray, List.map_cons, List.map_nil, e80]
                  exact ((show Calls Try.prog 23 #[.pointer (some ⟨x, 0, none⟩)] wy fun e w' => e = .returned (.int .i64 (PL : Nat)) ∧ Ext wy w' from (HLEN.out wy (hE.out.trans hl)).mono fun e w'' h => ⟨h.1, h.2 ▸ Ext.refl _⟩)).mono fun _ _ ⟨he, hb⟩ => ⟨_, he, hb, by first | rfl | simp⟩
                · intro ev wy hp hl hk hd
                  have e77 : ev (.tmp 77) = .int .i64 node := hk 77 (by decide)
                  have e79 : ev (.tmp 79) = .int .i64 tc := hk 79 (by decide)
                  have e81 : ev (.tmp 81) = .int .i64 (PL : Nat) := hk 81 (by decide)
                  clear hk hd
                  exact Yield.op (v := MV) (w' := wy) (by simp [execOp, e77, e79, e81, HBD.out, hp.const, Sem.run_bind]) ⟨Ext.refl _, rfl⟩
              · intro vals wz hz hv
                have g76 : vals 0 = .pointer (some ⟨x, 0, none⟩) := hv 0 (by decide)
                have g77 : vals 1 = .int .i64 node := hv 1 (by decide)
                have g78 : vals 2 = .pointer (some ⟨q, 0, none⟩) := hv 2 (by decide)
                have g79 : vals 3 = .int .i64 tc := hv 3 (by decide)
                have g80 : vals 4 = .pointer (some ⟨x, 0, none⟩) := hv 4 (by decide)
                have g81 : vals 5 = .int .i64 (PL : Nat) := hv 5 (by decide)
                have g82 : vals 6 = MV := hv 6 (by decide)
                clear hv
                simp only [List.take_succ_cons, List.take_zero, List.drop_succ_cons, List.drop_zero]
                simp only [putAll, Act.put, List.setIfInBounds_toArray, List.set_cons_zero, List.set_cons_succ, g76, g77, g78, g79, g80, g81, g82]
                clear g76
                clear g77
                clear g78
                clear g79
                clear g80
                clear g81
                clear g82
                have HSZ := Lib.hid (HS9.out.extend hz)
                clear hz z0
                have hall : Quo.allOf p node = ⟨4, node, 0, tc, 0, (PL : Int), false, Msg.rec0, Msg.ent0, 0, 0, Msg.conf0⟩ := by
                  unfold Quo.allOf
                  rw [hI.out.2, HTC.out, HPL.out]
                have hmv : IsMsg wz MV (Quo.allOf p node) := by
                  rw [hall, ← HMV.out]
                  exact freeMsg12 wz rfl rfl rfl rfl
                have HMM := Lib.hid hmv
                clear hall hmv
                go_wp2_with fail
                refine (heard12_any HSZ.out.pr MV (Quo.allOf p node) HMM.out HND.out).mono ?_
                rw [Quo.hears_all HSZ.out.pr.ok HIN.out]
                rintro e w10 ⟨rfl, hl10⟩
                obtain ⟨S10, K10, hs10, _⟩ := HSZ.out.step hl10
                have HS10 := Lib.hid hs10
                clear hl10 hs10
                go_wp2_with fail
                refine (alive12_any w10).mono ?_
                rintro e w11 ⟨rfl, hE11⟩
                have HS11 := Lib.hid (HS10.out.extend hE11)
                clear hE11
                go_wp2_with fail
                refine (missing12_any HS11.out.pr node HND.out).mono ?_
                rw [Quo.missing_all HSZ.out.pr.ok HIN.out]
                rintro e w12 ⟨u12, qs12, rfl, hE12, hrow12, hqs12, _⟩
                obtain ⟨ua2, un2, uc2, rfl⟩ := ownSlice hrow12
                have hun2 : un2 = 0 := by
                  have h1 := ownLen hrow12
                  have h2 := congrArg List.length hqs12
                  simp at h2
                  rw [h1, h2]
                  rfl
                subst hun2
                have HE12 := Lib.hid (HE0.out.trans (HS11.out.ext.trans hE12))
                clear hE12 hrow12 hqs12
                go_wp2_with fail
                go_ret
                exact ⟨rfl, HE12.out⟩
namespace quorumMissing
theorem own : ownKnob Try.prog.godebug = none := by kernel_rfl
theorem laidOut : laidOutB Try.prog = true := by kernel_rfl
set_option linter.unusedVariables false in
set_option maxRecDepth 100000 in
theorem lifted (os : Os) (started : os.Started) (H : Type) (enc : TypeId × Value → H) :
    ReturnsInHanded {} Try.checked os 5 .any (Rows.quorumMissingSpec.pre6 enc Try.prog Try.f5 Rows.quorumMissingRow.domain false) (Rows.quorumMissingSpec.post enc Try.prog Try.f5 false true false false) := by
  refine returnsInHanded_of_change_sized (C := Try.checked) own started (by kernel_rfl) Try.func5
    (ChangeSpec.witness6 (enc := enc) (C := Try.checked) false ⟨#[], #[.agg #[.int .i64 0, .slice none 0 0, .slice none 0 0], .slice none 0 0, .int .i64 0], []⟩ 8 (by kernel_rfl) (by kernel_rfl) (by kernel_rfl) (by kernel_rfl)) ?_
  intro W base args ds gs before hval0 hW hcnd hsz _
  have hval : ∀ (j : Nat) t v, Try.f5.params[j]? = some t → args[j]? = some v → Value.okWide Try.prog W .any base t v := hval0
  have hW' := hW
  obtain ⟨p, q, hA0, hV, rfl, hfz, hnd⟩ := hW'
  have hA : DataW.TrodAll enc Try.prog W 0 (fun _ => true) true Try.f5.params.toList args.toList ds p := hA0
  rw [Try.params5] at hA hval
  obtain ⟨v0, vs0, d0, ds0, p0, q0, hargs, rfl, rfl, h0, r0⟩ := trodAll_cons hA
  obtain ⟨v1, vs1, d1, ds1, p1, q1, rfl, rfl, rfl, h1, r1⟩ := trodAll_cons r0
  obtain ⟨v2, vs2, d2, ds2, p2, q2, rfl, rfl, rfl, h2, r2⟩ := trodAll_cons r1
  obtain ⟨rfl, rfl, rfl⟩ := trodAll_nil r2
  obtain rfl : args = #[v0, v1, v2] := by cases args; simp_all
  obtain ⟨rfl, rfl⟩ := trodVars_none hV
  have k0 := h0
  have lt0 : ∀ x ∈ p0, x.block < W.heap.size := by obtain ⟨m, hm⟩ := k0; exact DataW.trod_lt m _ _ _ hm
  obtain ⟨l0, w0⟩ := conf_arg (hval 0 25 v0 rfl rfl) h0
  have k1 := h1
  have lt1 : ∀ x ∈ p1, x.block < W.heap.size := by obtain ⟨m, hm⟩ := k1; exact DataW.trod_lt m _ _ _ hm
  obtain ⟨a1, len1, cap1, rfl⟩ := okWide_slice Try.underlying53 (hval 1 53 v1 rfl rfl)
  obtain ⟨l1, w1, f1⟩ : ∃ l, Ops12 W (.slice a1 len1 cap1) l ∧ ∀ o ∈ l, Wf64 o.m.src := by
    obtain ⟨fuel, hf⟩ := h1
    obtain ⟨v, l, hcs, hb, hft⟩ := ops12_of_raw hf
    simp [Value.cells] at hcs
    subst hcs
    exact ⟨l, hb, hft⟩
  have k2 := h2
  have lt2 : ∀ x ∈ p2, x.block < W.heap.size := by obtain ⟨m, hm⟩ := k2; exact DataW.trod_lt m _ _ _ hm
  obtain ⟨a2, rfl, _, _, w2⟩ := open_int Try.underlying3 (hval 2 3 v2 rfl rfl) h2
  clear hA0 hval0
  refine (quorumMissing_walk _ l0 a1 len1 cap1 l1 a2 W w0 w1 f1 w2).mono fun e W' ⟨he, bel⟩ => ?_
  subst he
  exact ⟨_, rfl, _, _, _, [], _, [], hW, trodAll_mk1 (shut_bool Try.underlying4 _), (trodAll_cons_mk (Below.trod laidOut (by kernel_rfl) (of_decide_eq_true (by kernel_rfl)) k0 bel lt0) (trodAll_cons_mk (Below.trod laidOut (by kernel_rfl) (of_decide_eq_true (by kernel_rfl)) k1 bel lt1) (trodAll_cons_mk (Below.trod laidOut (by kernel_rfl) (of_decide_eq_true (by kernel_rfl)) k2 bel lt2) trodAll_mk0))), rfl, bel.frame _, fun h => by cases h⟩
theorem over : Rows.quorumMissingRow.holds Try.pinned (OpenSpec.ofChange Rows.quorumMissingSpec) :=
  OpenClaim.holds_of_wide 5 Try.f5 rfl rfl rfl rfl rfl rfl rfl ⟨rfl, rfl, rfl, rfl, rfl⟩ rfl rfl rfl rfl rfl (by kernel_rfl) Try.func5 (by kernel_rfl)
    (of_decide_eq_true (by kernel_rfl)) (by unfold Func.isWrapper; first | (rw [if_pos (by decide +kernel)]; kernel_rfl) | (rw [if_neg (by decide +kernel)]; exact ⟨rfl, rfl⟩))
    (fun os started H enc _ => lifted os started H enc)
theorem proved : Rows.QuorumMissingSaid := over
end quorumMissing
end Go.Proofs.Ytnoeconcpgdjlaa
