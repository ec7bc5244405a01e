/-
  PageTorn: of two rows of frames, of which the second one is not safe, a crash at any byte leaves the first one, and as many of the second as are whole: for every input the statement's function returns true, and leaves what came in as it was.
-/
import Derived.Test.YtejbcnolfdfndaaPgX
namespace Go.Proofs.Ytejbcnolfdfndaa
set_option linter.unusedSimpArgs false
set_option linter.unusedVariables false
open Go.ChangeShapes Go.WideShapes Go.ChangeAt Go.RowKit

theorem Rows.lenQ {w : World} {a : Option Addr} {n c : Nat} {ls : List (List UInt8)} (h : Rows w (.slice a n c) ls) : n = ls.length ∧ n ≤ c ∧ c ≤ 9223372036854775807 := by
  obtain ⟨_, _, e, h1, h2, _⟩ := h.open
  injection e with e1 e2 e3
  subst e3
  unfold maxLen at h2
  omega

set_option maxRecDepth 100000 in
set_option maxHeartbeats 20000000 in
theorem pageTorn_walk (a b : Option Addr) (na ca nb cb : Nat) (la lb : List (List UInt8)) (keep : Int) (W : World) (h0 : Rows W (.slice a na ca) la) (h1 : Rows W (.slice b nb cb) lb) (hz0 : na * 24 ≤ 140737488351232) (hz1 : nb * 24 ≤ 140737488351232)
    (hl0 : ∀ x ∈ la, x.length ≤ 140737488351232) (hl1 : ∀ x ∈ lb, x.length ≤ 140737488351232) :
    Calls Try.prog 8 #[.slice a na ca, .slice b nb cb, .int .i64 keep] W fun e W' => e = .returned (.bool true) ∧ Below W.heap.size W W' := by
  obtain ⟨hna, hnca, hca⟩ := h0.lenQ
  obtain ⟨hnb, hncb, hcb⟩ := h1.lenQ
  by_cases hbad : 60 < na + nb ∨ keep < 0 ∨ 100000 < keep
  · have hend : ∀ w1, Ext W w1 → Calls Try.prog 11 #[] w1 fun e w' => e = .returned (.bool true) ∧ Ext W w' := fun w1 h => (alive8_any w1).mono fun e w' ⟨he, hE⟩ => ⟨he, h.trans hE⟩
    have HEND := Lib.hid hend
    clear hend hna hnb h0 h1 hl0 hl1
    go_enter Try.func8, Try.ntmps8
    go_wp2_with fail
    refine (new8_any (.slice none 0 0) [] W (bytes_none W)).mono ?_
    rintro e w1 ⟨va1, vp1, rfl, hs1, hE1⟩
    by_cases h1 : (60 : Int) < (na : Int) + (nb : Int)
    · go_wp2_with fail
      refine (HEND.out w1 hE1).mono ?_
      rintro e w2 ⟨rfl, hE2⟩
      go_wp2_with fail
      go_ret
      exact ⟨rfl, hE2⟩
    · by_cases h2 : keep < 0
      · go_wp2_with fail
        refine (HEND.out w1 hE1).mono ?_
        rintro e w2 ⟨rfl, hE2⟩
        go_wp2_with fail
        go_ret
        exact ⟨rfl, hE2⟩
      · have h3 : 100000 < keep := by omega
        go_wp2_with fail
        refine (HEND.out w1 hE1).mono ?_
        rintro e w2 ⟨rfl, hE2⟩
        go_wp2_with fail
        go_ret
        exact ⟨rfl, hE2⟩
  · obtain ⟨K, rfl⟩ : ∃ K : Nat, keep = (K : Int) := ⟨keep.toNat, by omega⟩
    have hk0 : ¬ (K : Int) < 0 := by omega
    have hk1 : ¬ (100000 : Int) < (K : Int) := by omega
    have hsum : na + nb ≤ 60 := by omega
    have hn60 : ¬ (60 : Int) < (na : Int) + (nb : Int) := by omega
    have HNA := Lib.hid hna
    have HNB := Lib.hid hnb
    have H1 := Lib.hid h1
    have hlong : ∀ x ∈ la ++ lb, x.length ≤ 140737488351232 := fun x hx => (List.mem_append.1 hx).elim (hl0 x) (hl1 x)
    have HLONG := Lib.hid hlong
    obtain ⟨xa, hsa, hva⟩ := h0.rowV
    obtain ⟨xb, hsb, hvb⟩ := h1.rowV
    have hxa : xa.length = na := by rw [hva.1]; exact hna.symm
    have hxb : xb.length = nb := by rw [hvb.1]; exact hnb.symm
    have HSA := Lib.hid hsa
    have HSB := Lib.hid hsb
    have HVA := Lib.hid hva
    have HVB := Lib.hid hvb
    have HXA := Lib.hid hxa
    have HXB := Lib.hid hxb
    clear hbad hna hnb h0 h1 hl0 hl1 hlong hsa hsb hva hvb hxa hxb hz0 hz1
    go_enter Try.func8, Try.ntmps8
    go_wp2_with fail
    refine (new8_any (.slice none 0 0) [] W (bytes_none W)).mono ?_
    rintro e w1 ⟨va1, vp1, rfl, hs1, hE1⟩
    rw [Page.fromBytes_nil] at hs1
    have HS1 := Lib.hid hs1
    have HE1 := Lib.hid hE1
    have hown0 : (w1.alloc (.cells #[] 22)).ownsRow w1.heap.size 22 1 (.slice (some ⟨w1.heap.size, 0, none⟩) 0 0) 0 [] := World.ownsRow_made w1 #[] 0 (Nat.le_refl _) (by simp [maxLen]) (by simp)
    have HOWN0 := Lib.hid hown0
    have hz1 : 0 + xa.length ≤ maxLen := by rw [HXA.out]; unfold maxLen; omega
    have hz2 : (0 + xa.length) * 24 ≤ 140737488355328 := by rw [HXA.out]; omega
    have hz3 : na + xb.length ≤ maxLen := by rw [HXB.out]; unfold maxLen; omega
    have hz4 : (na + xb.length) * 24 ≤ 140737488355328 := by rw [HXB.out]; omega
    have HZ := Lib.hid (And.intro (And.intro hz1 hz2) (And.intro hz3 hz4))
    clear hs1 hE1 hown0 hz1 hz2 hz3 hz4
    go_wp2_with (at_builtin; refine wpList_app rfl (.tmp 40) (.tmp 41) tFrE rfl rfl rfl HOWN0.out (HSA.out.below (HE1.out.trans (Ext.alloc w1 (.cells #[] 22)))) HVA.out.one HZ.out.1.1 HZ.out.1.2 (by simp) ?_)
    intro v3 w3 hown3 hg3
    rw [HXA.out] at hown3
    have H3 := Lib.hid (And.intro hown3 hg3)
    obtain ⟨a3, n3, c3, rfl⟩ := ownSlice hown3
    have hE3 : Ext w1 w3 := (Ext.alloc w1 (.cells #[] 22)).grown hg3 (Ext.alloc w1 (.cells #[] 22)).size (fun k e => by injection e with e; simp at e; omega)
    have HE3 := Lib.hid hE3
    clear hown3 hg3 hE3
    go_wp2_with (at_builtin; refine wpList_app rfl (.tmp 42) (.tmp 43) tFrE rfl rfl rfl H3.out.1 (HSB.out.below (HE1.out.trans HE3.out)) HVB.out.one HZ.out.2.1 HZ.out.2.2 HE3.out.size ?_)
    intro v5 w5 hown5 hg5
    rw [HXB.out] at hown5
    have hE5 : Ext w1 w5 := HE3.out.grown hg5 HE3.out.size (fun k e => (H3.out.1.lt k e).1)
    have H5 := Lib.hid (And.intro hown5 hE5)
    obtain ⟨a5, n5, c5, rfl⟩ := ownSlice hown5
    clear hown5 hg5 hE5
    have hs5 := HS1.out.ext H5.out.2
    have hE05 : Ext W w5 := HE1.out.trans H5.out.2
    have hrow5 := rowLower H5.out.1 HE1.out.size
    have hn5 : n5 = na + nb := by rcases H5.out.1.2 with ⟨h, h'⟩ | ⟨_, _, _, h, _⟩ <;> (injection h with _ h _; first | done | omega | skip)
    subst hn5
    have HX := Lib.hid (HVA.out.append HVB.out)
    have hxl : (xa ++ xb).length = na + nb := by rw [List.length_append, HXA.out, HXB.out]
    have hll : (la ++ lb).length = na + nb := by rw [List.length_append, HNA.out, HNB.out]
    have htk : la.length = na := HNA.out.symm
    have HLA := Lib.hid htk
    have HXL := Lib.hid hxl
    have HLL := Lib.hid hll
    clear hxl hll htk
    generalize hlq : la ++ lb = l at *
    generalize hxq : xa ++ xb = xs at *
    have HLQ := Lib.hid hlq
    clear hlq hxq H5 H3 HS1 HE1 HE3 HOWN0 HZ
    have hzero : (⟨[], 0, false⟩ : Page.St) = ⟨l.take 0, 0, false⟩ := by rw [List.take_zero]
    rw [hzero] at hs5
    clear hzero
    go_wp2_with fail
    go_loopw [46] (fun i wr => ∃ (k m : Nat) (va vp : Value), k ≤ na + nb ∧ i = .int .i64 k ∧ (k ≤ na ∧ m = 0 ∨ na < k ∧ m = na) ∧ Hid (IsSto wr W.heap.size W.heap.size va vp ⟨l.take k, m, false⟩ ∧ wr.ownsRow W.heap.size 22 1 (.slice a5 (na + nb) c5) (na + nb) xs ∧ Ext W wr)) (fun i _ => na + nb - (intOf i).toNat)
    case atStart => exact ⟨0, 0, _, _, by omega, rfl, .inl ⟨by omega, rfl⟩, Lib.hid ⟨hs5, hrow5, hE05⟩⟩
    case round =>
      obtain ⟨k, m, va, vp, hk, rfl, hm, hI⟩ := hrel
      clear hs5 hrow5 hE05
      by_cases hlt : k < na + nb
      · have hkl : k < l.length := by have := HLL.out; omega
        obtain ⟨_, _, e1, _, _, _, hcells⟩ := Sl.ofOwn hI.out.2.1
        obtain ⟨q, off, e2, hc1⟩ := hcells k (by have := HXL.out; omega)
        injection e1 with e1 e9 e3
        subst e1 e3
        clear e9
        subst e2
        have hx := (HX.out.below hI.out.2.2).2 k (by have := HXL.out; omega) hkl
        obtain ⟨ax, nx, cx, hxe⟩ := hx.isSlice
        rw [hxe] at hc1
        have hxw := HX.out.2 k (by have := HXL.out; omega) hkl
        rw [hxe] at hxw
        have HXK := Lib.hid hxw
        clear hcells hx hxe hxw
        by_cases heq : k = na
        · subst heq
          have hm0 : m = 0 := by omega
          subst hm0
          go_wp2_with fail
          refine (sync8_any hI.out.1).mono ?_
          rintro e w2 ⟨rfl, hB2, hs2⟩
          have hsy : (⟨l.take k, 0, false⟩ : Page.St).sync = ⟨l.take k, k, false⟩ := by unfold Page.St.sync; simp; omega
          rw [hsy] at hs2
          have hrow2 := rowBut hI.out.2.1 (rowBeside hI.out.2.1 hI.out.1.heap (by decide)) hB2
          have hE2 : Ext W w2 := Below.trans (B := W.heap.size) hI.out.2.2 ⟨hB2.os, hB2.tape, hB2.output, hB2.size, fun g hg => hB2.block g (Nat.lt_of_lt_of_le hg hI.out.2.2.size) (by omega)⟩
          have HS2 := Lib.hid hs2
          have HR2 := Lib.hid hrow2
          have HE2 := Lib.hid hE2
          clear hsy hs2 hrow2 hE2 hB2
          go_wp2_with fail
          refine (append8_any HS2.out HE2.out.size _ l[k] (HXK.out.below HE2.out) (by have := HLONG.out l[k] (List.getElem_mem _); omega)).mono ?_
          rintro e w3 ⟨rfl, va', vp', hA⟩
          have hE3 : Ext W w3 := Below.trans (B := W.heap.size) HE2.out (hA.below HS2.out (Nat.le_refl _) (Nat.le_refl _) HE2.out.size)
          have hrow3 := row_appended hA HS2.out HR2.out
          have hs3 := hA.sto
          by_cases hroom : Page.room ⟨l.take k, k, false⟩ l[k] = true
          · obtain ⟨q1, q2⟩ := Page.appended_takeM hkl hroom
            rw [q1] at hs3
            rw [q2]
            obtain ⟨z, hz⟩ : ∃ z : Nat, (⟨l.take k, k, false⟩ : Page.St).appendAt l[k] = z := ⟨_, rfl⟩
            rw [hz]
            have HH := Lib.hid (And.intro hs3 (And.intro hrow3 hE3))
            clear hz q1 q2 hroom hs3 hrow3 hA hE3
            go_wp2_with fail
            go_roundw
            case rel => exact ⟨k + 1, k, va', vp', by omega, by go_num, by omega, HH⟩
            case measure => simp [intOf]; omega
          · obtain ⟨q1, q2, q3⟩ := Page.refused (S := ⟨l.take k, k, false⟩) rfl (by simpa using hroom)
            rw [q1, q2]
            clear hs3 hrow3 hA q1 q2 q3 hroom
            go_wp2_with fail
            refine (alive8_any w3).mono ?_
            rintro e w4 ⟨rfl, hE4⟩
            go_wp2_with fail
            go_ret
            exact ⟨rfl, hE3.trans hE4⟩
        · have hne : ((k : Int) == (na : Int)) = false := by simp; omega
          go_wp2_with fail
          refine (append8_any hI.out.1 hI.out.2.2.size _ l[k] (HXK.out.below hI.out.2.2) (by have := HLONG.out l[k] (List.getElem_mem _); omega)).mono ?_
          rintro e w3 ⟨rfl, va', vp', hA⟩
          have hE3 : Ext W w3 := Below.trans (B := W.heap.size) hI.out.2.2 (hA.below hI.out.1 (Nat.le_refl _) (Nat.le_refl _) hI.out.2.2.size)
          have hrow3 := row_appended hA hI.out.1 hI.out.2.1
          have hs3 := hA.sto
          by_cases hroom : Page.room ⟨l.take k, m, false⟩ l[k] = true
          · obtain ⟨q1, q2⟩ := Page.appended_takeM hkl hroom
            rw [q1] at hs3
            rw [q2]
            obtain ⟨z, hz⟩ : ∃ z : Nat, (⟨l.take k, m, false⟩ : Page.St).appendAt l[k] = z := ⟨_, rfl⟩
            rw [hz]
            have HH := Lib.hid (And.intro hs3 (And.intro hrow3 hE3))
            clear hz q1 q2 hroom hs3 hrow3 hA hE3
            go_wp2_with fail
            go_roundw
            case rel => exact ⟨k + 1, m, va', vp', by omega, by go_num, by omega, HH⟩
            case measure => simp [intOf]; omega
          · obtain ⟨q1, q2, q3⟩ := Page.refused (S := ⟨l.take k, m, false⟩) rfl (by simpa using hroom)
            rw [q1, q2]
            clear hs3 hrow3 hA q1 q2 q3 hroom
            go_wp2_with fail
            refine (alive8_any w3).mono ?_
            rintro e w4 ⟨rfl, hE4⟩
            go_wp2_with fail
            go_ret
            exact ⟨rfl, hE3.trans hE4⟩
      · obtain rfl : k = na + nb := by omega
        have hfull : l.take (na + nb) = l := List.take_of_length_le (by have := HLL.out; omega)
        by_cases hz : nb = 0
        · subst hz
          have hm0 : m = 0 := by omega
          subst hm0
          go_wp2_with fail
          refine (sync8_any hI.out.1).mono ?_
          rintro e w2 ⟨rfl, hB2, hs2⟩
          have hsy : (⟨l.take (na + 0), 0, false⟩ : Page.St).sync = ⟨l, na, false⟩ := by rw [hfull]; unfold Page.St.sync; have := HLL.out; simp; omega
          rw [hsy] at hs2
          have hE2 : Ext W w2 := Below.trans (B := W.heap.size) hI.out.2.2 ⟨hB2.os, hB2.tape, hB2.output, hB2.size, fun g hg => hB2.block g (Nat.lt_of_lt_of_le hg hI.out.2.2.size) (by omega)⟩
          have HS2 := Lib.hid hs2
          have HE2 := Lib.hid hE2
          clear hsy hs2 hE2 hB2 hI hm hlt hk hfull
          go_wp2_with fail
          refine (crash8_any HS2.out (K : Int) (by omega)).mono ?_
          rintro e w3 ⟨rfl, hB3, va3, vp3, hs3⟩
          have hE3 : Ext W w3 := newBut HE2.out hB3
          have hs3' := hs3.lower HE2.out.size
          have HS3 := Lib.hid hs3'
          have HE3 := Lib.hid hE3
          have hsmall : ∀ x ∈ lb, x.length ≤ 70000 := fun x hx => Page.small_of HS2.out.ok (by show x ∈ l; rw [← HLQ.out]; exact List.mem_append.2 (.inr hx))
          have HSM := Lib.hid hsmall
          clear hs3 hs3' hE3 hB3 hsmall
          go_wp2_with fail
          go_loopw [12, 13, 78] (fun n' left i wr => ∃ (j A : Nat), j ≤ 0 ∧ n' = .int .i64 j ∧ left = .int .i64 ((K : Int) - (A : Int)) ∧ i = .int .i64 j ∧ Hid ((Page.bytes (lb.take j)).length = A) ∧ A ≤ K ∧ Ext w3 wr) (fun _ _ i _ => 0 - (intOf i).toNat)
          case atStart => exact ⟨0, 0, by omega, rfl, by simp, rfl, Lib.hid (by rw [List.take_zero]; rfl), by omega, Ext.refl _⟩
          case round =>
            obtain ⟨j, A, hj, rfl, rfl, rfl, hA, hAK, hE⟩ := hrel
            have hj0 : j = 0 := by omega
            subst hj0
            go_wp2_with fail
            refine (alive8_any wr).mono ?_
            rintro e w5 ⟨rfl, hE5⟩
            go_wp2_with fail
            refine (frames8_any (HS3.out.ext (hE.trans hE5))).mono ?_
            rintro e w6 ⟨es, u, rfl, hxs, ho, _, hE6⟩
            have hlen : es.length = na + 0 := by
              have h1 := congrArg List.length hxs
              rw [List.length_map] at h1
              rw [h1, ← HLQ.out, ← HLA.out]
              exact Page.torn (by have := HNB.out; omega) (by rw [hA.out]; exact hAK) (fun h => absurd h (by have := HNB.out; omega))
            rw [hlen] at ho
            obtain ⟨ua, un, uc, rfl⟩ := ownSlice ho
            have hun : un = na + 0 := by rcases ho.2 with ⟨h, h'⟩ | ⟨_, _, _, h, _⟩ <;> (injection h with _ h _; first | done | omega | skip)
            subst hun
            clear ho hxs hlen
            go_wp2_with fail
            go_ret
            exact ⟨by simp, HE3.out.trans (hE.trans (hE5.trans hE6))⟩
        · have hz2 : ((nb : Int) == 0) = false := by simp; omega
          obtain rfl : na = m := by omega
          rw [hfull] at hI
          have HS2 := Lib.hid hI.out.1
          have HE2 := Lib.hid hI.out.2.2
          clear hI hm hlt hk hfull
          go_wp2_with fail
          refine (crash8_any HS2.out (K : Int) (by omega)).mono ?_
          rintro e w3 ⟨rfl, hB3, va3, vp3, hs3⟩
          have hE3 : Ext W w3 := newBut HE2.out hB3
          have hs3' := hs3.lower HE2.out.size
          have HS3 := Lib.hid hs3'
          have HE3 := Lib.hid hE3
          have hsmall : ∀ x ∈ lb, x.length ≤ 70000 := fun x hx => Page.small_of HS2.out.ok (by show x ∈ l; rw [← HLQ.out]; exact List.mem_append.2 (.inr hx))
          have HSM := Lib.hid hsmall
          clear hs3 hs3' hE3 hB3 hsmall
          go_wp2_with fail
          go_loopw [12, 13, 78] (fun n' left i wr => ∃ (j A : Nat), j ≤ nb ∧ n' = .int .i64 j ∧ left = .int .i64 ((K : Int) - (A : Int)) ∧ i = .int .i64 j ∧ Hid ((Page.bytes (lb.take j)).length = A) ∧ A ≤ K ∧ Ext w3 wr) (fun _ _ i _ => nb - (intOf i).toNat)
          case atStart => exact ⟨0, 0, by omega, rfl, by simp, rfl, Lib.hid (by rw [List.take_zero]; rfl), by omega, Ext.refl _⟩
          case round =>
            obtain ⟨j, A, hj, rfl, rfl, rfl, hA, hAK, hE⟩ := hrel
            by_cases hlt : j < nb
            · have hjl : j < lb.length := by have := HNB.out; omega
              obtain ⟨_, _, e1, _, _, hrows⟩ := (H1.out.below (HE3.out.trans hE)).open
              obtain ⟨q, off, x, hab, hcell, hx⟩ := hrows j hjl
              injection e1 with e1 e9 e3
              subst e1 e3
              clear e9
              subst hab
              obtain ⟨ax, nx, cx, rfl⟩ := hx.isSlice
              have hstr := run_str (P := Try.prog) 22 9 5 Try.underlying22 Try.underlying5 Try.underlying9 hx
              have hfr := frameRef_any lb[j] wr (HSM.out lb[j] (List.getElem_mem _))
              obtain ⟨F, hF⟩ : ∃ F, Page.frame lb[j] = F := ⟨_, rfl⟩
              rw [hF] at hfr
              have hFl : F.length ≤ 70013 := by have := HSM.out lb[j] (List.getElem_mem _); have h3 := Pack.num_nine (n := lb[j].length) (by omega); rw [← hF, Page.frame_length]; omega
              have HSTEP := Lib.hid (Page.left_step hjl)
              rw [hF, hA.out] at HSTEP
              obtain ⟨X, hX⟩ : ∃ X, lb[j] = X := ⟨_, rfl⟩
              rw [hX] at hfr hstr
              have HFR := Lib.hid hfr
              clear hrows hx hF hX hfr
              go_wp2_with fail
              refine HFR.out.mono ?_
              rintro e w4 ⟨rfl, hE4⟩
              have HE4 := Lib.hid hE4
              clear hstr hE4
              by_cases hneg : K < A + F.length
              · have hng : (K : Int) - (A : Int) - (F.length : Int) < 0 := by omega
                go_wp2_with fail
                refine (alive8_any w4).mono ?_
                rintro e w5 ⟨rfl, hE5⟩
                go_wp2_with fail
                refine (frames8_any (HS3.out.ext (hE.trans (HE4.out.trans hE5)))).mono ?_
                rintro e w6 ⟨es, u, rfl, hxs, ho, _, hE6⟩
                have hlen : es.length = na + j := by
                  have h1 := congrArg List.length hxs
                  rw [List.length_map] at h1
                  rw [h1, ← HLQ.out, ← HLA.out]
                  exact Page.torn (by omega) (by rw [hA.out]; exact hAK) (fun _ => by rw [HSTEP.out]; exact hneg)
                rw [hlen] at ho
                obtain ⟨ua, un, uc, rfl⟩ := ownSlice ho
                have hun : un = na + j := by rcases ho.2 with ⟨h, h'⟩ | ⟨_, _, _, h, _⟩ <;> (injection h with _ h _; first | done | omega | skip)
                subst hun
                clear ho hxs hlen
                go_wp2_with fail
                go_ret
                exact ⟨by simp, HE3.out.trans (hE.trans (HE4.out.trans (hE5.trans hE6)))⟩
              · have hng : ¬ (K : Int) - (A : Int) - (F.length : Int) < 0 := by omega
                have heq2 : (K : Int) - (A : Int) - (F.length : Int) = (K : Int) - ((A + F.length : Nat) : Int) := by omega
                have HEQ := Lib.hid heq2
                clear heq2
                go_wp2_with fail
                go_roundw
                case rel => exact ⟨j + 1, A + F.length, by omega, by go_num, by rw [HEQ.out], by go_num, Lib.hid HSTEP.out, by omega, hE.trans HE4.out⟩
                case measure => simp [intOf]; omega
            · obtain rfl : j = nb := by omega
              go_wp2_with fail
              refine (alive8_any wr).mono ?_
              rintro e w5 ⟨rfl, hE5⟩
              go_wp2_with fail
              refine (frames8_any (HS3.out.ext (hE.trans hE5))).mono ?_
              rintro e w6 ⟨es, u, rfl, hxs, ho, _, hE6⟩
              have hlen : es.length = na + j := by
                have h1 := congrArg List.length hxs
                rw [List.length_map] at h1
                rw [h1, ← HLQ.out, ← HLA.out]
                exact Page.torn (by have := HNB.out; omega) (by rw [hA.out]; exact hAK) (fun h => absurd h (by have := HNB.out; omega))
              rw [hlen] at ho
              obtain ⟨ua, un, uc, rfl⟩ := ownSlice ho
              have hun : un = na + j := by rcases ho.2 with ⟨h, h'⟩ | ⟨_, _, _, h, _⟩ <;> (injection h with _ h _; first | done | omega | skip)
              subst hun
              clear ho hxs hlen
              go_wp2_with fail
              go_ret
              exact ⟨by simp, HE3.out.trans (hE.trans (hE5.trans hE6))⟩

namespace pageTorn
theorem own : ownKnob Try.prog.godebug = none := by kernel_rfl
theorem laidOut : laidOutB Try.prog = true := by kernel_rfl
set_option linter.unusedVariables false in
set_option maxRecDepth 100000 in
theorem lifted (os : Os) (started : os.Started) (H : Type) (enc : TypeId × Value → H) :
    ReturnsInHanded {} Try.checked os 8 .any (Rows.pageTornSpec.pre6 enc Try.prog Try.f8 Rows.pageTornRow.domain false) (Rows.pageTornSpec.post enc Try.prog Try.f8 false true false false) := by
  refine returnsInHanded_of_change_sized (C := Try.checked) own started (by kernel_rfl) Try.func8
    (ChangeSpec.witness6 (enc := enc) (C := Try.checked) false ⟨#[], #[.slice none 0 0, .slice none 0 0, .int .i64 0], []⟩ 8 (by kernel_rfl) (by kernel_rfl) (by kernel_rfl) (by kernel_rfl)) ?_
  intro W base args ds gs before hval0 hW hcnd hsz _
  have hval : ∀ (j : Nat) t v, Try.f8.params[j]? = some t → args[j]? = some v → Value.okWide Try.prog W .any base t v := hval0
  have hW' := hW
  obtain ⟨p, q, hA0, hV, rfl, hfz, hnd⟩ := hW'
  have hA : DataW.TrodAll enc Try.prog W 0 (fun _ => true) true Try.f8.params.toList args.toList ds p := hA0
  rw [Try.params8] at hA hval
  obtain ⟨v0, vs0, d0, ds0, p0, q0, hargs, rfl, rfl, h0, r0⟩ := trodAll_cons hA
  obtain ⟨v1, vs1, d1, ds1, p1, q1, rfl, rfl, rfl, h1, r1⟩ := trodAll_cons r0
  obtain ⟨v2, vs2, d2, ds2, p2, q2, rfl, rfl, rfl, h2, r2⟩ := trodAll_cons r1
  obtain ⟨rfl, rfl, rfl⟩ := trodAll_nil r2
  obtain rfl : args = #[v0, v1, v2] := by cases args; simp_all
  obtain ⟨rfl, rfl⟩ := trodVars_none hV
  have k0 := h0
  have lt0 : ∀ x ∈ p0, x.block < W.heap.size := by obtain ⟨m, hm⟩ := k0; exact DataW.trod_lt m _ _ _ hm
  obtain ⟨a0, len0, cap0, rfl⟩ := okWide_slice Try.underlying43 (hval 0 43 v0 rfl rfl)
  obtain ⟨l0, w0⟩ : ∃ l, Rows W (.slice a0 len0 cap0) l := by
    obtain ⟨fuel, hf⟩ := h0
    obtain ⟨v, l, hcs, hb⟩ := rows_of_raw Try.underlying43 (by kernel_rfl) Try.underlying22 Try.underlying5 (by kernel_rfl) hf
    simp [Value.cells] at hcs
    subst hcs
    exact ⟨l, hb⟩
  have sz0l : ∀ y ∈ l0, y.length ≤ 140737488351232 := by obtain ⟨fuel, hf⟩ := h0; exact rows_long (P := Try.prog) (x := (d0, p0)) (j := 0) hsz (by rw [Try.params8]; rfl) rfl Try.underlying43 (by kernel_rfl) Try.underlying22 (by kernel_rfl) (by simpa [Value.cells] using hf) w0
  have sz0 : len0 * 24 ≤ 140737488351232 := by obtain ⟨fuel, hf⟩ := h0; exact reach_of_raw (P := Try.prog) (x := (d0, p0)) (j := 0) hsz (by rw [Try.params8]; rfl) rfl Try.underlying43 (by kernel_rfl) hf
  have k1 := h1
  have lt1 : ∀ x ∈ p1, x.block < W.heap.size := by obtain ⟨m, hm⟩ := k1; exact DataW.trod_lt m _ _ _ hm
  obtain ⟨a1, len1, cap1, rfl⟩ := okWide_slice Try.underlying43 (hval 1 43 v1 rfl rfl)
  obtain ⟨l1, w1⟩ : ∃ l, Rows W (.slice a1 len1 cap1) l := by
    obtain ⟨fuel, hf⟩ := h1
    obtain ⟨v, l, hcs, hb⟩ := rows_of_raw Try.underlying43 (by kernel_rfl) Try.underlying22 Try.underlying5 (by kernel_rfl) hf
    simp [Value.cells] at hcs
    subst hcs
    exact ⟨l, hb⟩
  have sz1l : ∀ y ∈ l1, y.length ≤ 140737488351232 := by obtain ⟨fuel, hf⟩ := h1; exact rows_long (P := Try.prog) (x := (d1, p1)) (j := 1) hsz (by rw [Try.params8]; rfl) rfl Try.underlying43 (by kernel_rfl) Try.underlying22 (by kernel_rfl) (by simpa [Value.cells] using hf) w1
  have sz1 : len1 * 24 ≤ 140737488351232 := by obtain ⟨fuel, hf⟩ := h1; exact reach_of_raw (P := Try.prog) (x := (d1, p1)) (j := 1) hsz (by rw [Try.params8]; rfl) rfl Try.underlying43 (by kernel_rfl) hf
  have k2 := h2
  have lt2 : ∀ x ∈ p2, x.block < W.heap.size := by obtain ⟨m, hm⟩ := k2; exact DataW.trod_lt m _ _ _ hm
  obtain ⟨a2, rfl, _, _, w2⟩ := open_int Try.underlying3 (hval 2 3 v2 rfl rfl) h2
  clear hA0 hval0
  refine (pageTorn_walk a0 a1 len0 cap0 len1 cap1 l0 l1 a2 W w0 w1 sz0 sz1 sz0l sz1l).mono fun e W' ⟨he, bel⟩ => ?_
  subst he
  exact ⟨_, rfl, _, _, _, [], _, [], hW, trodAll_mk1 (shut_bool Try.underlying4 _), (trodAll_cons_mk (Below.trod laidOut (by kernel_rfl) (of_decide_eq_true (by kernel_rfl)) k0 bel lt0) (trodAll_cons_mk (Below.trod laidOut (by kernel_rfl) (of_decide_eq_true (by kernel_rfl)) k1 bel lt1) (trodAll_cons_mk (Below.trod laidOut (by kernel_rfl) (of_decide_eq_true (by kernel_rfl)) k2 bel lt2) trodAll_mk0))), rfl, bel.frame _, fun h => by cases h⟩
theorem over : Rows.pageTornRow.holds Try.pinned (OpenSpec.ofChange Rows.pageTornSpec) :=
  OpenClaim.holds_of_wide 8 Try.f8 rfl rfl rfl rfl rfl rfl rfl ⟨rfl, rfl, rfl, rfl, rfl⟩ rfl rfl rfl rfl rfl (by kernel_rfl) Try.func8 (by kernel_rfl)
    (of_decide_eq_true (by kernel_rfl)) (by unfold Func.isWrapper; first | (rw [if_pos (by decide +kernel)]; kernel_rfl) | (rw [if_neg (by decide +kernel)]; exact ⟨rfl, rfl⟩))
    (fun os started H enc _ => lifted os started H enc)
theorem proved : Rows.PageTornSaid := over
end pageTorn
end Go.Proofs.Ytejbcnolfdfndaa
