/-
  PageReads: what was appended is read where that was told, as long as it is there: for every input the statement's function returns true, and leaves what came in as it was.
-/
import Derived.Test.YtejbcnolfdfndaaPgW
namespace Go.Proofs.Ytejbcnolfdfndaa
set_option linter.unusedSimpArgs false
set_option linter.unusedVariables false
open Go.ChangeShapes Go.WideShapes Go.ChangeAt Go.RowKit

theorem Rows.lenP {w : World} {a : Option Addr} {n c : Nat} {ls : List (List UInt8)} (h : Rows w (.slice a n c) ls) : n = ls.length ∧ n ≤ c ∧ c ≤ 9223372036854775807 := by
  obtain ⟨_, _, e, h1, h2, _⟩ := h.open
  injection e with e1 e2 e3
  subst e3
  unfold maxLen at h2
  omega

set_option maxRecDepth 100000 in
set_option maxHeartbeats 20000000 in
theorem pageReads_walk (a : Option Addr) (n c : Nat) (ls : List (List UInt8)) (keep : Int) (W : World) (h0 : Rows W (.slice a n c) ls) (hlong : ∀ x ∈ ls, x.length ≤ 140737488351232) (hkeep : -9223372036854775808 ≤ keep ∧ keep ≤ 9223372036854775807) :
    Calls Try.prog 6 #[.slice a n c, .int .i64 keep] W fun e W' => e = .returned (.bool true) ∧ Below W.heap.size W W' := by
  obtain ⟨hn, hnc, hc⟩ := h0.lenP
  by_cases hbad : 60 < n
  · clear hn
    go_enter Try.func6, Try.ntmps6
    go_wp2_with fail
    refine (new8_any (.slice none 0 0) [] W (bytes_none W)).mono ?_
    rintro e w1 ⟨va1, vp1, rfl, hs1, hE1⟩
    go_wp2_with fail
    refine (alive8_any _).mono ?_
    rintro e w2 ⟨rfl, hE2⟩
    go_wp2_with fail
    go_ret
    exact ⟨rfl, hE1.trans hE2⟩
  · obtain ⟨N, hN⟩ : ∃ N, ls.length = N := ⟨_, rfl⟩
    rw [hN] at hn
    obtain rfl := hn
    have H0 := Lib.hid h0
    have HN := Lib.hid hN
    have HLONG := Lib.hid hlong
    clear h0 hN hlong
    go_enter Try.func6, Try.ntmps6
    go_wp2_with fail
    refine (new8_any (.slice none 0 0) [] W (bytes_none W)).mono ?_
    rintro e w1 ⟨va1, vp1, rfl, hs1, hE1⟩
    rw [Page.fromBytes_nil] at hs1
    have hnone : w1.ownsRow W.heap.size 3 1 (.slice none 0 0) 0 (i64s (Page.offs (ls.take 0))) := ⟨by simp [Page.offs, i64s], .inl ⟨rfl, rfl⟩⟩
    go_wp2_with fail
    go_loopw [6, 30] (fun at' i wr => ∃ (k : Nat) (va vp : Value), k ≤ n ∧ i = .int .i64 k ∧ Hid (IsSto wr W.heap.size W.heap.size va vp ⟨ls.take k, 0, false⟩ ∧ wr.ownsRow W.heap.size 3 1 at' k (i64s (Page.offs (ls.take k))) ∧ (∀ q, at'.ownBlock = some q → vp.ownBlock ≠ some q) ∧ Ext W wr)) (fun _ i _ => n - (intOf i).toNat)
    case atStart => exact ⟨0, _, _, by omega, rfl, Lib.hid ⟨hs1, hnone, (by intro q e; cases e), hE1⟩⟩
    case round =>
      obtain ⟨k, va, vp, hk, rfl, hI⟩ := hrel
      clear hs1 hnone hE1
      by_cases hlt : k < n
      · have hkl : k < ls.length := by have := HN.out; omega
        obtain ⟨_, _, e1, _, _, hrows⟩ := (H0.out.below hI.out.2.2.2).open
        obtain ⟨b, off, x, hab, hcell, hx⟩ := hrows k hkl
        injection e1 with e1 e2 e3
        subst e1 e3
        subst hab
        obtain ⟨ax, nx, cx, rfl⟩ := hx.isSlice
        have HX := Lib.hid hx
        clear hrows hx e2
        obtain ⟨a6, n6, c6, rfl⟩ := ownSlice hI.out.2.1
        go_wp2_with fail
        refine (append8_any hI.out.1 hI.out.2.2.2.size _ ls[k] HX.out (by have := HLONG.out ls[k] (List.getElem_mem _); omega)).mono ?_
        rintro e w3 ⟨rfl, va', vp', hA⟩
        have hE3 : Ext W w3 := Below.trans (B := W.heap.size) hI.out.2.2.2 (hA.below hI.out.1 (Nat.le_refl _) (Nat.le_refl _) hI.out.2.2.2.size)
        have hat3 := at_appended hA hI.out.1 hI.out.2.1 hI.out.2.2.1
        have hs3 := hA.sto
        by_cases hroom : Page.room ⟨ls.take k, 0, false⟩ ls[k] = true
        · obtain ⟨q1, q2, q3⟩ := Page.appended_take hkl hroom
          rw [q1] at hs3
          rw [q2, q3]
          have hmax := hI.out.1.ok.max
          obtain ⟨m, hm⟩ : ∃ m, (Page.bytes (ls.take k)).length = m := ⟨_, rfl⟩
          have hm0 : (Page.bytes (⟨ls.take k, 0, false⟩ : Page.St).l).length = m := hm
          rw [hm0] at hmax
          rw [hm]
          have HM := Lib.hid hm
          have HS3 := Lib.hid hs3
          have hn6 : n6 = k := by rcases hI.out.2.1.2 with ⟨h, h'⟩ | ⟨_, _, _, h, _⟩ <;> (injection h with _ h _; first | done | omega | skip)
          subst hn6
          have HA3 := Lib.hid hat3
          have hpa6 := hat3.1.alloc (.cells #[.int .i64 (m : Int)] 3)
          have hS1 : n6 + (i64s [(m : Int)]).length ≤ maxLen := by simp; unfold maxLen; omega
          have hS2 : (n6 + (i64s [(m : Int)]).length) * 8 ≤ 140737488355328 := by simp; omega
          have hS3 : W.heap.size ≤ (w3.alloc (.cells #[.int .i64 (m : Int)] 3)).heap.size := by have := hE3.size; simp; omega
          have HP6 := Lib.hid hpa6
          have HE3 := Lib.hid hE3
          have HQ := Lib.hid (And.intro hS1 (And.intro hS2 hS3))
          clear hs3 hat3 hA hm hm0 hpa6 hS1 hS2 hS3 q1 q2 q3 hroom hE3
          go_wp2_with (at_builtin; refine wpList_appAt rfl (.tmp 47) (.tmp 49) tIntE rfl (base := W.heap.size) (n := n6) (xs := i64s (Page.offs (ls.take n6))) (ys := i64s [(m : Int)]) rfl rfl HP6.out (Ints.one w3 (m : Int)) (by simp) (by intro y hy; simp [i64s] at hy; subst hy; rfl) HQ.out.1 HQ.out.2.1 HQ.out.2.2 ?_; intro v7 w7 hown7 hg7 hat7; have H7 := Lib.hid (And.intro hown7 (And.intro hg7 hat7)); clear hown7 hg7 hat7)
          have hs7 := sto_grown (HS3.out.ext (Ext.alloc w3 (.cells #[.int .i64 (m : Int)] 3))) HP6.out HA3.out.2 H7.out.2.1
          have hd7 := grown_beside (HS3.out.ext (Ext.alloc w3 (.cells #[.int .i64 (m : Int)] 3))).places HP6.out HA3.out.2 H7.out.2.2
          have hE7 : Ext W w7 := (HE3.out.trans (Ext.alloc w3 _)).grown H7.out.2.1 (HE3.out.trans (Ext.alloc w3 _)).size (fun g e => (HP6.out.lt g e).1)
          have ho7 := H7.out.1
          rw [← i64s_app8, ← HM.out, ← Page.offs_take hkl] at ho7
          exact ⟨⟨n6 + 1, va', vp', by omega, rfl, Lib.hid ⟨hs7, ho7, hd7, hE7⟩⟩, by simp [intOf]; omega⟩
        · obtain ⟨q1, q2, q3⟩ := Page.refused (S := ⟨ls.take k, 0, false⟩) rfl (by simpa using hroom)
          rw [q1, q2]
          clear hs3 hat3 hA q1 q2 q3 hroom
          go_wp2_with fail
          refine (alive8_any w3).mono ?_
          rintro e w4 ⟨rfl, hE4⟩
          go_wp2_with fail
          go_ret
          exact ⟨rfl, hE3.trans hE4⟩
      · obtain rfl : k = n := by omega
        go_wp2_with fail
        refine (crash8_any hI.out.1 keep hkeep).mono ?_
        rintro e w3 ⟨rfl, hB3, va3, vp3, hs3⟩
        have hE3 : Ext W w3 := newBut hI.out.2.2.2 hB3
        have hs3' := hs3.lower hI.out.2.2.2.size
        have hat3 := rowBut hI.out.2.1 (rowBeside hI.out.2.1 hI.out.1.heap (by decide)) hB3
        have hfull : ls.take k = ls := List.take_of_length_le (by have := HN.out; omega)
        rw [hfull] at hs3' hat3
        obtain ⟨K, hK⟩ : ∃ K, Page.whole ls (Page.St.stay ⟨ls, 0, false⟩ keep) = K := ⟨_, rfl⟩
        have hKl : K ≤ ls.length := by rw [← hK]; exact Page.whole_le _ _
        have hcr : (⟨ls, 0, false⟩ : Page.St).crash keep = ⟨ls.take K, K, false⟩ := by unfold Page.St.crash; rw [hK]
        rw [hcr] at hs3'
        obtain ⟨M, hM⟩ : ∃ M, (Page.bytes (ls.take K)).length = M := ⟨_, rfl⟩
        have hmx := hs3'.ok.max
        simp only at hmx
        rw [hM] at hmx
        have HM := Lib.hid hM
        have HS3 := Lib.hid hs3'
        obtain ⟨a6, n6, c6, rfl⟩ := ownSlice hat3
        have hn6 : n6 = k := by rcases hat3.2 with ⟨h, h'⟩ | ⟨_, _, _, h, _⟩ <;> (injection h with _ h _; first | done | omega | skip)
        subst hn6
        have hsl := Sl.ofOwn hat3
        have HSL := Lib.hid hsl
        clear hs3 hs3' hI hfull hK hcr hM hsl hat3 hB3 hk hlt
        go_wp2_with fail
        go_loopw [57] (fun i wr => ∃ k : Nat, k ≤ n6 ∧ i = .int .i64 k ∧ Ext w3 wr) (fun i _ => n6 - (intOf i).toNat)
        case atStart => exact ⟨0, by omega, rfl, Ext.refl _⟩
        case round =>
          obtain ⟨k, hk, rfl, hE⟩ := hrel
          by_cases hlt : k < n6
          · have hkl : k < ls.length := by have := HN.out; omega
            obtain ⟨_, _, e1, _, _, _, hcells⟩ := HSL.out
            obtain ⟨b, off, e2, hc1⟩ := hcells k (by simp; omega)
            injection e1 with e1 e9 e3
            subst e1 e3
            clear e9
            subst e2
            have hc2 := cell_ext hc1 hE
            have hval : (i64s (Page.offs ls))[k]'(by simp; omega) = .int .i64 ((Page.bytes (ls.take k)).length : Nat) := by simp [i64s, Page.offs]
            rw [hval] at hc2
            clear hcells hc1 hval
            obtain ⟨m, hm⟩ : ∃ m, (Page.bytes (ls.take k)).length = m := ⟨_, rfl⟩
            rw [hm] at hc2
            have HK := Lib.hid hm
            clear hm
            go_wp2_with fail
            refine (read8_any (HS3.out.ext hE) (m : Int)).mono ?_
            rintro e w4 ⟨hE4, hr⟩
            have HE4 := Lib.hid hE4
            by_cases hin : k < K
            · rw [← HK.out, Page.reads_in hKl hin] at hr
              obtain ⟨ax, nx, cx, rfl, hbx⟩ := hr
              have hMm : m < M := by rw [← HM.out, ← HK.out]; exact Page.bytes_take_lt ls hin hKl
              have hlen : decide (m < M) = true := decide_eq_true (by omega)
              have hQ : ∀ q : Nat, Calls Try.prog 23 #[.pointer (some ⟨W.heap.size, 0, none⟩)] (w4.drewN q) fun e w' => e = .returned (.int .i64 (M : Int)) ∧ w' = w4.drewN q := by
                intro q
                refine (len8_any (HS3.out.ext (hE.trans (hE4.trans (Ext.drewN w4 q))))).mono ?_
                rintro e w' ⟨rfl, rfl⟩
                exact ⟨by rw [HM.out], rfl⟩
              have HQ := Lib.hid hQ
              obtain ⟨_, _, e1, _, _, hrows⟩ := ((H0.out.below hE3).below (hE.trans hE4)).open
              obtain ⟨b2, off2, x2, hab, hcell2, hx2⟩ := hrows k hkl
              injection e1 with e1 e9 e3
              subst e1 e3
              clear e9
              subst hab
              obtain ⟨ay, ny, cy, rfl⟩ := hx2.isSlice
              have hstr1 : ∀ q : Nat, (convert 22 9 (.slice ax nx cx)).run Try.prog (w4.drewN q) = .ok (.string ⟨(ls[k]).toArray⟩) (w4.drewN q) := fun q => run_str (P := Try.prog) 22 9 5 Try.underlying22 Try.underlying5 Try.underlying9 (hbx.1.below (Ext.drewN w4 q))
              have hstr2 : ∀ q : Nat, (convert 22 9 (.slice ay ny cy)).run Try.prog (w4.drewN q) = .ok (.string ⟨(ls[k]).toArray⟩) (w4.drewN q) := fun q => run_str (P := Try.prog) 22 9 5 Try.underlying22 Try.underlying5 Try.underlying9 (hx2.below (Ext.drewN w4 q))
              obtain ⟨X, hX⟩ : ∃ X, ls[k] = X := ⟨_, rfl⟩
              rw [hX] at hstr1 hstr2
              clear hrows hx2 hbx hX hQ hE4
              go_wp2_with fail
              go_quiet (first | (go_at_call 23; exact Calls.quiet_of_same (HQ.out _)))
              go_wp2_with fail
              go_roundw
              case rel => exact ⟨k + 1, by omega, by go_num, hE.trans (HE4.out.trans (Ext.drewN w4 _))⟩
              case measure => simp [intOf]; omega
            · rw [← HK.out, Page.reads_out hkl (by omega)] at hr
              obtain rfl := hr
              have hMm : M ≤ m := by rw [← HM.out, ← HK.out]; exact Page.out_le hkl (by omega)
              have hlen : decide (m < M) = false := decide_eq_false (by omega)
              have hQ : ∀ q : Nat, Calls Try.prog 23 #[.pointer (some ⟨W.heap.size, 0, none⟩)] (w4.drewN q) fun e w' => e = .returned (.int .i64 (M : Int)) ∧ w' = w4.drewN q := by
                intro q
                refine (len8_any (HS3.out.ext (hE.trans (hE4.trans (Ext.drewN w4 q))))).mono ?_
                rintro e w' ⟨rfl, rfl⟩
                exact ⟨by rw [HM.out], rfl⟩
              have HQ := Lib.hid hQ
              clear hQ hE4
              go_wp2_with fail
              go_quiet (first | (go_at_call 23; exact Calls.quiet_of_same (HQ.out _)))
              go_wp2_with fail
              go_roundw
              case rel => exact ⟨k + 1, by omega, by go_num, hE.trans (HE4.out.trans (Ext.drewN w4 _))⟩
              case measure => simp [intOf]; omega
          · obtain rfl : k = n6 := by omega
            go_wp2_with fail
            refine (alive8_any wr).mono ?_
            rintro e w4 ⟨rfl, hE4⟩
            go_wp2_with fail
            go_ret
            exact ⟨rfl, hE3.trans (hE.trans hE4)⟩

namespace pageReads
theorem own : ownKnob Try.prog.godebug = none := by kernel_rfl
theorem laidOut : laidOutB Try.prog = true := by kernel_rfl
set_option linter.unusedVariables false in
set_option maxRecDepth 100000 in
theorem lifted (os : Os) (started : os.Started) (H : Type) (enc : TypeId × Value → H) :
    ReturnsInHanded {} Try.checked os 6 .any (Rows.pageReadsSpec.pre6 enc Try.prog Try.f6 Rows.pageReadsRow.domain false) (Rows.pageReadsSpec.post enc Try.prog Try.f6 false true false false) := by
  refine returnsInHanded_of_change_sized (C := Try.checked) own started (by kernel_rfl) Try.func6
    (ChangeSpec.witness6 (enc := enc) (C := Try.checked) false ⟨#[], #[.slice none 0 0, .int .i64 0], []⟩ 8 (by kernel_rfl) (by kernel_rfl) (by kernel_rfl) (by kernel_rfl)) ?_
  intro W base args ds gs before hval0 hW hcnd hsz _
  have hval : ∀ (j : Nat) t v, Try.f6.params[j]? = some t → args[j]? = some v → Value.okWide Try.prog W .any base t v := hval0
  have hW' := hW
  obtain ⟨p, q, hA0, hV, rfl, hfz, hnd⟩ := hW'
  have hA : DataW.TrodAll enc Try.prog W 0 (fun _ => true) true Try.f6.params.toList args.toList ds p := hA0
  rw [Try.params6] at hA hval
  obtain ⟨v0, vs0, d0, ds0, p0, q0, hargs, rfl, rfl, h0, r0⟩ := trodAll_cons hA
  obtain ⟨v1, vs1, d1, ds1, p1, q1, rfl, rfl, rfl, h1, r1⟩ := trodAll_cons r0
  obtain ⟨rfl, rfl, rfl⟩ := trodAll_nil r1
  obtain rfl : args = #[v0, v1] := by cases args; simp_all
  obtain ⟨rfl, rfl⟩ := trodVars_none hV
  have k0 := h0
  have lt0 : ∀ x ∈ p0, x.block < W.heap.size := by obtain ⟨m, hm⟩ := k0; exact DataW.trod_lt m _ _ _ hm
  obtain ⟨a0, len0, cap0, rfl⟩ := okWide_slice Try.underlying43 (hval 0 43 v0 rfl rfl)
  obtain ⟨l0, w0⟩ : ∃ l, Rows W (.slice a0 len0 cap0) l := by
    obtain ⟨fuel, hf⟩ := h0
    obtain ⟨v, l, hcs, hb⟩ := rows_of_raw Try.underlying43 (by kernel_rfl) Try.underlying22 Try.underlying5 (by kernel_rfl) hf
    simp [Value.cells] at hcs
    subst hcs
    exact ⟨l, hb⟩
  have sz0l : ∀ y ∈ l0, y.length ≤ 140737488351232 := by obtain ⟨fuel, hf⟩ := h0; exact rows_long (P := Try.prog) (x := (d0, p0)) (j := 0) hsz (by rw [Try.params6]; rfl) rfl Try.underlying43 (by kernel_rfl) Try.underlying22 (by kernel_rfl) (by simpa [Value.cells] using hf) w0
  have sz0 : len0 * 24 ≤ 140737488351232 := by obtain ⟨fuel, hf⟩ := h0; exact reach_of_raw (P := Try.prog) (x := (d0, p0)) (j := 0) hsz (by rw [Try.params6]; rfl) rfl Try.underlying43 (by kernel_rfl) hf
  have k1 := h1
  have lt1 : ∀ x ∈ p1, x.block < W.heap.size := by obtain ⟨m, hm⟩ := k1; exact DataW.trod_lt m _ _ _ hm
  obtain ⟨a1, rfl, _, _, w1⟩ := open_int Try.underlying3 (hval 1 3 v1 rfl rfl) h1
  clear hA0 hval0
  refine (pageReads_walk a0 len0 cap0 l0 a1 W w0 sz0l (bounds_i64 w1)).mono fun e W' ⟨he, bel⟩ => ?_
  subst he
  exact ⟨_, rfl, _, _, _, [], _, [], hW, trodAll_mk1 (shut_bool Try.underlying4 _), (trodAll_cons_mk (Below.trod laidOut (by kernel_rfl) (of_decide_eq_true (by kernel_rfl)) k0 bel lt0) (trodAll_cons_mk (Below.trod laidOut (by kernel_rfl) (of_decide_eq_true (by kernel_rfl)) k1 bel lt1) trodAll_mk0)), rfl, bel.frame _, fun h => by cases h⟩
theorem over : Rows.pageReadsRow.holds Try.pinned (OpenSpec.ofChange Rows.pageReadsSpec) :=
  OpenClaim.holds_of_wide 6 Try.f6 rfl rfl rfl rfl rfl rfl rfl ⟨rfl, rfl, rfl, rfl, rfl⟩ rfl rfl rfl rfl rfl (by kernel_rfl) Try.func6 (by kernel_rfl)
    (of_decide_eq_true (by kernel_rfl)) (by unfold Func.isWrapper; first | (rw [if_pos (by decide +kernel)]; kernel_rfl) | (rw [if_neg (by decide +kernel)]; exact ⟨rfl, rfl⟩))
    (fun os started H enc _ => lifted os started H enc)
theorem proved : Rows.PageReadsSaid := over
end pageReads
end Go.Proofs.Ytejbcnolfdfndaa
