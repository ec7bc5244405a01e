/-
  Layer 6: are two configurations the same: the program's answer, and the document's.
-/
import Derived.Test.YtpfodkgncachiaaTrmE
namespace Go.Proofs.Ytpfodkgncachiaa
set_option linter.unusedSimpArgs false
set_option linter.unusedVariables false
set_option maxRecDepth 100000
open Go.RowKit

theorem rowsNe {a b : List (List Int)} (k : Nat) (h1 : k < a.length) (h2 : k < b.length) (h : (a[k] == b[k]) = false) : (a == b) = false := by
  rw [beq_eq_false_iff_ne] at h ⊢
  rintro rfl
  exact h rfl
theorem rowsSame {a b : List (List Int)} (hl : a.length = b.length) (h : ∀ i, i < a.length → ∀ (h1 : i < a.length) (h2 : i < b.length), (a[i] == b[i]) = true) : (a == b) = true := by
  rw [beq_iff_eq]
  exact List.ext_getElem hl fun i h1 h2 => by have := h i h1 h1 h2; rwa [beq_iff_eq] at this
theorem rowsOther {a b : List (List Int)} (h : a.length ≠ b.length) : (a == b) = false := by
  rw [beq_eq_false_iff_ne]
  rintro rfl
  exact h rfl

theorem cellExt {w w' : World} {b o : Nat} {v : Value} (h : Ext w w') (hc : w.cell? ⟨b, o, none⟩ = some v) : w'.cell? ⟨b, o, none⟩ = some v := (h.cell (p := ⟨b, o, none⟩) (World.block_lt_of_cell? w _ hc)).trans hc

set_option maxHeartbeats 4000000 in
theorem equalRows6_any (v u : Value) (ns ms : List (List Int)) (w : World) (hv : IRows w v ns) (hu : IRows w u ms) :
    Calls Try.prog 26 #[v, u, .func (.func 25) #[] #[]] w fun e w' => e = .returned (.bool (ns == ms)) ∧ Ext w w' := by
  have HV := Lib.hid hv
  have HU := Lib.hid hu
  obtain ⟨a, cap, rfl, hcap, hmax, hc⟩ := hv.open
  obtain ⟨a2, cap2, rfl, hcap2, hmax2, hc2⟩ := hu.open
  unfold maxLen at hmax hmax2
  clear hv hu hc hc2
  by_cases hl : ns.length = ms.length
  · have h1' : ((ns.length : Int) != (ms.length : Int)) = false := by rw [hl]; simp
    have HL := Lib.hid hl
    clear hl
    go_enter Try.func26, Try.ntmps26
    go_wp2_with fail
    go_loopw [7, 8, 9, 17] (fun _ _ _ i wr => ∃ k : Nat, k ≤ ns.length ∧ i = .int .i64 k ∧ Hid (∀ i, i < k → ∀ (h1 : i < ns.length) (h2 : i < ms.length), (ns[i] == ms[i]) = true) ∧ Ext w wr) (fun _ _ _ i _ => ns.length - (intOf i).toNat)
    case atStart => exact ⟨0, by omega, rfl, fun i hi => absurd hi (by omega), Ext.refl _⟩
    case round =>
      obtain ⟨k, hk, rfl, hr, hE⟩ := hrel
      by_cases hlt : k < ns.length
      · have hlt2 : k < ms.length := by have := HL.out; omega
        obtain ⟨a', cap', e', _, _, hc⟩ := (HV.out.below hE).open
        obtain ⟨b, off, x, rfl, hcell, hx⟩ := hc k hlt
        injection e' with e1 e2 e3
        subst e1
        obtain ⟨a3, cap3, e', _, _, hc2⟩ := (HU.out.below hE).open
        obtain ⟨b2, off2, y, rfl, hcell2, hy⟩ := hc2 k hlt2
        injection e' with e4 e5 e6
        subst e4
        clear hc hc2 e2 e3 e5 e6
        have HX := Lib.hid hx
        have HY := Lib.hid hy
        obtain ⟨ax, cx, rfl, _⟩ := hx.open
        obtain ⟨ay, cy, rfl, _⟩ := hy.open
        clear hx hy
        cases h0 : (ns[k] == ms[k]) with
        | true =>
          have H0 := Lib.hid h0
          clear h0
          go_wp2_with fail
          refine (equalS_any _ _ ns[k] ms[k] _ HX.out HY.out).mono ?_
          rw [H0.out]
          rintro e w2 ⟨rfl, hE2⟩
          go_wp2_with fail
          go_roundw
          case rel =>
            refine ⟨k + 1, by omega, by go_num, fun i hi h1 h2 => ?_, hE.trans hE2⟩
            rcases Nat.lt_or_ge i k with h | h
            · exact hr.out i h h1 h2
            · obtain rfl : i = k := by omega
              exact H0.out
          case measure => simp [intOf]; omega
        | false =>
          have H0 := Lib.hid h0
          clear h0
          go_wp2_with fail
          refine (equalS_any _ _ ns[k] ms[k] _ HX.out HY.out).mono ?_
          rw [H0.out]
          rintro e w2 ⟨rfl, hE2⟩
          go_wp2_with fail
          go_ret
          exact ⟨by rw [rowsNe k hlt hlt2 H0.out]; rfl, hE.trans hE2⟩
      · have hs := Lib.hid (rowsSame HL.out (fun i h => hr.out i (by omega)))
        clear hr
        go_wp2_with fail
        go_ret
        exact ⟨by rw [hs.out]; rfl, hE⟩
  · have h1' : ((ns.length : Int) != (ms.length : Int)) = true := by rw [bne_iff_ne]; omega
    have HL := Lib.hid (rowsOther hl)
    clear hl
    go_enter Try.func26, Try.ntmps26
    go_wp2_with fail
    go_ret
    exact ⟨by rw [HL.out]; rfl, Ext.refl _⟩

theorem alikeTerm {a b : Term.C} (h : (a.term == b.term) = false) : Term.alike a b = false := by unfold Term.alike; rw [h]; rfl
theorem alikeSeqs {a b : Term.C} (h : (a.seqs == b.seqs) = false) : Term.alike a b = false := by unfold Term.alike; rw [h]; simp
theorem alikeRest {a b : Term.C} (h1 : (a.term == b.term) = true) (h2 : (a.seqs == b.seqs) = true) : Term.alike a b = (a.shards == b.shards) := by unfold Term.alike; rw [h1, h2]; rfl

set_option maxHeartbeats 4000000 in
theorem same6_any (v u : Value) (a b : Term.C) (w : World) (hv : IsConf w v a) (hu : IsConf w u b) :
    Calls Try.prog 11 #[v, u] w fun e w' => e = .returned (.bool (Term.alike a b)) ∧ Ext w w' := by
  have hbx := box_conf
  have HCV := Lib.hid hv
  have HCU := Lib.hid hu
  obtain ⟨s, d, rfl, hs, hd⟩ := hv
  obtain ⟨s2, d2, rfl, hs2, hd2⟩ := hu
  obtain ⟨t, S, D⟩ := a
  obtain ⟨t2, S2, D2⟩ := b
  unfold confV
  simp only at hs hd hs2 hd2 ⊢
  have HS := Lib.hid hs
  have HD := Lib.hid hd
  have HS2 := Lib.hid hs2
  have HD2 := Lib.hid hd2
  obtain ⟨a1, cap1, rfl, hcap1, hmax1, _, _⟩ := hs.open
  obtain ⟨a2, cap2, rfl, hcap2, hmax2, _⟩ := hd.open
  obtain ⟨a3, cap3, rfl, hcap3, hmax3, _, _⟩ := hs2.open
  obtain ⟨a4, cap4, rfl, hcap4, hmax4, _⟩ := hd2.open
  unfold maxLen at hmax1 hmax2 hmax3 hmax4
  clear hs hd hs2 hd2
  have hE0 : Ext w ((w.alloc (.cells #[.int .i64 t, .slice a1 S.length cap1, .slice a2 D.length cap2] 26)).alloc (.cells #[.int .i64 t2, .slice a3 S2.length cap3, .slice a4 D2.length cap4] 26)) := ext_two _ _ _
  have HH := Lib.hid (heap_two w (.cells #[.int .i64 t, .slice a1 S.length cap1, .slice a2 D.length cap2] 26) (.cells #[.int .i64 t2, .slice a3 S2.length cap3, .slice a4 D2.length cap4] 26))
  cases ht : (t == t2) with
  | false =>
    have HR := Lib.hid (alikeTerm (a := ⟨t, S, D⟩) (b := ⟨t2, S2, D2⟩) ht)
    go_enter Try.func11, Try.ntmps11
    go_wp2_with fail
    go_ret
    exact ⟨by rw [HR.out]; rfl, hE0⟩
  | true =>
    cases hsq : (S == S2) with
    | false =>
      have HR := Lib.hid (alikeSeqs (a := ⟨t, S, D⟩) (b := ⟨t2, S2, D2⟩) hsq)
      have HQ := Lib.hid hsq
      clear hsq
      go_enter Try.func11, Try.ntmps11
      go_wp2_with fail
      refine (equalS_any _ _ S S2 _ (HS.out.below hE0) (HS2.out.below hE0)).mono ?_
      rw [HQ.out]
      rintro e w2 ⟨rfl, hE2⟩
      go_wp2_with fail
      go_ret
      exact ⟨by rw [HR.out]; rfl, hE0.trans hE2⟩
    | true =>
      have HR := Lib.hid (alikeRest (a := ⟨t, S, D⟩) (b := ⟨t2, S2, D2⟩) ht hsq)
      have HQ := Lib.hid hsq
      clear hsq
      go_enter Try.func11, Try.ntmps11
      go_wp2_with fail
      refine (equalS_any _ _ S S2 _ (HS.out.below hE0) (HS2.out.below hE0)).mono ?_
      rw [HQ.out]
      rintro e w2 ⟨rfl, hE2⟩
      have e2 := hE0.trans hE2
      obtain ⟨c0, c1, c2⟩ := ConfAt.cells (heap_ext HH.out.1 hE2)
      obtain ⟨d0, d1, d2⟩ := ConfAt.cells (heap_ext HH.out.2 hE2)
      go_wp2_with fail
      refine (equalRows6_any _ _ D D2 _ (HD.out.below e2) (HD2.out.below e2)).mono ?_
      rintro e w3 ⟨rfl, hE3⟩
      obtain ⟨r, hr⟩ : ∃ r, (D == D2) = r := ⟨_, rfl⟩
      rw [hr] at HR ⊢
      clear hr
      go_wp2_with fail
      go_ret
      exact ⟨by rw [HR.out]; rfl, e2.trans hE3⟩

end Go.Proofs.Ytpfodkgncachiaa
