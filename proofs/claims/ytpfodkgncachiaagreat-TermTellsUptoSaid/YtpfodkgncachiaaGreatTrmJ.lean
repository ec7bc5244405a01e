/-
  Layer 6: are two configurations the same: the program's answer, and the document's.
-/
import Derived.Test.YtpfodkgncachiaaGreatTrmE
namespace Go.Proofs.YtpfodkgncachiaaGreat
set_option linter.unusedSimpArgs false
set_option linter.unusedVariables false
set_option maxRecDepth 100000
open Go.RowKit

theorem rowsNe {a b : List (List Int)} (k : Nat) (h1 : k < a.length) (h2 : k < b.length) (h : (a[k] == b[k]) = false) : (a == b) = false := by
  rw [beq_eq_false_iff_ne] at h ⊢
  rintro rfl
  exact h rfl
theorem rowsSame {a b : List (List Int)} (hl : a.length = b.length) (h : ∀ i, i < a.length → ∀ (h1 : i < a.length) (h2 : i < b.length), (a[i] == b[i]) = true) : (a == b) = true := by
  rw [beq_iff_eq]
  exact List.ext_getElem hl fun i h1 h2 => by have := h i h1 h1 h2; rwa [beq_iff_eq] at this
theorem rowsOther {a b : List (List Int)} (h : a.length ≠ b.length) : (a == b) = false := by
  rw [beq_eq_false_iff_ne]
  rintro rfl
  exact h rfl

theorem cellExt {w w' : World} {b o : Nat} {v : Value} (h : Ext w w') (hc : w.cell? ⟨b, o, none⟩ = some v) : w'.cell? ⟨b, o, none⟩ = some v := (h.cell (p := ⟨b, o, none⟩) (World.block_lt_of_cell? w _ hc)).trans hc

set_option maxHeartbeats 4000000 in
theorem equalRows6_any (v u : Value) (ns ms : List (List Int)) (w : World) (hv : IRows w v ns) (hu : IRows w u ms) :
    Calls Tryz.prog 62 #[v, u, .func (.func 61) #[] #[]] w fun e w' => e = .returned (.bool (ns == ms)) ∧ Ext w w' := by
  have HV := Lib.hid hv
  have HU := Lib.hid hu
  obtain ⟨a, cap, rfl, hcap, hmax, hc⟩ := hv.open
  obtain ⟨a2, cap2, rfl, hcap2, hmax2, hc2⟩ := hu.open
  unfold maxLen at hmax hmax2
  clear hv hu hc hc2
  by_cases hl : ns.length = ms.length
  · have h1' : ((ns.length : Int) != (ms.length : Int)) = false := by rw [hl]; simp
    have HL := Lib.hid hl
    clear hl
    go_enter Tryz.func62, Tryz.ntmps62
    go_wp2_with fail
    go_loopw [7, 8, 9, 17] (fun _ _ _ i wr => ∃ k : Nat, k ≤ ns.length ∧ i = .int .i64 k ∧ Hid (∀ i, i < k → ∀ (h1 : i < ns.length) (h2 : i < ms.length), (ns[i] == ms[i]) = true) ∧ Ext w wr) (fun _ _ _ i _ => ns.length - (intOf i).toNat)
    case atStart => exact ⟨0, by omega, rfl, fun i hi => absurd hi (by omega), Ext.refl _⟩
    case round =>
      obtain ⟨k, hk, rfl, hr, hE⟩ := hrel
      by_cases hlt : k < ns.length
      · have hlt2 : k < ms.length := by have := HL.out; omega
        obtain ⟨a', cap', e', _, _, hc⟩ := (HV.out.below hE).open
        obtain ⟨b, off, x, rfl, hcell, hx⟩ := hc k hlt
        injection e' with e1 e2 e3
        subst e1
        obtain ⟨a3, cap3, e', _, _, hc2⟩ := (HU.out.below hE).open
        obtain ⟨b2, off2, y, rfl, hcell2, hy⟩ := hc2 k hlt2
        injection e' with e4 e5 e6
        subst e4
        clear hc hc2 e2 e3 e5 e6
        have HX := Lib.hid hx
        have HY := Lib.hid hy
        obtain ⟨ax, cx, rfl, _⟩ := hx.open
        obtain ⟨ay, cy, rfl, _⟩ := hy.open
        clear hx hy
        cases h0 : (ns[k] == ms[k]) with
        | true =>
          have H0 := Lib.hid h0
          clear h0
          go_wp2_with fail
          refine (equalS_any _ _ ns[k] ms[k] _ HX.out HY.out).mono ?_
          rw [H0.out]
          rintro e w2 ⟨rfl, hE2⟩
          go_wp2_with fail
          go_roundw
          case rel =>
            refine ⟨k + 1, by omega, by go_num, fun i hi h1 h2 => ?_, hE.trans hE2⟩
            rcases Nat.lt_or_ge i k with h | h
            · exact hr.out i h h1 h2
            · obtain rfl : i = k := by omega
              exact H0.out
          case measure => simp [intOf]; omega
        | false =>
          have H0 := Lib.hid h0
          clear h0
          go_wp2_with fail
          refine (equalS_any _ _ ns[k] ms[k] _ HX.out HY.out).mono ?_
          rw [H0.out]
          rintro e w2 ⟨rfl, hE2⟩
          go_wp2_with fail
          go_ret
          exact ⟨by rw [rowsNe k hlt hlt2 H0.out]; rfl, hE.trans hE2⟩
      · have hs := Lib.hid (rowsSame HL.out (fun i h => hr.out i (by omega)))
        clear hr
        go_wp2_with fail
        go_ret
        exact ⟨by rw [hs.out]; rfl, hE⟩
  · have h1' : ((ns.length : Int) != (ms.length : Int)) = true := by rw [bne_iff_ne]; omega
    have HL := Lib.hid (rowsOther hl)
    clear hl
    go_enter Tryz.func62, Tryz.ntmps62
    go_wp2_with fail
    go_ret
    exact ⟨by rw [HL.out]; rfl, Ext.refl _⟩

theorem alikeTerm {a b : Term.C} (h : (a.term == b.term) = false) : Term.alike a b = false := by unfold Term.alike; rw [h]; rfl
theorem alikeSeqs {a b : Term.C} (h : (a.seqs == b.seqs) = false) : Term.alike a b = false := by unfold Term.alike; rw [h]; simp
theorem alikeRest {a b : Term.C} (h1 : (a.term == b.term) = true) (h2 : (a.seqs == b.seqs) = true) : Term.alike a b = (a.shards == b.shards) := by unfold Term.alike; rw [h1, h2]; rfl

set_option maxHeartbeats 4000000 in
theorem same6_any (v u : Value) (a b : Term.C) (w : World) (hv : IsConf w v a) (hu : IsConf w u b) :
    Calls Tryz.prog 30 #[v, u] w fun e w' => e = .returned (.bool (Term.alike a b)) ∧ Ext w w' := by
  have hbx := box_conf
  have HCV := Lib.hid hv
  have HCU := Lib.hid hu
  obtain ⟨s, d, rfl, hs, hd⟩ := hv
  obtain ⟨s2, d2, rfl, hs2, hd2⟩ := hu
  obtain ⟨t, S, D⟩ := a
  obtain ⟨t2, S2, D2⟩ := b
  unfold confV
  simp only at hs hd hs2 hd2 ⊢
  have HS := Lib.hid hs
  have HD := Lib.hid hd
  have HS2 := Lib.hid hs2
  have HD2 := Lib.hid hd2
  obtain ⟨a1, cap1, rfl, hcap1, hmax1, _, _⟩ := hs.open
  obtain ⟨a2, cap2, rfl, hcap2, hmax2, _⟩ := hd.open
  obtain ⟨a3, cap3, rfl, hcap3, hmax3, _, _⟩ := hs2.open
  obtain ⟨a4, cap4, rfl, hcap4, hmax4, _⟩ := hd2.open
  unfold maxLen at hmax1 hmax2 hmax3 hmax4
  clear hs hd hs2 hd2
  have hE0 : Ext w ((w.alloc (.cells #[.int .i64 t, .slice a1 S.length cap1, .slice a2 D.length cap2] 32)).alloc (.cells #[.int .i64 t2, .slice a3 S2.length cap3, .slice a4 D2.length cap4] 32)) := ext_two _ _ _
  have HH := Lib.hid (heap_two w (.cells #[.int .i64 t, .slice a1 S.length cap1, .slice a2 D.length cap2] 32) (.cells #[.int .i64 t2, .slice a3 S2.length cap3, .slice a4 D2.length cap4] 32))
  cases ht : (t == t2) with
  | false =>
    have HR := Lib.hid (alikeTerm (a := ⟨t, S, D⟩) (b := ⟨t2, S2, D2⟩) ht)
    go_enter Tryz.func30, Tryz.ntmps30
    go_wp2_with fail
    go_ret
    exact ⟨by rw [HR.out]; rfl, hE0⟩
  | true =>
    cases hsq : (S == S2) with
    | false =>
      have HR := Lib.hid (alikeSeqs (a := ⟨t, S, D⟩) (b := ⟨t2, S2, D2⟩) hsq)
      have HQ := Lib.hid hsq
      clear hsq
      go_enter Tryz.func30, Tryz.ntmps30
      go_wp2_with fail
      refine (equalS_any _ _ S S2 _ (HS.out.below hE0) (HS2.out.below hE0)).mono ?_
      rw [HQ.out]
      rintro e w2 ⟨rfl, hE2⟩
      go_wp2_with fail
      go_ret
      exact ⟨by rw [HR.out]; rfl, hE0.trans hE2⟩
    | true =>
      have HR := Lib.hid (alikeRest (a := ⟨t, S, D⟩) (b := ⟨t2, S2, D2⟩) ht hsq)
      have HQ := Lib.hid hsq
      clear hsq
      go_enter Tryz.func30, Tryz.ntmps30
      go_wp2_with fail
      refine (equalS_any _ _ S S2 _ (HS.out.below hE0) (HS2.out.below hE0)).mono ?_
      rw [HQ.out]
      rintro e w2 ⟨rfl, hE2⟩
      have e2 := hE0.trans hE2
      obtain ⟨c0, c1, c2⟩ := ConfAt.cells (heap_ext HH.out.1 hE2)
      obtain ⟨d0, d1, d2⟩ := ConfAt.cells (heap_ext HH.out.2 hE2)
      go_wp2_with fail
      refine (equalRows6_any _ _ D D2 _ (HD.out.below e2) (HD2.out.below e2)).mono ?_
      rintro e w3 ⟨rfl, hE3⟩
      obtain ⟨r, hr⟩ : ∃ r, (D == D2) = r := ⟨_, rfl⟩
      rw [hr] at HR ⊢
      clear hr
      go_wp2_with fail
      go_ret
      exact ⟨by rw [HR.out]; rfl, e2.trans hE3⟩

set_option maxHeartbeats 8000000 in
theorem refSame6_any (v u : Value) (a b : Term.C) (w : World) (hv : IsConf w v a) (hu : IsConf w u b) :
    Calls Tryz.prog 16 #[v, u] w fun e w' => e = .returned (.bool (Term.alike a b)) ∧ Ext w w' := by
  have hbx := box_confR
  have HCV := Lib.hid hv
  have HCU := Lib.hid hu
  obtain ⟨s, d, rfl, hs, hd⟩ := hv
  obtain ⟨s2, d2, rfl, hs2, hd2⟩ := hu
  obtain ⟨t, S, D⟩ := a
  obtain ⟨t2, S2, D2⟩ := b
  unfold confV
  simp only at hs hd hs2 hd2 ⊢
  have HS := Lib.hid hs
  have HD := Lib.hid hd
  have HS2 := Lib.hid hs2
  have HD2 := Lib.hid hd2
  obtain ⟨a1, cap1, rfl, hcap1, hmax1, _, _⟩ := hs.open
  obtain ⟨a2, cap2, rfl, hcap2, hmax2, _⟩ := hd.open
  obtain ⟨a3, cap3, rfl, hcap3, hmax3, _, _⟩ := hs2.open
  obtain ⟨a4, cap4, rfl, hcap4, hmax4, _⟩ := hd2.open
  unfold maxLen at hmax1 hmax2 hmax3 hmax4
  clear hs hd hs2 hd2
  have hE0 : Ext w ((w.alloc (.cells #[.int .i64 t, .slice a1 S.length cap1, .slice a2 D.length cap2] 25)).alloc (.cells #[.int .i64 t2, .slice a3 S2.length cap3, .slice a4 D2.length cap4] 25)) := ext_two _ _ _
  have HH := Lib.hid (heap_two w (.cells #[.int .i64 t, .slice a1 S.length cap1, .slice a2 D.length cap2] 25) (.cells #[.int .i64 t2, .slice a3 S2.length cap3, .slice a4 D2.length cap4] 25))
  cases ht : (t == t2) with
  | false =>
    have HR := Lib.hid (alikeTerm (a := ⟨t, S, D⟩) (b := ⟨t2, S2, D2⟩) ht)
    have ht' : (t != t2) = true := by unfold bne; rw [ht]; rfl
    go_enter Tryz.func16, Tryz.ntmps16
    go_wp2_with fail
    go_ret
    exact ⟨by rw [HR.out]; rfl, hE0⟩
  | true =>
    have ht' : (t != t2) = false := by unfold bne; rw [ht]; rfl
    cases hsq : (S == S2) with
    | false =>
      have HR := Lib.hid (alikeSeqs (a := ⟨t, S, D⟩) (b := ⟨t2, S2, D2⟩) hsq)
      have HQ := Lib.hid hsq
      clear hsq
      go_enter Tryz.func16, Tryz.ntmps16
      go_wp2_with fail
      refine (equal3_any _ _ S S2 _ (HS.out.below hE0) (HS2.out.below hE0)).mono ?_
      rw [HQ.out]
      rintro e w2 ⟨rfl, hE2⟩
      go_wp2_with fail
      go_ret
      exact ⟨by rw [HR.out]; rfl, hE0.trans hE2⟩
    | true =>
      have HR := Lib.hid (alikeRest (a := ⟨t, S, D⟩) (b := ⟨t2, S2, D2⟩) ht hsq)
      have HQ := Lib.hid hsq
      clear hsq
      by_cases hl : D.length = D2.length
      · have hl' : ((D.length : Int) != (D2.length : Int)) = false := by rw [hl]; simp
        have HL := Lib.hid hl
        clear hl
        go_enter Tryz.func16, Tryz.ntmps16
        go_wp2_with fail
        refine (equal3_any _ _ S S2 _ (HS.out.below hE0) (HS2.out.below hE0)).mono ?_
        rw [HQ.out]
        rintro e w2 ⟨rfl, hE2⟩
        have e2 := hE0.trans hE2
        have A2 := Lib.hid (show ConfAt 25 w2 w.heap.size t (.slice a1 S.length cap1) (.slice a2 D.length cap2) from heap_ext HH.out.1 hE2)
        have B2 := Lib.hid (show ConfAt 25 w2 (w.heap.size + 1) t2 (.slice a3 S2.length cap3) (.slice a4 D2.length cap4) from heap_ext HH.out.2 hE2)
        obtain ⟨c0, c1, c2⟩ := A2.out.cells
        obtain ⟨d0, d1, d2⟩ := B2.out.cells
        go_wp2_with fail
        generalize hqq : w.heap.size = q at *
        have HQQ := Lib.hid hqq
        clear hqq c0 c1 c2 d0 d1 d2
        go_loopw [5] (fun i wr => ∃ k : Nat, k ≤ D.length ∧ i = .int .i64 k ∧ Hid (∀ i, i < k → ∀ (h1 : i < D.length) (h2 : i < D2.length), (D[i] == D2[i]) = true) ∧ Ext w2 wr) (fun i _ => D.length - (intOf i).toNat)
        case atStart => exact ⟨0, by omega, rfl, fun i hi => absurd hi (by omega), Ext.refl _⟩
        case round =>
          obtain ⟨k, hk, rfl, hr, hE⟩ := hrel
          have A3 := Lib.hid (A2.out.ext hE)
          have B3 := Lib.hid (B2.out.ext hE)
          obtain ⟨c0, c1, c2⟩ := A3.out.cells
          obtain ⟨d0, d1, d2⟩ := B3.out.cells
          by_cases hlt : k < D.length
          · have hlt2 : k < D2.length := by have := HL.out; omega
            obtain ⟨a', cap', e', _, _, hc⟩ := ((HD.out.below e2).below hE).open
            obtain ⟨b, off, x, rfl, hcell, hx⟩ := hc k hlt
            injection e' with e4 e5 e6
            subst e4
            obtain ⟨a7, cap7, e', _, _, hc2⟩ := ((HD2.out.below e2).below hE).open
            obtain ⟨b2, off2, y, rfl, hcell2, hy⟩ := hc2 k hlt2
            injection e' with e7 e8 e9
            subst e7
            clear hc hc2 e5 e6 e8 e9
            have HX := Lib.hid hx
            have HY := Lib.hid hy
            obtain ⟨ax, cx, rfl, _⟩ := hx.open
            obtain ⟨ay, cy, rfl, _⟩ := hy.open
            have HC1 := Lib.hid (fun (wy : World) (h : Ext wr wy) => (cellExt h hcell : wy.cell? ⟨b, off + k, none⟩ = some (.slice ax D[k].length cx)))
            have HC2 := Lib.hid (fun (wy : World) (h : Ext wr wy) => (cellExt h hcell2 : wy.cell? ⟨b2, off2 + k, none⟩ = some (.slice ay D2[k].length cy)))
            clear hx hy hcell hcell2
            cases h0 : (D[k] == D2[k]) with
            | true =>
              have H0 := Lib.hid h0
              have HEQ := Lib.hid (fun (wy : World) (h : Ext wr wy) => h0 ▸ equal3_any _ _ D[k] D2[k] wy (HX.out.below h) (HY.out.below h))
              clear h0
              go_wp2_with fail
              refine wp_region_facts (by kernel_rfl) Ext (fun iop v w => match iop with
                  | 0 => v = .pointer (some ⟨q, 2, none⟩)
                  | 1 => v = .slice (some ⟨b, off, none⟩) D.length cap2
                  | 2 => v = .int .i64 (k : Int)
                  | 3 => v = .pointer (some ⟨b, off + k, none⟩)
                  | 4 => v = .slice ax D[k].length cx
                  | 5 => v = .pointer (some ⟨q + 1, 2, none⟩)
                  | 6 => v = .slice (some ⟨b2, off2, none⟩) D2.length cap4
                  | 7 => v = .int .i64 (k : Int)
                  | 8 => v = .pointer (some ⟨b2, off2 + k, none⟩)
                  | 9 => v = .slice ay D2[k].length cy
                  | 10 => v = .bool true
                  | _ => v = .bool false
                  ) (by kernel_rfl) (fun _ _ _ h k => Ext.trans h k) (fun a => Ext.refl a) (Ext.drew _) ?_ ?_ ?_
              · intro iop v wa wb hF hL
                cases iop with
                | zero => exact hF
                | succ iop =>
                  cases iop with
                  | zero => exact hF
                  | succ iop =>
                    cases iop with
                    | zero => exact hF
                    | succ iop =>
                      cases iop with
                      | zero => exact hF
                      | succ iop =>
                        cases iop with
                        | zero => exact hF
                        | succ iop =>
                          cases iop with
                          | zero => exact hF
                          | succ iop =>
                            cases iop with
                            | zero => exact hF
                            | succ iop =>
                              cases iop with
                              | zero => exact hF
                              | succ iop =>
                                cases iop with
                                | zero => exact hF
                                | succ iop =>
                                  cases iop with
                                  | zero => exact hF
                                  | succ iop =>
                                    cases iop with
                                    | zero => exact hF
                                    | succ iop =>
                                      exact hF
              · refine Obls.cons ?_ (Obls.cons ?_ (Obls.cons ?_ (Obls.cons ?_ (Obls.cons ?_ (Obls.cons ?_ (Obls.cons ?_ (Obls.cons ?_ (Obls.cons ?_ (Obls.cons ?_ (Obls.cons ?_ (Obls.cons ?_ (Obls.nil))))))))))))
                · intro ev wy hp hl hk hd
                  have e2 : ev (.tmp 2) = .pointer (some ⟨q, 0, none⟩) := hk 2 (by decide)
                  clear hk
                  clear hd
                  exact Yield.op (v := .pointer (some ⟨q, 2, none⟩)) (w' := wy) (by simp [execOp, go_sem, e2]) ⟨Ext.refl _, rfl⟩
                · intro ev wy hp hl hk hd
                  have e35 : ev (.tmp 35) = .pointer (some ⟨q, 2, none⟩) := hk 35 (by decide)
                  clear hk
                  clear hd
                  exact Yield.load rfl e35 (by simp [go_sem, (A3.out.ext hl).cells.2.2]) ⟨Ext.refl _, rfl⟩
                · intro ev wy hp hl hk hd
                  have e5 : ev (.tmp 5) = .int .i64 (k : Int) := hk 5 (by decide)
                  clear hk
                  clear hd
                  exact Yield.mv rfl ⟨Ext.refl _, e5⟩
                · intro ev wy hp hl hk hd
                  have e36 : ev (.tmp 36) = .slice (some ⟨b, off, none⟩) D.length cap2 := hk 36 (by decide)
                  have e37 : ev (.tmp 37) = .int .i64 (k : Int) := hk 37 (by decide)
                  clear hk
                  clear hd
                  exact Yield.op (w' := wy) (by simp [execOp, go_sem, e36, e37]; omega) ⟨Ext.refl _, rfl⟩
                · intro ev wy hp hl hk hd
                  have e38 : ev (.tmp 38) = .pointer (some ⟨b, off + k, none⟩) := hk 38 (by decide)
                  clear hk
                  clear hd
                  exact Yield.load rfl e38 (by simp [go_sem, HC1.out wy hl]) ⟨Ext.refl _, rfl⟩
                · intro ev wy hp hl hk hd
                  have e3 : ev (.tmp 3) = .pointer (some ⟨q + 1, 0, none⟩) := hk 3 (by decide)
                  clear hk
                  clear hd
                  exact Yield.op (v := .pointer (some ⟨q + 1, 2, none⟩)) (w' := wy) (by simp [execOp, go_sem, e3]) ⟨Ext.refl _, rfl⟩
                · intro ev wy hp hl hk hd
                  have e40 : ev (.tmp 40) = .pointer (some ⟨q + 1, 2, none⟩) := hk 40 (by decide)
                  clear hk
                  clear hd
                  exact Yield.load rfl e40 (by simp [go_sem, (B3.out.ext hl).cells.2.2]) ⟨Ext.refl _, rfl⟩
                · intro ev wy hp hl hk hd
                  have e5 : ev (.tmp 5) = .int .i64 (k : Int) := hk 5 (by decide)
                  clear hk
                  clear hd
                  exact Yield.mv rfl ⟨Ext.refl _, e5⟩
                · intro ev wy hp hl hk hd
                  have e41 : ev (.tmp 41) = .slice (some ⟨b2, off2, none⟩) D2.length cap4 := hk 41 (by decide)
                  have e42 : ev (.tmp 42) = .int .i64 (k : Int) := hk 42 (by decide)
                  clear hk
                  clear hd
                  exact Yield.op (w' := wy) (by simp [execOp, go_sem, e41, e42]; omega) ⟨Ext.refl _, rfl⟩
                · intro ev wy hp hl hk hd
                  have e43 : ev (.tmp 43) = .pointer (some ⟨b2, off2 + k, none⟩) := hk 43 (by decide)
                  clear hk
                  clear hd
                  exact Yield.load rfl e43 (by simp [go_sem, HC2.out wy hl]) ⟨Ext.refl _, rfl⟩
                · intro ev wy hp hl hk hd
                  have e39 : ev (.tmp 39) = .slice ax D[k].length cx := hk 39 (by decide)
                  have e44 : ev (.tmp 44) = .slice ay D2[k].length cy := hk 44 (by decide)
                  clear hk
                  clear hd
                  refine Yield.call rfl hp Tryz.func24 rfl (by kernel_rfl) ?_
                  simp only [List.map_toArray, List.map_cons, List.map_nil, e39, e44]
                  exact ((HEQ.out wy hl)).mono fun _ _ ⟨he, hb⟩ => ⟨_, he, hb, by first | rfl | simp⟩
                · intro ev wy hp hl hk hd
                  have e45 : ev (.tmp 45) = .bool true := hk 45 (by decide)
                  clear hk
                  clear hd
                  exact Yield.op (v := .bool false) (w' := wy) (by simp [execOp, go_sem, e45]) ⟨Ext.refl _, rfl⟩
              · intro vals wz hz hv
                have g35 : vals 0 = .pointer (some ⟨q, 2, none⟩) := hv 0 (by decide)
                have g36 : vals 1 = .slice (some ⟨b, off, none⟩) D.length cap2 := hv 1 (by decide)
                have g37 : vals 2 = .int .i64 (k : Int) := hv 2 (by decide)
                have g38 : vals 3 = .pointer (some ⟨b, off + k, none⟩) := hv 3 (by decide)
                have g39 : vals 4 = .slice ax D[k].length cx := hv 4 (by decide)
                have g40 : vals 5 = .pointer (some ⟨q + 1, 2, none⟩) := hv 5 (by decide)
                have g41 : vals 6 = .slice (some ⟨b2, off2, none⟩) D2.length cap4 := hv 6 (by decide)
                have g42 : vals 7 = .int .i64 (k : Int) := hv 7 (by decide)
                have g43 : vals 8 = .pointer (some ⟨b2, off2 + k, none⟩) := hv 8 (by decide)
                have g44 : vals 9 = .slice ay D2[k].length cy := hv 9 (by decide)
                have g45 : vals 10 = .bool true := hv 10 (by decide)
                have g46 : vals 11 = .bool false := hv 11 (by decide)
                clear hv
                simp only [putAll, Act.put, List.setIfInBounds_toArray, List.set_cons_zero, List.set_cons_succ, g35, g36, g37, g38, g39, g40, g41, g42, g43, g44, g45, g46]
                clear g35
                clear g36
                clear g37
                clear g38
                clear g39
                clear g40
                clear g41
                clear g42
                clear g43
                clear g44
                clear g45
                clear g46
                go_wp2_with fail
                go_roundw
                case rel =>
                  refine ⟨k + 1, by omega, by go_num, fun i hi h1 h2 => ?_, hE.trans hz⟩
                  rcases Nat.lt_or_ge i k with h | h
                  · exact hr.out i h h1 h2
                  · obtain rfl : i = k := by omega
                    exact H0.out
                case measure => simp [intOf]; omega
            | false =>
              have H0 := Lib.hid h0
              have HEQ := Lib.hid (fun (wy : World) (h : Ext wr wy) => h0 ▸ equal3_any _ _ D[k] D2[k] wy (HX.out.below h) (HY.out.below h))
              clear h0
              go_wp2_with fail
              refine wp_region_facts (by kernel_rfl) Ext (fun iop v w => match iop with
                  | 0 => v = .pointer (some ⟨q, 2, none⟩)
                  | 1 => v = .slice (some ⟨b, off, none⟩) D.length cap2
                  | 2 => v = .int .i64 (k : Int)
                  | 3 => v = .pointer (some ⟨b, off + k, none⟩)
                  | 4 => v = .slice ax D[k].length cx
                  | 5 => v = .pointer (some ⟨q + 1, 2, none⟩)
                  | 6 => v = .slice (some ⟨b2, off2, none⟩) D2.length cap4
                  | 7 => v = .int .i64 (k : Int)
                  | 8 => v = .pointer (some ⟨b2, off2 + k, none⟩)
                  | 9 => v = .slice ay D2[k].length cy
                  | 10 => v = .bool false
                  | _ => v = .bool true
                  ) (by kernel_rfl) (fun _ _ _ h k => Ext.trans h k) (fun a => Ext.refl a) (Ext.drew _) ?_ ?_ ?_
              · intro iop v wa wb hF hL
                cases iop with
                | zero => exact hF
                | succ iop =>
                  cases iop with
                  | zero => exact hF
                  | succ iop =>
                    cases iop with
                    | zero => exact hF
                    | succ iop =>
                      cases iop with
                      | zero => exact hF
                      | succ iop =>
                        cases iop with
                        | zero => exact hF
                        | succ iop =>
                          cases iop with
                          | zero => exact hF
                          | succ iop =>
                            cases iop with
                            | zero => exact hF
                            | succ iop =>
                              cases iop with
                              | zero => exact hF
                              | succ iop =>
                                cases iop with
                                | zero => exact hF
                                | succ iop =>
                                  cases iop with
                                  | zero => exact hF
                                  | succ iop =>
                                    cases iop with
                                    | zero => exact hF
                                    | succ iop =>
                                      exact hF
              · refine Obls.cons ?_ (Obls.cons ?_ (Obls.cons ?_ (Obls.cons ?_ (Obls.cons ?_ (Obls.cons ?_ (Obls.cons ?_ (Obls.cons ?_ (Obls.cons ?_ (Obls.cons ?_ (Obls.cons ?_ (Obls.cons ?_ (Obls.nil))))))))))))
                · intro ev wy hp hl hk hd
                  have e2 : ev (.tmp 2) = .pointer (some ⟨q, 0, none⟩) := hk 2 (by decide)
                  clear hk
                  clear hd
                  exact Yield.op (v := .pointer (some ⟨q, 2, none⟩)) (w' := wy) (by simp [execOp, go_sem, e2]) ⟨Ext.refl _, rfl⟩
                · intro ev wy hp hl hk hd
                  have e35 : ev (.tmp 35) = .pointer (some ⟨q, 2, none⟩) := hk 35 (by decide)
                  clear hk
                  clear hd
                  exact Yield.load rfl e35 (by simp [go_sem, (A3.out.ext hl).cells.2.2]) ⟨Ext.refl _, rfl⟩
                · intro ev wy hp hl hk hd
                  have e5 : ev (.tmp 5) = .int .i64 (k : Int) := hk 5 (by decide)
                  clear hk
                  clear hd
                  exact Yield.mv rfl ⟨Ext.refl _, e5⟩
                · intro ev wy hp hl hk hd
                  have e36 : ev (.tmp 36) = .slice (some ⟨b, off, none⟩) D.length cap2 := hk 36 (by decide)
                  have e37 : ev (.tmp 37) = .int .i64 (k : Int) := hk 37 (by decide)
                  clear hk
                  clear hd
                  exact Yield.op (w' := wy) (by simp [execOp, go_sem, e36, e37]; omega) ⟨Ext.refl _, rfl⟩
                · intro ev wy hp hl hk hd
                  have e38 : ev (.tmp 38) = .pointer (some ⟨b, off + k, none⟩) := hk 38 (by decide)
                  clear hk
                  clear hd
                  exact Yield.load rfl e38 (by simp [go_sem, HC1.out wy hl]) ⟨Ext.refl _, rfl⟩
                · intro ev wy hp hl hk hd
                  have e3 : ev (.tmp 3) = .pointer (some ⟨q + 1, 0, none⟩) := hk 3 (by decide)
                  clear hk
                  clear hd
                  exact Yield.op (v := .pointer (some ⟨q + 1, 2, none⟩)) (w' := wy) (by simp [execOp, go_sem, e3]) ⟨Ext.refl _, rfl⟩
                · intro ev wy hp hl hk hd
                  have e40 : ev (.tmp 40) = .pointer (some ⟨q + 1, 2, none⟩) := hk 40 (by decide)
                  clear hk
                  clear hd
                  exact Yield.load rfl e40 (by simp [go_sem, (B3.out.ext hl).cells.2.2]) ⟨Ext.refl _, rfl⟩
                · intro ev wy hp hl hk hd
                  have e5 : ev (.tmp 5) = .int .i64 (k : Int) := hk 5 (by decide)
                  clear hk
                  clear hd
                  exact Yield.mv rfl ⟨Ext.refl _, e5⟩
                · intro ev wy hp hl hk hd
                  have e41 : ev (.tmp 41) = .slice (some ⟨b2, off2, none⟩) D2.length cap4 := hk 41 (by decide)
                  have e42 : ev (.tmp 42) = .int .i64 (k : Int) := hk 42 (by decide)
                  clear hk
                  clear hd
                  exact Yield.op (w' := wy) (by simp [execOp, go_sem, e41, e42]; omega) ⟨Ext.refl _, rfl⟩
                · intro ev wy hp hl hk hd
                  have e43 : ev (.tmp 43) = .pointer (some ⟨b2, off2 + k, none⟩) := hk 43 (by decide)
                  clear hk
                  clear hd
                  exact Yield.load rfl e43 (by simp [go_sem, HC2.out wy hl]) ⟨Ext.refl _, rfl⟩
                · intro ev wy hp hl hk hd
                  have e39 : ev (.tmp 39) = .slice ax D[k].length cx := hk 39 (by decide)
                  have e44 : ev (.tmp 44) = .slice ay D2[k].length cy := hk 44 (by decide)
                  clear hk
                  clear hd
                  refine Yield.call rfl hp Tryz.func24 rfl (by kernel_rfl) ?_
                  simp only [List.map_toArray, List.map_cons, List.map_nil, e39, e44]
                  exact ((HEQ.out wy hl)).mono fun _ _ ⟨he, hb⟩ => ⟨_, he, hb, by first | rfl | simp⟩
                · intro ev wy hp hl hk hd
                  have e45 : ev (.tmp 45) = .bool false := hk 45 (by decide)
                  clear hk
                  clear hd
                  exact Yield.op (v := .bool true) (w' := wy) (by simp [execOp, go_sem, e45]) ⟨Ext.refl _, rfl⟩
              · intro vals wz hz hv
                have g35 : vals 0 = .pointer (some ⟨q, 2, none⟩) := hv 0 (by decide)
                have g36 : vals 1 = .slice (some ⟨b, off, none⟩) D.length cap2 := hv 1 (by decide)
                have g37 : vals 2 = .int .i64 (k : Int) := hv 2 (by decide)
                have g38 : vals 3 = .pointer (some ⟨b, off + k, none⟩) := hv 3 (by decide)
                have g39 : vals 4 = .slice ax D[k].length cx := hv 4 (by decide)
                have g40 : vals 5 = .pointer (some ⟨q + 1, 2, none⟩) := hv 5 (by decide)
                have g41 : vals 6 = .slice (some ⟨b2, off2, none⟩) D2.length cap4 := hv 6 (by decide)
                have g42 : vals 7 = .int .i64 (k : Int) := hv 7 (by decide)
                have g43 : vals 8 = .pointer (some ⟨b2, off2 + k, none⟩) := hv 8 (by decide)
                have g44 : vals 9 = .slice ay D2[k].length cy := hv 9 (by decide)
                have g45 : vals 10 = .bool false := hv 10 (by decide)
                have g46 : vals 11 = .bool true := hv 11 (by decide)
                clear hv
                simp only [putAll, Act.put, List.setIfInBounds_toArray, List.set_cons_zero, List.set_cons_succ, g35, g36, g37, g38, g39, g40, g41, g42, g43, g44, g45, g46]
                clear g35
                clear g36
                clear g37
                clear g38
                clear g39
                clear g40
                clear g41
                clear g42
                clear g43
                clear g44
                clear g45
                clear g46
                go_wp2_with fail
                go_ret
                exact ⟨by rw [HR.out, rowsNe k hlt hlt2 H0.out]; rfl, (e2.trans hE).trans hz⟩
          · have hs := Lib.hid (rowsSame HL.out (fun i h => hr.out i (by omega)))
            clear hr
            go_wp2_with fail
            go_ret
            exact ⟨by rw [HR.out, hs.out]; rfl, e2.trans hE⟩
      · have hl' : ((D.length : Int) != (D2.length : Int)) = true := by rw [bne_iff_ne]; omega
        have HL := Lib.hid (rowsOther hl)
        clear hl
        go_enter Tryz.func16, Tryz.ntmps16
        go_wp2_with fail
        refine (equal3_any _ _ S S2 _ (HS.out.below hE0) (HS2.out.below hE0)).mono ?_
        rw [HQ.out]
        rintro e w2 ⟨rfl, hE2⟩
        have e2 := hE0.trans hE2
        obtain ⟨c0, c1, c2⟩ := ConfAt.cells (heap_ext HH.out.1 hE2)
        obtain ⟨d0, d1, d2⟩ := ConfAt.cells (heap_ext HH.out.2 hE2)
        go_wp2_with fail
        go_ret
        exact ⟨by rw [HR.out, HL.out]; rfl, e2⟩
end Go.Proofs.YtpfodkgncachiaaGreat
