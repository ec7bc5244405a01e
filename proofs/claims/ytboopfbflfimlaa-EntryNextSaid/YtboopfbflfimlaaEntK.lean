/-
  Layer 5: may an entry stand behind others: the document's own answer.
-/
import Derived.Test.YtboopfbflfimlaaEntJ
namespace Go.Proofs.Ytboopfbflfimlaa
set_option linter.unusedSimpArgs false
set_option linter.unusedVariables false
set_option maxRecDepth 100000
open Go.RowKit

theorem Ent.follows_of (d : List Ent.E) (e : Ent.E) (h1 : Ent.right e = true) (h2 : e.number = (d.length : Int) + 1) : Ent.follows d e = (!decide (e.kind = 1) || Ent.coversLast (Ent.lastCut d) e.cut) := by
  unfold Ent.follows
  rw [h1, decide_eq_true h2]
  rfl

set_option maxHeartbeats 8000000 in
theorem refFollows5_any (v u : Value) (l : List Ent.E) (e : Ent.E) (w : World) (hv : Ents w v l) (hu : IsEnt w u e) (hl : l.length ≤ 4611686018427387904) :
    Calls Try.prog 51 #[v, u] w fun x w' => x = .returned (.bool (Ent.follows l e)) ∧ Ext w w' := by
  have hbx := box_entR
  have hr5 := fun w1 hv => refRight5_any u e w1 hv
  have HV := Lib.hid hv
  have HU := Lib.hid hu
  obtain ⟨a, cap, rfl, hcap, hmax⟩ := hv.shape
  obtain ⟨u, rfl, ht⟩ := hu
  obtain ⟨n, k, c, t, m, p⟩ := e
  unfold entV at *
  simp only at ht hr5 ⊢
  obtain ⟨a2, cap2, rfl, hcap2, hmax2, _, _⟩ := ht.open
  unfold maxLen at hmax2
  have HT := Lib.hid ht
  clear ht hv
  have hE0 : Ext w (w.alloc (.cells #[.int .i64 n, .int .i64 k, .slice a2 c.length cap2, .int .i64 t, .int .i64 m, .int .i64 p] 26)) := Ext.alloc _ _
  have HX0 := Lib.hid (EntAt.new 26 w (.slice a2 c.length cap2) ⟨n, k, c, t, m, p⟩)
  have hl63 : (l.length : Int) + 1 ≤ 9223372036854775807 := by omega
  cases hr : Ent.right ⟨n, k, c, t, m, p⟩ with
  | false =>
    have HF := Lib.hid (show Ent.follows l ⟨n, k, c, t, m, p⟩ = false by unfold Ent.follows; rw [hr]; rfl)
    have HR := Lib.hid hr
    clear hr
    go_enter Try.func51, Try.ntmps51
    go_wp2_with fail
    refine (hr5 _ (HU.out.below hE0)).mono ?_
    rw [HR.out]
    rintro e w1 ⟨rfl, hE1⟩
    go_wp2_with fail
    go_ret
    exact ⟨by rw [HF.out]; rfl, hE0.trans hE1⟩
  | true =>
    by_cases hn : n = (l.length : Int) + 1
    · subst hn
      have HF := Lib.hid (Ent.follows_of l _ hr rfl)
      have HR := Lib.hid hr
      clear hr
      go_enter Try.func51, Try.ntmps51
      go_wp2_with fail
      refine (hr5 _ (HU.out.below hE0)).mono ?_
      rw [HR.out]
      rintro e w1 ⟨rfl, hE1⟩
      have HX := Lib.hid (HX0.out.ext hE1)
      obtain ⟨c0, c1, c2, c3, c4, c5⟩ := HX.out.cells
      have e1 := hE0.trans hE1
      go_wp2_with fail
      generalize hq : w.heap.size = q at *
      have HQ := Lib.hid hq
      clear hq c0 c1 c2 c3 c4 c5
      go_loopw [5] (fun i wr => ∃ j : Nat, j ≤ l.length ∧ i = .int .i64 (prevI j) ∧ Hid (∀ x ∈ l.drop j, x.kind ≠ 1) ∧ Ext w1 wr) (fun i _ => (intOf i + 1).toNat)
      case atStart => exact ⟨l.length, Nat.le_refl _, by unfold prevI; rfl, Lib.hid (fun x hx => by rw [List.drop_length] at hx; cases hx), Ext.refl _⟩
      case round =>
        obtain ⟨j, hj, rfl, hbe, hE⟩ := hrel
        obtain ⟨c0, c1, c2, c3, c4, c5⟩ := (HX.out.ext hE).cells
        by_cases k1 : k = 1
        · subst k1
          cases j with
          | zero =>
            have hi : prevI 0 = -1 := rfl
            rw [hi]
            have HG := Lib.hid (show Ent.follows l ⟨(l.length : Int) + 1, 1, c, t, m, p⟩ = true by rw [HF.out, Ent.lastCut_drop hbe.out]; rfl)
            go_wp2_with fail
            go_ret
            exact ⟨by rw [HG.out]; rfl, e1.trans hE⟩
          | succ j =>
            have hi : prevI (j + 1) = (j : Int) := by unfold prevI; omega
            rw [hi]
            have hi2 : ∀ x : Value, x = .int .i64 ((j : Int) - 1) → x = .int .i64 (prevI j) := fun x h => h
            have hlt : j < l.length := by omega
            obtain ⟨a', cap', e', _, _, _, hc⟩ := HV.out.below (e1.trans hE)
            obtain ⟨b, off, rfl, tj, p0, p1, p2, p3, p4, p5, htj⟩ := hc j hlt
            injection e' with e1' e2' e3'
            subst e1'
            clear hc e2' e3'
            obtain ⟨a3, cap3, rfl, hcap3, hmax3, _, _⟩ := htj.open
            have hat := fun hk => Ent.lastCut_at l j hlt hk hbe.out
            have hdk := fun hk => Ent.drop_kinds hlt hk hbe.out
            have HTJ := Lib.hid htj
            generalize l[j] = R at *
            obtain ⟨nj, kj, cj, tgj, mj, pj⟩ := R
            simp only at *
            have HAT := Lib.hid hat
            have HDK := Lib.hid hdk
            clear hat hdk htj
            by_cases kj1 : kj = 1
            · subst kj1
              have HG := Lib.hid (show Ent.follows l ⟨(l.length : Int) + 1, 1, c, t, m, p⟩ = Vec.covers c cj by rw [HF.out, HAT.out rfl]; rfl)
              obtain ⟨V, hV⟩ : ∃ V, Vec.covers c cj = V := ⟨_, rfl⟩
              have HVV := Lib.hid hV
              clear hV
              have HEnt := Lib.hid (HX.out.ext hE)
              have HP2 := Lib.hid p2
              have hlt2 : b < wr.heap.size := World.block_lt_of_cell? _ _ p2
              have HC := Lib.hid (HT.out.below (e1.trans hE))
              go_wp2_with fail
              clear c0 c1 c2 c3 c4 c5 p0 p1 p2 p3 p4 p5
              refine wp_region_facts (by kernel_rfl) Ext (fun iop v w => match iop with
                  | 0 => v = .pointer (some ⟨q, 2, none⟩)
                  | 1 => v = .slice a2 c.length cap2
                  | 2 => v = .slice (some ⟨b, off, none⟩) l.length cap
                  | 3 => v = .int .i64 (j : Int)
                  | 4 => v = .pointer (some ⟨b, off + j * 6, none⟩)
                  | 5 => v = .pointer (some ⟨b, off + j * 6 + 2, none⟩)
                  | 6 => v = .slice a3 cj.length cap3
                  | 7 => v = .bool V
                  | _ => v = .bool V
                  ) (by kernel_rfl) (fun _ _ _ h k => Ext.trans h k) (fun a => Ext.refl a) (Ext.drew _) ?_ ?_ ?_
              · intro iop v wa wb hF hL
                cases iop with
                | zero => exact hF
                | succ iop =>
                  cases iop with
                  | zero => exact hF
                  | succ iop =>
                    cases iop with
                    | zero => exact hF
                    | succ iop =>
                      cases iop with
                      | zero => exact hF
                      | succ iop =>
                        cases iop with
                        | zero => exact hF
                        | succ iop =>
                          cases iop with
                          | zero => exact hF
                          | succ iop =>
                            cases iop with
                            | zero => exact hF
                            | succ iop =>
                              cases iop with
                              | zero => exact hF
                              | succ iop =>
                                exact hF
              · refine Obls.cons ?_ (Obls.cons ?_ (Obls.cons ?_ (Obls.cons ?_ (Obls.cons ?_ (Obls.cons ?_ (Obls.cons ?_ (Obls.cons ?_ (Obls.cons ?_ (Obls.nil)))))))))
                · intro ev wy hp hl hk hd
                  have e3 : ev (.tmp 3) = .pointer (some ⟨q, 0, none⟩) := hk 3 (by decide)
                  clear hk
                  clear hd
                  exact Yield.op (v := .pointer (some ⟨q, 2, none⟩)) (w' := wy) (by simp [execOp, go_sem, e3]) ⟨Ext.refl _, rfl⟩
                · intro ev wy hp hl hk hd
                  have e35 : ev (.tmp 35) = .pointer (some ⟨q, 2, none⟩) := hk 35 (by decide)
                  clear hk
                  clear hd
                  exact Yield.load rfl e35 (ldInts (HEnt.out.ext hl).cells.2.2.1) ⟨Ext.refl _, rfl⟩
                · intro ev wy hp hl hk hd
                  have e0 : ev (.tmp 0) = .slice (some ⟨b, off, none⟩) l.length cap := hk 0 (by decide)
                  clear hk
                  clear hd
                  exact Yield.mv rfl ⟨Ext.refl _, e0⟩
                · intro ev wy hp hl hk hd
                  have e5 : ev (.tmp 5) = .int .i64 (j : Int) := hk 5 (by decide)
                  clear hk
                  clear hd
                  exact Yield.mv rfl ⟨Ext.refl _, e5⟩
                · intro ev wy hp hl hk hd
                  have e37 : ev (.tmp 37) = .slice (some ⟨b, off, none⟩) l.length cap := hk 37 (by decide)
                  have e38 : ev (.tmp 38) = .int .i64 (j : Int) := hk 38 (by decide)
                  clear hk
                  clear hd
                  exact Yield.op (w' := wy) (by simp [execOp, go_sem, e37, e38]; intro h; omega) ⟨Ext.refl _, rfl⟩
                · intro ev wy hp hl hk hd
                  have e39 : ev (.tmp 39) = .pointer (some ⟨b, off + j * 6, none⟩) := hk 39 (by decide)
                  clear hk
                  clear hd
                  exact Yield.op (v := .pointer (some ⟨b, off + j * 6 + 2, none⟩)) (w' := wy) (by simp [execOp, go_sem, e39]) ⟨Ext.refl _, rfl⟩
                · intro ev wy hp hl hk hd
                  have e40 : ev (.tmp 40) = .pointer (some ⟨b, off + j * 6 + 2, none⟩) := hk 40 (by decide)
                  clear hk
                  clear hd
                  exact Yield.load rfl e40 (ldInts ((hl.cell (p := ⟨b, off + j * 6 + 2, none⟩) hlt2).trans HP2.out)) ⟨Ext.refl _, rfl⟩
                · intro ev wy hp hl hk hd
                  have e36 : ev (.tmp 36) = .slice a2 c.length cap2 := hk 36 (by decide)
                  have e41 : ev (.tmp 41) = .slice a3 cj.length cap3 := hk 41 (by decide)
                  clear hk
                  clear hd
                  refine Yield.call rfl hp Try.func70 rfl (by kernel_rfl) ?_
                  simp only [List.map_toArray, List.map_cons, List.map_nil, e36, e41]
                  exact ((HVV.out ▸ refCovers_any _ _ c cj wy (HC.out.below hl) (HTJ.out.below hl))).mono fun _ _ ⟨he, hb⟩ => ⟨_, he, hb, by first | rfl | simp⟩
                · intro ev wy hp hl hk hd
                  have e42 : ev (.tmp 42) = .bool V := hk 42 (by decide)
                  clear hk
                  clear hd
                  exact Yield.as rfl ⟨Ext.refl _, e42⟩
              · intro vals wz hz hv
                have g35 : vals 0 = .pointer (some ⟨q, 2, none⟩) := hv 0 (by decide)
                have g36 : vals 1 = .slice a2 c.length cap2 := hv 1 (by decide)
                have g37 : vals 2 = .slice (some ⟨b, off, none⟩) l.length cap := hv 2 (by decide)
                have g38 : vals 3 = .int .i64 (j : Int) := hv 3 (by decide)
                have g39 : vals 4 = .pointer (some ⟨b, off + j * 6, none⟩) := hv 4 (by decide)
                have g40 : vals 5 = .pointer (some ⟨b, off + j * 6 + 2, none⟩) := hv 5 (by decide)
                have g41 : vals 6 = .slice a3 cj.length cap3 := hv 6 (by decide)
                have g42 : vals 7 = .bool V := hv 7 (by decide)
                have g4 : vals 8 = .bool V := hv 8 (by decide)
                clear hv
                simp only [putAll, Act.put, List.setIfInBounds_toArray, List.set_cons_zero, List.set_cons_succ, g35, g36, g37, g38, g39, g40, g41, g42, g4]
                clear g35
                clear g36
                clear g37
                clear g38
                clear g39
                clear g40
                clear g41
                clear g42
                clear g4
                go_wp2_with fail
                go_ret
                exact ⟨by rw [HG.out, HVV.out]; rfl, (e1.trans hE).trans hz⟩
            · have hkb : (kj == 1) = false := beq_eq_false_iff_ne.2 kj1
              have HD := Lib.hid (HDK.out kj1)
              go_wp2_with fail
              go_roundw
              case rel => exact ⟨j, by omega, hi2 _ (by go_num), HD, hE⟩
              case measure => simp [intOf]
        · have hkb : (k == 1) = false := beq_eq_false_iff_ne.2 k1
          have HG := Lib.hid (show Ent.follows l ⟨(l.length : Int) + 1, k, c, t, m, p⟩ = true by rw [HF.out, decide_eq_false k1]; rfl)
          cases j with
          | zero =>
            have hi : prevI 0 = -1 := rfl
            rw [hi]
            go_wp2_with fail
            go_ret
            exact ⟨by rw [HG.out]; rfl, e1.trans hE⟩
          | succ j =>
            have hi : prevI (j + 1) = (j : Int) := by unfold prevI; omega
            rw [hi]
            go_wp2_with fail
            go_ret
            exact ⟨by rw [HG.out]; rfl, e1.trans hE⟩
    · have HF := Lib.hid (show Ent.follows l ⟨n, k, c, t, m, p⟩ = false by unfold Ent.follows; rw [decide_eq_false hn]; simp)
      have hnb : (n != (l.length : Int) + 1) = true := by simp [hn]
      clear hl63
      have HR := Lib.hid hr
      clear hr
      go_enter Try.func51, Try.ntmps51
      go_wp2_with fail
      refine (hr5 _ (HU.out.below hE0)).mono ?_
      rw [HR.out]
      rintro e w1 ⟨rfl, hE1⟩
      obtain ⟨c0, c1, c2, c3, c4, c5⟩ := (HX0.out.ext hE1).cells
      go_wp2_with fail
      go_ret
      exact ⟨by rw [HF.out]; rfl, hE0.trans hE1⟩
end Go.Proofs.Ytboopfbflfimlaa
