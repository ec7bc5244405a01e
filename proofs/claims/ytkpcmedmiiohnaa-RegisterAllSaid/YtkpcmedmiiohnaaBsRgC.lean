/-
  Merged: Layer 14, the program: First, Current, at, Start.
-/
import Derived.Test.YtkpcmedmiiohnaaBsEnt
import Derived.Test.YtkpcmedmiiohnaaBsEnt2
import Derived.Test.YtkpcmedmiiohnaaBsRgB

namespace Go.Proofs.Ytkpcmedmiiohnaa
set_option linter.unusedSimpArgs false
set_option linter.unusedVariables false
set_option maxRecDepth 100000
open Go.RowKit
/- Layer 14, the program: First, Current, at, Start; ownTail. -/
theorem IsReg.firstCell {w : World} {B p : Nat} {R : List Reg.Row} (h : IsReg w B p R) : ∃ g c n, w.heap[p]? = some (.cells #[.slice (some ⟨g, 0, none⟩) (n + 1) c] 71 (0, 0)) ∧ R.length = n + 1 ∧ n + 1 ≤ c ∧ c ≤ 9223372036854775807 ∧ w.cell? ⟨g, 0, none⟩ = some (.int .i64 (Reg.first R)) := by
  obtain ⟨g, c, L, h1, h2, h3, _, hl, _, hR, hc⟩ := h.open
  have hne := h.ok.ne
  obtain ⟨n, hn⟩ : ∃ n, R.length = n + 1 := ⟨R.length - 1, by omega⟩
  have h0 := (hc 0 (by omega)).1
  rw [hn] at h1 h2
  refine ⟨g, c, n, h1, hn, h2, h3, ?_⟩
  rw [Nat.zero_mul] at h0
  rw [h0, h.ok.first_is]
  subst hR
  simp
theorem first14_any {w : World} {B p : Nat} {R : List Reg.Row} (h : IsReg w B p R) : Calls Try.prog 20 #[.pointer (some ⟨p, 0, none⟩)] w fun e w' => e = .returned (.int .i64 (Reg.first R)) ∧ w = w' := by
  obtain ⟨g, c, n, h1, h2, h3, h4, h5⟩ := h.firstCell
  have hc := cell_of_heap h1 0
  simp only [List.getElem?_toArray, List.getElem?_cons_zero] at hc
  obtain ⟨F, hF⟩ : ∃ z, Reg.first R = z := ⟨_, rfl⟩
  rw [hF] at h5 ⊢
  clear h h1 h2 hF
  go_enter Try.func20, Try.ntmps20
  go_wp2_with fail
  go_ret
  exact ⟨rfl, rfl⟩
theorem firstE14 {w : World} {B p : Nat} {R : List Reg.Row} (h : IsReg w B p R) (wy : World) (hy : Ext w wy) : Calls Try.prog 20 #[.pointer (some ⟨p, 0, none⟩)] wy fun e w' => e = .returned (.int .i64 (Reg.first R)) ∧ Ext wy w' := (first14_any (h.ext hy)).mono fun e w' q => ⟨q.1, q.2 ▸ Ext.refl wy⟩
theorem current14_any {w : World} {B p : Nat} {R : List Reg.Row} (h : IsReg w B p R) : Calls Try.prog 17 #[.pointer (some ⟨p, 0, none⟩)] w fun e w' => e = .returned (.int .i64 (Reg.current R)) ∧ Ext w w' := by
  obtain ⟨g, c, n, h1, h2, h3, h4, h5⟩ := h.firstCell
  have HF := Lib.hid (firstE14 h)
  have H1 := Lib.hid h1
  have hb := h.ok.first_pos
  have hcur : Reg.current R = Reg.first R + (n : Int) := by unfold Reg.current; rw [h2]; omega
  rw [hcur] at hb ⊢
  obtain ⟨F, hF⟩ : ∃ z, Reg.first R = z := ⟨_, rfl⟩
  rw [hF] at hb HF ⊢
  have HW1 := Lib.hid (show IntKind.i64.wrap (F + ((n : Int) + 1)) = F + ((n : Int) + 1) from IntWalk.i64_in _ (by omega))
  have HW2 := Lib.hid (show IntKind.i64.wrap (F + ((n : Int) + 1) - 1) = F + (n : Int) by rw [show F + ((n : Int) + 1) - 1 = F + (n : Int) by omega]; exact IntWalk.i64_in _ (by omega))
  clear h h1 h2 h5 hF hcur hb
  go_enter Try.func17, Try.ntmps17
  go_wp2_with fail
  refine wp_region_facts (by kernel_rfl) Ext (fun iop v w => match iop with
      | 0 => v = .pointer (some ⟨p, 0, none⟩)
      | 1 => v = .int .i64 F
      | 2 => v = .pointer (some ⟨p, 0, none⟩)
      | 3 => v = .pointer (some ⟨p, 0, none⟩)
      | 4 => v = .pointer (some ⟨p, 0, none⟩)
      | 5 => v = .slice (some ⟨g, 0, none⟩) (n + 1) c
      | 6 => v = .int .i64 ((n : Int) + 1)
      | 7 => v = .int .i64 (F + ((n : Int) + 1))
      | 8 => v = .int .i64 (F + (n : Int))
      | _ => v = .int .i64 (F + (n : Int))
      ) (by kernel_rfl) (fun _ _ _ h k => Ext.trans h k) (fun a => Ext.refl a) (Ext.drew _) ?_ ?_ ?_
  · intro iop v wa wb hF hL
    iterate 9 (rcases iop with _ | iop; exact hF)
    exact hF
  · refine Obls.cons ?_ (Obls.cons ?_ (Obls.cons ?_ (Obls.cons ?_ (Obls.cons ?_ (Obls.cons ?_ (Obls.cons ?_ (Obls.cons ?_ (Obls.cons ?_ (Obls.cons ?_ (Obls.nil))))))))))
    · intro ev wy hp hl hk hd
      have e0 : ev _ = .pointer (some ⟨p, 0, none⟩) := hk 0 (by decide)
      exact Yield.mv rfl ⟨Ext.refl _, e0⟩
    · intro ev wy hp hl hk hd
      have e3 : ev _ = _ := hk 3 (by decide)
      refine Yield.call rfl hp Try.func20 rfl (by kernel_rfl) ?_
      simp only [List.map_toArray, List.map_cons, List.map_nil, e3]
      exact (HF.out wy hl).mono fun _ _ ⟨he, hb⟩ => ⟨_, he, hb, by first | rfl | simp⟩
    · intro ev wy hp hl hk hd
      have e0 : ev _ = .pointer (some ⟨p, 0, none⟩) := hk 0 (by decide)
      exact Yield.mv rfl ⟨Ext.refl _, e0⟩
    · intro ev wy hp hl hk hd
      have e5 : ev _ = _ := hk 5 (by decide)
      exact Yield.oq (by simp [execOp, go_sem, e5])
    · intro ev wy hp hl hk hd
      have e6 : ev _ = _ := hk 6 (by decide)
      exact Yield.oq (by simp [execOp, go_sem, e6])
    · intro ev wy hp hl hk hd
      have e7 : ev _ = _ := hk 7 (by decide)
      exact Yield.op (v := .slice (some ⟨g, 0, none⟩) (n + 1) c) (w' := wy) (by simp [execOp, go_sem, e7, cell_of_heap (heap_ext H1.out hl) 0]) ⟨Ext.refl _, rfl⟩
    · intro ev wy hp hl hk hd
      have e8 : ev _ = _ := hk 8 (by decide)
      exact Yield.op (v := .int .i64 ((n : Int) + 1)) (w' := wy) (by simp [execOp, go_sem, e8]) ⟨Ext.refl _, rfl⟩
    · intro ev wy hp hl hk hd
      have e4 : ev _ = _ := hk 4 (by decide)
      have e9 : ev _ = _ := hk 9 (by decide)
      exact Yield.op (v := .int .i64 (F + ((n : Int) + 1))) (w' := wy) (by simp [execOp, go_sem, e4, e9]; exact HW1.out) ⟨Ext.refl _, rfl⟩
    · intro ev wy hp hl hk hd
      have e10 : ev _ = _ := hk 10 (by decide)
      exact Yield.op (v := .int .i64 (F + (n : Int))) (w' := wy) (by simp only [execOp, e10, hp.const]; simp [go_sem]; exact HW2.out) ⟨Ext.refl _, rfl⟩
    · intro ev wy hp hl hk hd
      have e11 : ev _ = _ := hk 11 (by decide)
      exact Yield.as rfl ⟨Ext.refl _, e11⟩
  · intro vals wz hz hv
    have g3 : vals 0 = _ := hv 0 (by decide)
    have g4 : vals 1 = _ := hv 1 (by decide)
    have g5 : vals 2 = _ := hv 2 (by decide)
    have g6 : vals 3 = _ := hv 3 (by decide)
    have g7 : vals 4 = _ := hv 4 (by decide)
    have g8 : vals 5 = _ := hv 5 (by decide)
    have g9 : vals 6 = _ := hv 6 (by decide)
    have g10 : vals 7 = _ := hv 7 (by decide)
    have g11 : vals 8 = _ := hv 8 (by decide)
    have g2 : vals 9 = _ := hv 9 (by decide)
    clear hv
    simp only [putAll, Act.put, List.setIfInBounds_toArray, List.set_cons_zero, List.set_cons_succ, g3, g4, g5, g6, g7, g8, g9, g10, g11, g2]
    clear g3 g4 g5 g6 g7 g8 g9 g10 g11 g2
    go_wp2_with fail
    go_ret
    exact ⟨rfl, hz⟩
/-- Where a term's row lies. -/
def atPtr14 (g : Nat) (R : List Reg.Row) (t : Int) : Option Addr := (Reg.where_ R t).map fun i => ⟨g, i * 5, none⟩
theorem at14_any {w : World} {B p g c n : Nat} {R : List Reg.Row} (t : Int) (h : IsReg w B p R) (hp : w.heap[p]? = some (.cells #[.slice (some ⟨g, 0, none⟩) n c] 71 (0, 0))) : Calls Try.prog 29 #[.pointer (some ⟨p, 0, none⟩), .int .i64 t] w fun e w' => e = .returned (.pointer (atPtr14 g R t)) ∧ Ext w w' := by
  have hnn : R.length = n ∧ n ≤ c ∧ c ≤ 9223372036854775807 := by
    obtain ⟨g', c', L, h1, h2, h3, _⟩ := h.open
    rw [hp] at h1
    injection h1 with h1
    injection h1 with h1 _ _
    simp only [Array.mk.injEq, List.cons.injEq, Value.slice.injEq] at h1
    have e := h1.1
    omega
  have HF := Lib.hid (firstE14 h)
  have HC := Lib.hid (fun (wy : World) (hy : Ext w wy) => current14_any (h.ext hy))
  have H1 := Lib.hid hp
  have hb := h.ok.first_pos
  have hcur : Reg.current R = Reg.first R + (n : Int) - 1 := by unfold Reg.current; rw [hnn.1]
  by_cases hlo : t < Reg.first R
  · have hno := (Reg.look_none (R := R) (t := t) (by omega)).1
    have HNO := Lib.hid hno
    obtain ⟨F, hF⟩ : ∃ z, Reg.first R = z := ⟨_, rfl⟩
    rw [hF] at HF hlo
    clear h hp hnn hb hcur hno hF
    go_enter Try.func29, Try.ntmps29
    go_wp2_with fail
    refine (HF.out w (Ext.refl _)).mono ?_
    rintro e w1 ⟨rfl, hE⟩
    have HE := Lib.hid hE
    clear hE
    go_wp2_with fail
    go_ret
    exact ⟨by unfold atPtr14; rw [HNO.out]; rfl, HE.out⟩
  by_cases hhi : Reg.current R < t
  · have hno := (Reg.look_none (R := R) (t := t) (by omega)).1
    have HNO := Lib.hid hno
    obtain ⟨F, hF⟩ : ∃ z, Reg.first R = z := ⟨_, rfl⟩
    obtain ⟨G, hG⟩ : ∃ z, Reg.current R = z := ⟨_, rfl⟩
    rw [hF] at HF hlo
    rw [hG] at HC hhi
    clear h hp hnn hb hcur hno hF hG
    go_enter Try.func29, Try.ntmps29
    go_wp2_with fail
    refine (HF.out w (Ext.refl _)).mono ?_
    rintro e w1 ⟨rfl, hE⟩
    have HE := Lib.hid hE
    clear hE
    go_wp2_with fail
    refine (HC.out w1 HE.out).mono ?_
    rintro e w2 ⟨rfl, hE2⟩
    have HE2 := Lib.hid (HE.out.trans hE2)
    clear hE2
    go_wp2_with fail
    go_ret
    exact ⟨by unfold atPtr14; rw [HNO.out]; rfl, HE2.out⟩
  obtain ⟨i, hi, hw, hlk, ht⟩ := h.ok.look_some (t := t) (by omega) (by omega)
  have HNO := Lib.hid hw
  have hin : i < n := by omega
  obtain ⟨F, hF⟩ : ∃ z, Reg.first R = z := ⟨_, rfl⟩
  obtain ⟨G, hG⟩ : ∃ z, Reg.current R = z := ⟨_, rfl⟩
  rw [hF] at HF hlo ht hb hcur
  rw [hG] at HC hhi hb hcur
  have HWR := Lib.hid (show IntKind.i64.wrap (t - F) = (i : Int) by rw [show t - F = (i : Int) by omega]; exact IntWalk.i64_in _ (by omega))
  have hnc := hnn.2
  clear h hp hnn hb hcur hw hF hG hlk hi ht
  go_enter Try.func29, Try.ntmps29
  go_wp2_with fail
  refine (HF.out w (Ext.refl _)).mono ?_
  rintro e w1 ⟨rfl, hE⟩
  have HE := Lib.hid hE
  clear hE
  go_wp2_with fail
  refine (HC.out w1 HE.out).mono ?_
  rintro e w2 ⟨rfl, hE2⟩
  have HE2 := Lib.hid (HE.out.trans hE2)
  clear hE2
  go_wp2_with fail
  refine wp_region_facts (by kernel_rfl) Ext (fun iop v w => match iop with
      | 0 => v = .pointer (some ⟨p, 0, none⟩)
      | 1 => v = .pointer (some ⟨p, 0, none⟩)
      | 2 => v = .pointer (some ⟨p, 0, none⟩)
      | 3 => v = .slice (some ⟨g, 0, none⟩) n c
      | 4 => v = .int .i64 t
      | 5 => v = .pointer (some ⟨p, 0, none⟩)
      | 6 => v = .int .i64 F
      | 7 => v = .int .i64 (i : Nat)
      | 8 => v = .pointer (some ⟨g, i * 5, none⟩)
      | _ => v = .pointer (some ⟨g, i * 5, none⟩)
      ) (by kernel_rfl) (fun _ _ _ h k => Ext.trans h k) (fun a => Ext.refl a) (Ext.drew _) ?_ ?_ ?_
  · intro iop v wa wb hF hL
    iterate 9 (rcases iop with _ | iop; exact hF)
    exact hF
  · refine Obls.cons ?_ (Obls.cons ?_ (Obls.cons ?_ (Obls.cons ?_ (Obls.cons ?_ (Obls.cons ?_ (Obls.cons ?_ (Obls.cons ?_ (Obls.cons ?_ (Obls.cons ?_ (Obls.nil))))))))))
    · intro ev wy hp hl hk hd
      have e0 : ev _ = .pointer (some ⟨p, 0, none⟩) := hk 0 (by decide)
      exact Yield.mv rfl ⟨Ext.refl _, e0⟩
    · intro ev wy hp hl hk hd
      have e15 : ev _ = _ := hk 15 (by decide)
      exact Yield.oq (by simp [execOp, go_sem, e15])
    · intro ev wy hp hl hk hd
      have e16 : ev _ = _ := hk 16 (by decide)
      exact Yield.oq (by simp [execOp, go_sem, e16])
    · intro ev wy hp hl hk hd
      have e17 : ev _ = _ := hk 17 (by decide)
      exact Yield.op (v := .slice (some ⟨g, 0, none⟩) n c) (w' := wy) (by simp [execOp, go_sem, e17, cell_of_heap (heap_ext H1.out (HE2.out.trans hl)) 0]) ⟨Ext.refl _, rfl⟩
    · intro ev wy hp hl hk hd
      have e1 : ev _ = .int .i64 t := hk 1 (by decide)
      exact Yield.mv rfl ⟨Ext.refl _, e1⟩
    · intro ev wy hp hl hk hd
      have e0 : ev _ = .pointer (some ⟨p, 0, none⟩) := hk 0 (by decide)
      exact Yield.mv rfl ⟨Ext.refl _, e0⟩
    · intro ev wy hp hl hk hd
      have e20 : ev _ = _ := hk 20 (by decide)
      refine Yield.call rfl hp Try.func20 rfl (by kernel_rfl) ?_
      simp only [List.map_toArray, List.map_cons, List.map_nil, e20]
      exact (HF.out wy (HE2.out.trans hl)).mono fun _ _ ⟨he, hb⟩ => ⟨_, he, hb, by first | rfl | simp⟩
    · intro ev wy hp hl hk hd
      have e19 : ev _ = _ := hk 19 (by decide)
      have e21 : ev _ = _ := hk 21 (by decide)
      exact Yield.op (v := .int .i64 (i : Nat)) (w' := wy) (by simp [execOp, go_sem, e19, e21]; exact HWR.out) ⟨Ext.refl _, rfl⟩
    · intro ev wy hp hl hk hd
      have e18 : ev _ = _ := hk 18 (by decide)
      have e22 : ev _ = _ := hk 22 (by decide)
      exact Yield.op (v := .pointer (some ⟨g, i * 5, none⟩)) (w' := wy) (by simp [execOp, go_sem, e18, e22]; omega) ⟨Ext.refl _, rfl⟩
    · intro ev wy hp hl hk hd
      have e23 : ev _ = _ := hk 23 (by decide)
      exact Yield.as rfl ⟨Ext.refl _, e23⟩
  · intro vals wz hz hv
    have g15 : vals 0 = _ := hv 0 (by decide)
    have g16 : vals 1 = _ := hv 1 (by decide)
    have g17 : vals 2 = _ := hv 2 (by decide)
    have g18 : vals 3 = _ := hv 3 (by decide)
    have g19 : vals 4 = _ := hv 4 (by decide)
    have g20 : vals 5 = _ := hv 5 (by decide)
    have g21 : vals 6 = _ := hv 6 (by decide)
    have g22 : vals 7 = _ := hv 7 (by decide)
    have g23 : vals 8 = _ := hv 8 (by decide)
    have g4 : vals 9 = _ := hv 9 (by decide)
    clear hv
    simp only [putAll, Act.put, List.setIfInBounds_toArray, List.set_cons_zero, List.set_cons_succ, g15, g16, g17, g18, g19, g20, g21, g22, g23, g4]
    clear g15 g16 g17 g18 g19 g20 g21 g22 g23 g4
    go_wp2_with fail
    go_ret
    exact ⟨by unfold atPtr14; rw [HNO.out]; rfl, HE2.out.trans hz⟩

theorem entFlat_set : ∀ (ps : List (Value × Ent.E)) (i : Nat) (u : Value) (hi : i < ps.length), entFlat (ps.set i (u, ps[i].2)) = (entFlat ps).set (i * 6 + 2) u := by
  intro ps
  induction ps with
  | nil => intro i u hi; exact absurd hi (by simp)
  | cons p ps ih =>
    intro i u hi
    cases i with
    | zero => rfl
    | succ i =>
      have hi' : i < ps.length := by simpa using hi
      have h := ih i u hi'
      simp only [List.set_cons_succ, List.getElem_cons_succ]
      show _ ++ entFlat (ps.set i (u, ps[i].2)) = _
      rw [h, show (i + 1) * 6 + 2 = i * 6 + 2 + 6 by omega]
      rfl
/-- Entries in a row of its own, of which the first k cuts are its own, too. -/
structure Tail14 (w : World) (B : Nat) (v : Value) (ps : List (Value × Ent.E)) (k : Nat) (wr : World) : Prop where
  ext : Ext w wr
  row : ∃ qs : List (Value × Ent.E), qs.length = ps.length ∧ wr.ownsRow B 63 6 v ps.length (entFlat qs) ∧ (∀ i (h : i < qs.length) (h' : i < ps.length), qs[i].2 = ps[i].2) ∧ (∀ i (h : i < qs.length), i < k → OwnI wr B qs[i].1 qs[i].2.cut) ∧ ∀ i, k ≤ i → qs[i]? = ps[i]?
theorem Tail14.later {w wr w' : World} {B k : Nat} {v : Value} {ps : List (Value × Ent.E)} (h : Tail14 w B v ps k wr) (hE : Ext wr w') : Tail14 w B v ps k w' := by
  obtain ⟨qs, h1, h2, h3, h4, h5⟩ := h.row
  exact ⟨h.ext.trans hE, qs, h1, rowExt h2 hE, h3, fun i a b => (h4 i a b).ext hE, h5⟩
theorem Tail14.next {w wr : World} {B g n c k : Nat} {u : Value} {ps : List (Value × Ent.E)} (hB : w.heap.size ≤ B) (h : Tail14 w B (.slice (some ⟨g, 0, none⟩) n c) ps k wr) (hk : k < ps.length) (hu : OwnI wr B u ps[k].2.cut) (hs : ∃ a n c, u = .slice a n c) : Tail14 w B (.slice (some ⟨g, 0, none⟩) n c) ps (k + 1) (wr.setCell ⟨g, k * 6 + 2, none⟩ u) := by
  obtain ⟨qs, h1, h2, h3, h4, h5⟩ := h.row
  obtain ⟨cur, hcur⟩ := ownAt h2 (k := g) rfl
  have hBt : But g wr (wr.setCell ⟨g, k * 6 + 2, none⟩ u) := butSet _ _ _ _
  have hn := ownLen h2
  subst hn
  have hkq : k < qs.length := by omega
  refine ⟨h.ext.setCell (p := ⟨g, k * 6 + 2, none⟩) (Nat.le_trans hB (h2.lt g rfl).1) _, qs.set k (u, qs[k].2), by simpa using h1, ?_, fun i a b => ?_, fun i a b => ?_, fun i hi => ?_⟩
  · rw [entFlat_set qs k u hkq]
    exact (h2.stored (k * 6 + 2) u).1
  · simp only [List.getElem_set]
    split
    · next e => subst e; exact h3 k hkq b
    · exact h3 i (by simpa using a) b
  · simp only [List.getElem_set]
    split
    · next e =>
      subst e
      rw [h3 k hkq hk]
      exact hu.but hcur (by decide) hBt
    · exact (h4 i (by simpa using a) (by omega)).but hcur (by decide) hBt
  · rw [List.getElem?_set_ne (by omega)]
    exact h5 i (by omega)
theorem Tail14.done {w wr : World} {B : Nat} {v : Value} {ps : List (Value × Ent.E)} (h : Tail14 w B v ps ps.length wr) : OwnT wr B v (ps.map (·.2)) := by
  obtain ⟨qs, h1, h2, h3, h4, h5⟩ := h.row
  have hm : qs.map (·.2) = ps.map (·.2) := List.ext_getElem (by simp [h1]) fun i a b => by
    simp only [List.getElem_map]
    exact h3 i _ _
  refine ⟨qs, hm, fun q hq => ?_, by rw [List.length_map]; exact h2⟩
  obtain ⟨i, hi, rfl⟩ := List.getElem_of_mem hq
  exact h4 i hi (by omega)
/-- What ownTail gives. -/
def GivesTail14 (w : World) (l : List Ent.E) (e : Ending) (w' : World) : Prop := ∃ u, e = .returned u ∧ OwnT w' w.heap.size u l ∧ Ext w w'
set_option maxHeartbeats 4000000 in
theorem ownTail14_any (v : Value) (l : List Ent.E) (w : World) (hv : Ents w v l) (hl : l.length * 64 ≤ 140737488355328) (hc : ∀ e ∈ l, e.cut.length ≤ 1000000) : Calls Try.prog 35 #[v] w (GivesTail14 w l) := by
  obtain ⟨ps, hm, hsl, hi⟩ := flat_of_ents hv
  subst hm
  rw [List.length_map] at hl
  have HI := Lib.hid hi
  have HC := Lib.hid hc
  obtain ⟨N, hN⟩ : ∃ z, ps.length = z := ⟨_, rfl⟩
  have HCL := Lib.hid (cloneEw_any v ps w hsl (entFlat_one hi) hl)
  have HN := Lib.hid hN
  have hb := hsl
  obtain ⟨a, cap, rfl, _, _, _, _, _⟩ := hb
  rw [hN] at HCL hl ⊢
  clear hsl hi hc hN
  go_enter Try.func35, Try.ntmps35
  go_wp2_with fail
  refine HCL.out.mono ?_
  rintro e w1 ⟨u, rfl, ho, hE⟩
  try rw [HN.out] at ho
  obtain ⟨ua, uc, rfl⟩ : ∃ ua uc, u = .slice ua N uc := by
    obtain ⟨xa, xn, xc, rfl⟩ := ownSlice ho
    rw [ownLen ho]
    exact ⟨_, _, rfl⟩
  have HT0 := Lib.hid (show Tail14 w w.heap.size (.slice ua N uc) ps 0 w1 from ⟨hE, ps, rfl, by rw [HN.out]; exact ho, fun i _ _ => rfl, fun i _ h => absurd h (by omega), fun i _ => rfl⟩)
  clear ho hE HCL
  go_wp2_with fail
  go_loopw [3, 8] (fun _ i wr => ∃ k : Nat, k ≤ N ∧ i = .int .i64 k ∧ Hid (Tail14 w w.heap.size (.slice ua N uc) ps k wr)) (fun _ i _ => N - (intOf i).toNat)
  case atStart => exact ⟨0, by omega, rfl, HT0⟩
  case round =>
    obtain ⟨k, hk, rfl, hI⟩ := hrel
    by_cases hlt : k < N
    · have hkp : k < ps.length := by rw [HN.out]; exact hlt
      obtain ⟨qs, h1, h2, h3, h4, h5⟩ := hI.out.row
      have hkq : k < qs.length := by omega
      obtain ⟨g, cap2, e9, hcap2, hcell⟩ : ∃ g cap2, (Value.slice ua N uc) = .slice (some ⟨g, 0, none⟩) N cap2 ∧ N ≤ cap2 ∧ wr.cell? ⟨g, k * 6 + 2, none⟩ = some ps[k].1 ∧ wr.frozen? ⟨g, k * 6 + 2, none⟩ = false := by
        rcases h2.2 with ⟨_, e⟩ | ⟨g, cap2, cur, e, _, _, hle, _⟩
        · omega
        · rw [HN.out] at h2 hle e
          rw [e] at h2
          refine ⟨g, cap2, e, hle, ?_, h2.frozenAt _⟩
          rw [h2.cellAt (k * 6 + 2) (by omega), entFlat_at qs k 2 hkq (by omega)]
          have hq := h5 k (Nat.le_refl _)
          rw [List.getElem?_eq_getElem hkq, List.getElem?_eq_getElem hkp, Option.some.injEq] at hq
          rw [hq]
          rfl
      injection e9 with e1 _ e3
      subst e1 e3
      have hip := HI.out _ (List.getElem_mem hkp)
      have hcp := HC.out ps[k].2 (List.mem_map.2 ⟨_, List.getElem_mem hkp, rfl⟩)
      obtain ⟨⟨tv, E⟩, hP⟩ : ∃ z, ps[k] = z := ⟨_, rfl⟩
      have HP := Lib.hid (show ∃ h : k < ps.length, ps[k] = (tv, E) from ⟨hkp, hP⟩)
      rw [hP] at hip hcp hcell
      simp only at hip hcp hcell
      obtain ⟨ta, tn, tc, rfl⟩ := hip.isSlice
      obtain ⟨hc1, hf1⟩ := hcell
      have HCC := Lib.hid (cloneI_any _ E.cut wr (hip.below hI.out.ext) hcp)
      clear h1 h2 h3 h4 h5 hkq hkp hip hcp hP
      have hidx : k * 6 + 2 = k * 6 + 2 := rfl
      go_wp2_with fail
      refine HCC.out.mono ?_
      rintro e w2 ⟨u2, rfl, ho2, hE2⟩
      obtain ⟨ya, yn, yc, rfl⟩ := ownSlice ho2
      have HO2 := Lib.hid (rowLower ho2 hI.out.ext.size)
      have HI2 := Lib.hid (hI.out.later hE2)
      have hc2 := cellExt hE2 hc1
      have hf2 : w2.frozen? ⟨g, k * 6 + 2, none⟩ = false := by
        obtain ⟨qs, _, h2, _⟩ := HI2.out.row
        rw [HN.out] at h2
        exact h2.frozenAt _
      clear hc1 hf1 ho2 hE2
      go_wp2_with fail
      go_roundw
      case rel =>
        refine ⟨k + 1, by omega, by simp, Lib.hid ?_⟩
        obtain ⟨hkp, hP⟩ := HP.out
        exact HI2.out.next (Nat.le_refl _) hkp (by rw [hP]; exact HO2.out) ⟨_, _, _, rfl⟩
      case measure => simp [intOf]; omega
    · obtain rfl : k = N := by omega
      have hfin := hI.out
      rw [← HN.out] at hfin
      have HF := Lib.hid (And.intro hfin.done hfin.ext)
      rw [HN.out] at HF
      clear hfin
      go_wp2_with fail
      go_ret
      exact ⟨_, rfl, HF.out.1, HF.out.2⟩
end Go.Proofs.Ytkpcmedmiiohnaa
