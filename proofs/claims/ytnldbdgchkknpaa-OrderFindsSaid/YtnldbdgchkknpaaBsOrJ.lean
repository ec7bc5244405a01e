/-
  Merged: Layer 15, the statements' helpers: the row of all records, and whether two rows are the same.
-/
import Derived.Test.YtnldbdgchkknpaaBsOrI

namespace Go.Proofs.Ytnldbdgchkknpaa
set_option linter.unusedSimpArgs false
set_option linter.unusedVariables false
set_option maxRecDepth 100000
open Go.RowKit Go.Shelf
/- Layer 15, the statements' helpers: the row of all records, and whether two rows are the same. -/
/-- The cells of places. -/
def plFlat (l : List (Int × Int)) : List Value := l.flatMap fun q => [.int .i64 q.1, .int .i64 q.2]
theorem plFlat_append (l m : List (Int × Int)) : plFlat (l ++ m) = plFlat l ++ plFlat m := by simp [plFlat]
theorem plFlat_length (l : List (Int × Int)) : (plFlat l).length = l.length * 2 := by
  induction l with
  | nil => rfl
  | cons p l ih =>
    simp only [plFlat, List.flatMap_cons, List.length_append, List.length_cons, List.length_nil] at ih ⊢
    omega
theorem plFlat_at : ∀ (l : List (Int × Int)) (i : Nat) (hi : i < l.length), (plFlat l)[i * 2]? = some (.int .i64 l[i].1) ∧ (plFlat l)[i * 2 + 1]? = some (.int .i64 l[i].2) := by
  intro l
  induction l with
  | nil => intro i hi; exact absurd hi (by simp)
  | cons p l ih =>
    intro i hi
    cases i with
    | zero => exact ⟨rfl, rfl⟩
    | succ i =>
      have h := ih i (by simpa using hi)
      have e1 : (i + 1) * 2 = i * 2 + 1 + 1 := by omega
      rw [e1]
      simp only [plFlat, List.flatMap_cons, List.cons_append, List.nil_append, List.getElem?_cons_succ, List.getElem_cons_succ] at h ⊢
      exact h
theorem plFlat_one (l : List (Int × Int)) : ∀ y ∈ plFlat l, y.oneCell' = true := by
  intro y hy
  unfold plFlat at hy
  rw [List.mem_flatMap] at hy
  obtain ⟨q, _, hq⟩ := hy
  simp only [List.mem_cons, List.not_mem_nil, or_false] at hq
  rcases hq with rfl | rfl <;> rfl
/-- A row of places, read. -/
theorem Places.at15 {w : World} {v : Value} {n : Nat} {l : List (Int × Int)} (h : SlN 2 w v n (plFlat l)) (i : Nat) (hi : i < l.length) : ∃ b off c, v = .slice (some ⟨b, off, none⟩) n c ∧ w.cell? ⟨b, off + i * 2, none⟩ = some (.int .i64 l[i].1) ∧ w.cell? ⟨b, off + i * 2 + 1, none⟩ = some (.int .i64 l[i].2) := by
  obtain ⟨a, cap, rfl, _, _, _, hl, hc⟩ := h
  obtain ⟨b, off, rfl, h1⟩ := hc (i * 2) (by rw [plFlat_length]; omega)
  obtain ⟨b', off', e, h2⟩ := hc (i * 2 + 1) (by rw [plFlat_length]; omega)
  injection e with e
  injection e with e1 e2
  subst e1 e2
  obtain ⟨q1, q2⟩ := plFlat_at l i hi
  rw [List.getElem?_eq_getElem (by rw [plFlat_length]; omega), Option.some.injEq] at q1 q2
  rw [q1] at h1
  rw [q2] at h2
  exact ⟨b, off, cap, rfl, h1, h2⟩

theorem tPl : ElemN Try.prog 42 24 (.agg #[.int .i64 0, .int .i64 0]) 2 16 := ⟨Try.underlying42, by kernel_rfl, rfl, by omega⟩
theorem SlN.pl15 (w : World) (T : TypeId) (s l : Int) : SlN 2 (w.alloc (.cells #[.int .i64 s, .int .i64 l] T)) (.slice (some ⟨w.heap.size, 0, none⟩) 1 1) 1 (plFlat [(s, l)]) := by
  refine ⟨_, _, rfl, Nat.le_refl _, by simp [maxLen], fun e => by simp at e, rfl, fun j hj => ⟨_, _, rfl, ?_⟩⟩
  have hj2 : j < 2 := by simpa [plFlat] using hj
  rw [Nat.zero_add, World.cell?_alloc_mark]
  simp [plFlat]

def GivesRow15 (cs : List (List Int)) (w : World) (e : Ending) (w' : World) : Prop := ∃ u, e = .returned (.tuple #[u, .bool true]) ∧ w'.ownsRow w.heap.size 24 2 u (Ord.rows cs).length (plFlat (Ord.rows cs)) ∧ Ext w w'
set_option maxHeartbeats 4000000 in
theorem row15_any {w : World} {B p : Nat} {cs : List (List Int)} (h : IsOrd w B p cs) (hlong : cs.length ≤ 4398046511106) :
    Calls Try.prog 15 #[.pointer (some ⟨p, 0, none⟩)] w (GivesRow15 cs w) := by
  obtain ⟨sh, ho⟩ := h.ok
  have hrl := ho.rows_length
  have hmost : (Ord.last cs).sum ≤ 1000000 := by rw [ho.last_is]; exact ho.most _ (List.getElem_mem _)
  have HH := Lib.hid h
  obtain ⟨R, hR⟩ : ∃ z, Ord.rows cs = z := ⟨_, rfl⟩
  obtain ⟨n, hn⟩ : ∃ z, R.length = z := ⟨_, rfl⟩
  rw [hR, hn] at hrl
  unfold GivesRow15
  rw [hR, hn]
  have hn6 : n ≤ 1000000 := by omega
  have HL := Lib.hid (len15_any h)
  rw [← hrl] at HL
  have HAT := Lib.hid (fun (wy : World) (hy : Ext w wy) (i : Nat) (hi : i < n) => (at15_any (i : Int) (HH.out.ext hy) hlong).mono fun e w' ⟨s, l, is, h1, h2, h3⟩ => (show ∃ s l, e = Ending.returned (.tuple #[.agg #[.int .i64 s, .int .i64 l], .bool true]) ∧ R[i]? = some (s, l) ∧ Ext wy w' from by
    cases is with
    | false =>
      obtain ⟨_, _, h2⟩ := h2
      omega
    | true =>
      obtain ⟨j, hj, h2⟩ := h2
      obtain rfl : i = j := by omega
      rw [hR] at h2
      exact ⟨s, l, h1, h2, h3⟩))
  have HN := Lib.hid hn
  have te := tPl
  clear hR hrl hmost ho h hlong hn
  go_enter Try.func15, Try.ntmps15
  go_wp2_with fail
  refine HL.out.mono ?_
  rintro e w1 ⟨rfl, hE1⟩
  have HE1 := Lib.hid hE1
  clear hE1
  go_wp2_with fail
  go_loopw [4, 5, 6, 7, 10] (fun o _ _ _ i wr => ∃ k : Nat, k ≤ n ∧ i = .int .i64 k ∧ (∃ a n c, o = .slice a n c) ∧ Hid (wr.ownsRow w.heap.size 24 2 o k (plFlat (R.take k)) ∧ Ext w wr)) (fun _ _ _ _ i _ => n - (intOf i).toNat)
  case atStart => exact ⟨0, by omega, rfl, ⟨_, _, _, rfl⟩, Lib.hid ⟨World.ownsRow_nil _ _ _ _, HE1.out⟩⟩
  case round =>
    obtain ⟨k, hk, rfl, ⟨ao, no, co, rfl⟩, hI⟩ := hrel
    by_cases hlt : k < n
    · have hat := HAT.out wr hI.out.2 k hlt
      have HA := Lib.hid hat
      clear hat
      go_wp2_with fail
      refine HA.out.mono ?_
      rintro e w2 ⟨s, l, rfl, hrow, hE2⟩
      have htake : R.take (k + 1) = R.take k ++ [(s, l)] := by
        obtain ⟨hkl, e⟩ := List.getElem?_eq_some_iff.1 hrow
        rw [List.take_succ_eq_append_getElem hkl, e]
      have HTK := Lib.hid htake
      obtain ⟨w3, hw3⟩ : ∃ z, w2.alloc (.cells #[.int .i64 s, .int .i64 l] 36) = z := ⟨_, rfl⟩
      obtain ⟨q, hq⟩ : ∃ z, w2.heap.size = z := ⟨_, rfl⟩
      have hE3 : Ext w2 w3 := by rw [← hw3]; exact Ext.alloc _ _
      have hB3 : w3.heap[q]? = some (.cells #[.int .i64 s, .int .i64 l] 36 (0, 0)) := by rw [← hw3, ← hq]; exact heap_alloc_new _ _
      have HW3 := Lib.hid (And.intro hw3 hq)
      have HE3 := Lib.hid (hI.out.2.trans (hE2.trans hE3))
      have hown := rowExt hI.out.1 (hE2.trans hE3)
      have hEa := Ext.alloc w3 (.cells #[.int .i64 s, .int .i64 l] 24)
      have O2 := Lib.hid (rowExt hown hEa)
      have HSL := Lib.hid (SlN.pl15 w3 24 s l)
      have hone := plFlat_one [(s, l)]
      have c0 := cell_of_heap hB3 0
      have c1 := cell_of_heap hB3 1
      simp only [List.getElem?_toArray, List.getElem?_cons_zero, List.getElem?_cons_succ] at c0 c1
      have hk1 : k + 1 ≤ maxLen := by unfold maxLen; omega
      have hk2 : (k + 1) * 16 ≤ 140737488355328 := by omega
      have hEw := Lib.hid (HE3.out.trans hEa)
      clear hrow htake hE2 hE3 hB3 hown hEa hw3 hq
      go_upto_region 6 with fail
      rw [HW3.out.1, HW3.out.2]
      go_wp2_with (at_builtin; refine wpList_appN rfl (.tmp 21) (.tmp 23) te rfl rfl rfl O2.out HSL.out hone hk1 hk2 hEw.out.size ?_; intro v9 w9 hown9 hg9)
      obtain ⟨a9, n9, c9, rfl⟩ := ownSlice hown9
      have HE9 := Lib.hid (show Ext w w9 from Below.grown hEw.out hg9 hEw.out.size (fun j hj => (O2.out.lt j hj).1))
      have HO9 := Lib.hid hown9
      clear hown9 hg9
      go_wp2_with fail
      go_roundw
      case rel => exact ⟨k + 1, by omega, by simp, ⟨_, _, _, rfl⟩, Lib.hid ⟨by rw [HTK.out, plFlat_append]; exact HO9.out, HE9.out⟩⟩
      case measure => simp [intOf]; omega
    · obtain rfl : k = n := by omega
      have hall : R.take k = R := List.take_of_length_le (by rw [HN.out]; exact Nat.le_refl _)
      have hrow := hI.out.1
      rw [hall] at hrow
      have HR := Lib.hid hrow
      clear hall hrow
      go_wp2_with fail
      go_ret2
      exact ⟨_, rfl, HR.out, hI.out.2⟩

set_option maxHeartbeats 4000000 in
/-- Rows of the same places are the same. -/
theorem sameRow15_any (v u : Value) (n : Nat) (l : List (Int × Int)) (w : World) (hl : l.length = n) (hv : SlN 2 w v n (plFlat l)) (hu : SlN 2 w u n (plFlat l)) :
    Calls Try.prog 16 #[v, u] w fun e w' => e = .returned (.bool true) ∧ Ext w w' := by
  have HV := Lib.hid hv
  have HU := Lib.hid hu
  obtain ⟨a, ca, rfl, h1, h2, _⟩ := hv
  obtain ⟨b, cb, rfl, h3, h4, _⟩ := hu
  unfold maxLen at h2 h4
  have HLN := Lib.hid hl
  clear hl
  go_enter Try.func16, Try.ntmps16
  go_wp2_with fail
  go_loopw [5] (fun i wr => ∃ k : Nat, k ≤ n ∧ i = .int .i64 k ∧ Hid (Ext w wr)) (fun i _ => n - (intOf i).toNat)
  case atStart => exact ⟨0, by omega, rfl, Lib.hid (Ext.refl _)⟩
  case round =>
    obtain ⟨k, hk, rfl, hI⟩ := hrel
    by_cases hlt : k < n
    · have hkl : k < l.length := by rw [HLN.out]; exact hlt
      obtain ⟨b1, o1, c1, e1, p0, p1⟩ := Places.at15 HV.out k hkl
      obtain ⟨b2, o2, c2, e2, q0, q1⟩ := Places.at15 HU.out k hkl
      injection e1 with e1 _ e3
      injection e2 with e2 _ e4
      subst e1 e2 e3 e4
      obtain ⟨x, hx⟩ : ∃ z, l[k].1 = z := ⟨_, rfl⟩
      obtain ⟨y, hy⟩ : ∃ z, l[k].2 = z := ⟨_, rfl⟩
      rw [hx] at p0 q0
      rw [hy] at p1 q1
      have P0 := Lib.hid (cellExt15 p0 hI.out)
      have P1 := Lib.hid (cellExt15 p1 hI.out)
      have Q0 := Lib.hid (cellExt15 q0 hI.out)
      have Q1 := Lib.hid (cellExt15 q1 hI.out)
      clear p0 p1 q0 q1 hx hy
      go_wp2_with fail
      refine wp_region_facts (by kernel_rfl) Ext (fun iop v w => match iop with
          | 0 => v = .slice (some ⟨b1, o1, none⟩) n ca
          | 1 => v = .int .i64 (k : Nat)
          | 2 => v = .pointer (some ⟨b1, o1 + k * 2, none⟩)
          | 3 => v = .agg #[.int .i64 x, .int .i64 y]
          | 4 => v = .slice (some ⟨b2, o2, none⟩) n cb
          | 5 => v = .int .i64 (k : Nat)
          | 6 => v = .pointer (some ⟨b2, o2 + k * 2, none⟩)
          | 7 => v = .agg #[.int .i64 x, .int .i64 y]
          | _ => v = .bool false
          ) (by kernel_rfl) (fun _ _ _ h k => Ext.trans h k) (fun a => Ext.refl a) (Ext.drew _) ?_ ?_ ?_
      · intro iop v wa wb hF hL
        iterate 8 (rcases iop with _ | iop; exact hF)
        exact hF
      · refine Obls.cons ?_ (Obls.cons ?_ (Obls.cons ?_ (Obls.cons ?_ (Obls.cons ?_ (Obls.cons ?_ (Obls.cons ?_ (Obls.cons ?_ (Obls.cons ?_ (Obls.nil)))))))))
        · intro ev wy hp hl hk hd
          have e0 : ev _ = .slice (some ⟨b1, o1, none⟩) n ca := hk 0 (by decide)
          exact Yield.mv rfl ⟨Ext.refl _, e0⟩
        · intro ev wy hp hl hk hd
          have e5 : ev _ = .int .i64 (k : Nat) := hk 5 (by decide)
          exact Yield.mv rfl ⟨Ext.refl _, e5⟩
        · intro ev wy hp hl hk hd
          have e17 : ev _ = _ := hk 17 (by decide)
          have e18 : ev _ = _ := hk 18 (by decide)
          exact Yield.op (v := .pointer (some ⟨b1, o1 + k * 2, none⟩)) (w' := wy) (by simp [execOp, go_sem, e17, e18]; omega) ⟨Ext.refl _, rfl⟩
        · intro ev wy hp hl hk hd
          have e19 : ev _ = _ := hk 19 (by decide)
          exact Yield.op (v := .agg #[.int .i64 x, .int .i64 y]) (w' := wy) (by simp [execOp, go_sem, e19, cellExt15 P0.out hl, cellExt15 P1.out hl]) ⟨Ext.refl _, rfl⟩
        · intro ev wy hp hl hk hd
          have e1 : ev _ = .slice (some ⟨b2, o2, none⟩) n cb := hk 1 (by decide)
          exact Yield.mv rfl ⟨Ext.refl _, e1⟩
        · intro ev wy hp hl hk hd
          have e5 : ev _ = .int .i64 (k : Nat) := hk 5 (by decide)
          exact Yield.mv rfl ⟨Ext.refl _, e5⟩
        · intro ev wy hp hl hk hd
          have e21 : ev _ = _ := hk 21 (by decide)
          have e22 : ev _ = _ := hk 22 (by decide)
          exact Yield.op (v := .pointer (some ⟨b2, o2 + k * 2, none⟩)) (w' := wy) (by simp [execOp, go_sem, e21, e22]; omega) ⟨Ext.refl _, rfl⟩
        · intro ev wy hp hl hk hd
          have e23 : ev _ = _ := hk 23 (by decide)
          exact Yield.op (v := .agg #[.int .i64 x, .int .i64 y]) (w' := wy) (by simp [execOp, go_sem, e23, cellExt15 Q0.out hl, cellExt15 Q1.out hl]) ⟨Ext.refl _, rfl⟩
        · intro ev wy hp hl hk hd
          have e20 : ev _ = _ := hk 20 (by decide)
          have e24 : ev _ = _ := hk 24 (by decide)
          exact Yield.op (v := .bool false) (w' := wy) (by simp [execOp, go_sem, e20, e24]) ⟨Ext.refl _, rfl⟩
      · intro vals wz hz hv
        have g17 : vals 0 = _ := hv 0 (by decide)
        have g18 : vals 1 = _ := hv 1 (by decide)
        have g19 : vals 2 = _ := hv 2 (by decide)
        have g20 : vals 3 = _ := hv 3 (by decide)
        have g21 : vals 4 = _ := hv 4 (by decide)
        have g22 : vals 5 = _ := hv 5 (by decide)
        have g23 : vals 6 = _ := hv 6 (by decide)
        have g24 : vals 7 = _ := hv 7 (by decide)
        have g25 : vals 8 = _ := hv 8 (by decide)
        clear hv
        simp only [putAll, Act.put, List.setIfInBounds_toArray, List.set_cons_zero, List.set_cons_succ, g17, g18, g19, g20, g21, g22, g23, g24, g25]
        clear g17 g18 g19 g20 g21 g22 g23 g24 g25
        have HZ := Lib.hid (hI.out.trans hz)
        clear hz
        go_wp2_with fail
        go_roundw
        case rel => exact ⟨k + 1, by omega, by simp, HZ⟩
        case measure => simp [intOf]; omega
    · go_wp2_with fail
      go_ret
      exact ⟨rfl, hI.out⟩
end Go.Proofs.Ytnldbdgchkknpaa
