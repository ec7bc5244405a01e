/-
  Merged: Layer 11: the statements' own, plain, entries.
-/
import Derived.Test.YtckdofhcifdpmaaGreatBsMsg
import Derived.Test.YtckdofhcifdpmaaGreatBsRpI
import Derived.Test.YtckdofhcifdpmaaGreatBsRpK

namespace Go.Proofs.YtckdofhcifdpmaaGreat
set_option linter.unusedSimpArgs false
set_option linter.unusedVariables false
set_option maxRecDepth 100000
open Go.RowKit
/- Layer 11: the statements' own, plain, entries; the document's SameAll of two rows of the same entries. -/
theorem tER : ElemN Tryz.prog 63 54 (.agg #[.int .i64 0, .int .i64 0, .slice none 0 0, .int .i64 0, .int .i64 0, .int .i64 0]) 6 64 := ⟨Tryz.underlying63, by kernel_rfl, rfl, by omega⟩
set_option maxHeartbeats 8000000 in
/-- A row of the document's entries: the same rows of cuts. -/
theorem entries11l_any (v : Value) (ps : List (Value × Ent.E)) (w : World) (hv : SlN 6 w v ps.length (entFlat ps)) (hi : ∀ q ∈ ps, Ints w q.1 q.2.cut) (hl : ps.length ≤ 13107) :
    Calls Tryz.prog 23 #[v] w fun x w' => ∃ u, x = .returned u ∧ w'.ownsRow w.heap.size 54 6 u ps.length (entFlat ps) ∧ Ext w w' := by
  have HV := Lib.hid hv
  have HI := Lib.hid hi
  obtain ⟨a, cap, rfl, hcap, hmax, hnone, _, _⟩ := hv
  unfold maxLen at hmax
  obtain ⟨n, hn⟩ : ∃ n, ps.length = n := ⟨_, rfl⟩
  rw [hn] at HV hcap hl ⊢
  have HN := Lib.hid hn
  have te := tER
  clear hi hn hnone
  go_enter Tryz.func23, Tryz.ntmps23
  go_wp2_with fail
  go_loopw [3, 8] (fun o i wr => ∃ k : Nat, k ≤ n ∧ i = .int .i64 k ∧ (∃ a n c, o = .slice a n c) ∧ Hid (wr.ownsRow w.heap.size 54 6 o k (entFlat (ps.take k)) ∧ Ext w wr)) (fun _ i _ => n - (intOf i).toNat)
  case atStart => exact ⟨0, by omega, rfl, ⟨_, _, _, rfl⟩, Lib.hid ⟨World.ownsRow_nil _ _ _ _, Ext.refl _⟩⟩
  case round =>
    obtain ⟨k, hk, rfl, ⟨ao, no, co, rfl⟩, hI⟩ := hrel
    by_cases hlt : k < n
    · have hkp : k < ps.length := by rw [HN.out]; exact hlt
      obtain ⟨_, _, e', _, _, _, hlen, hc⟩ := HV.out
      injection e' with e1 e2 e3
      obtain ⟨b, off, hab, hx0⟩ := hc (k * 6) (by rw [hlen]; omega)
      rw [← e1] at hab
      subst hab
      have hat : ∀ j, j < 6 → wr.cell? ⟨b, off + (k * 6 + j), none⟩ = [Value.int .i64 ps[k].2.number, .int .i64 ps[k].2.kind, ps[k].1, .int .i64 ps[k].2.tag, .int .i64 ps[k].2.term, .int .i64 ps[k].2.pos][j]? := fun j hj => by
        obtain ⟨b', off', hab', hcell⟩ := hc (k * 6 + j) (by rw [hlen]; omega)
        rw [← e1] at hab'
        injection hab' with hab'
        injection hab' with h1 h2
        subst h1 h2
        have hcw := cellExt hI.out.2 hcell
        rw [hcw, ← entFlat_at ps k j hkp hj]
        exact (List.getElem?_eq_getElem _).symm
      have hti := HI.out ps[k] (List.getElem_mem hkp)
      have htake : ps.take (k + 1) = ps.take k ++ [ps[k]] := List.take_succ_eq_append_getElem hkp
      obtain ⟨⟨t, E⟩, hP⟩ : ∃ z, ps[k] = z := ⟨_, rfl⟩
      rw [hP] at hat hti htake
      simp only at hat hti
      obtain ⟨ta, tn, tc, rfl⟩ := intsSlice hti
      have HT := Lib.hid hti
      have HTK := Lib.hid htake
      obtain ⟨e0, e1', e2', e3', e4', e5'⟩ := E
      have hidx : ∀ j, off + (k * 6 + j) = off + k * 6 + j := fun j => by omega
      have p0 : wr.cell? ⟨b, off + k * 6, none⟩ = some (.int .i64 e0) := hat 0 (by omega)
      have p1 : wr.cell? ⟨b, off + k * 6 + 1, none⟩ = some (.int .i64 e1') := hat 1 (by omega)
      have p2 : wr.cell? ⟨b, off + k * 6 + 2, none⟩ = some (.slice ta tn tc) := hat 2 (by omega)
      have p3 : wr.cell? ⟨b, off + k * 6 + 3, none⟩ = some (.int .i64 e3') := hat 3 (by omega)
      have p4 : wr.cell? ⟨b, off + k * 6 + 4, none⟩ = some (.int .i64 e4') := hat 4 (by omega)
      have p5 : wr.cell? ⟨b, off + k * 6 + 5, none⟩ = some (.int .i64 e5') := hat 5 (by omega)
      have hEa : Ext wr (wr.alloc (.cells #[.int .i64 e0, .int .i64 e1', .slice ta tn tc, .int .i64 e3', .int .i64 e4', .int .i64 e5'] 77)) := Ext.alloc _ _
      have hEb : Ext (wr.alloc (.cells #[.int .i64 e0, .int .i64 e1', .slice ta tn tc, .int .i64 e3', .int .i64 e4', .int .i64 e5'] 77)) ((wr.alloc (.cells #[.int .i64 e0, .int .i64 e1', .slice ta tn tc, .int .i64 e3', .int .i64 e4', .int .i64 e5'] 77)).alloc (.cells #[.int .i64 e0, .int .i64 e1', .slice ta tn tc, .int .i64 e3', .int .i64 e4', .int .i64 e5'] 54)) := Ext.alloc _ _
      have O2 := Lib.hid (rowExt (rowExt hI.out.1 hEa) hEb)
      have HSL := Lib.hid (SlN.one6 (T := 54) (wr.alloc (.cells #[.int .i64 e0, .int .i64 e1', .slice ta tn tc, .int .i64 e3', .int .i64 e4', .int .i64 e5'] 77)) (.slice ta tn tc) ⟨e0, e1', e2', e3', e4', e5'⟩)
      have HSL2 := Lib.hid (show SlN 6 ((wr.alloc (.cells #[.int .i64 e0, .int .i64 e1', .slice ta tn tc, .int .i64 e3', .int .i64 e4', .int .i64 e5'] 77)).alloc (.cells #[.int .i64 e0, .int .i64 e1', .slice ta tn tc, .int .i64 e3', .int .i64 e4', .int .i64 e5'] 54)) (.slice (some ⟨wr.heap.size + 1, 0, none⟩) 1 1) 1 (entFlat [(.slice ta tn tc, ⟨e0, e1', e2', e3', e4', e5'⟩)]) by have := HSL.out; rwa [World.size_alloc] at this)
      have hone := entFlat_one (w := w) (ps := [(.slice ta tn tc, ⟨e0, e1', e2', e3', e4', e5'⟩)]) (by intro q hq; obtain rfl := List.mem_singleton.1 hq; exact HT.out)
      have hk1 : k + 1 ≤ maxLen := by unfold maxLen; omega
      have hk2 : (k + 1) * 64 ≤ 140737488355328 := by omega
      have hEw := Lib.hid ((hI.out.2.trans hEa).trans hEb)
      have HKP := Lib.hid hkp
      clear hx0 hc hlen hat hti htake hP hEa hEb e1 e2 e3
      go_wp2_with (at_builtin; refine wpList_appN rfl (.tmp 12) (.tmp 14) te rfl rfl rfl O2.out HSL2.out hone hk1 hk2 hEw.out.size ?_; intro v9 w9 hown9 hg9)
      obtain ⟨a9, n9, c9, rfl⟩ := ownSlice hown9
      have hE9 : Ext w w9 := Below.grown hEw.out hg9 hEw.out.size (fun j hj => (O2.out.lt j hj).1)
      have HO9 := Lib.hid (show w9.ownsRow w.heap.size 54 6 (.slice a9 n9 c9) (k + 1) (entFlat (ps.take (k + 1))) ∧ Ext w w9 from ⟨by rw [HTK.out, entFlat_append]; exact hown9, hE9⟩)
      clear hown9 hg9 hE9
      go_wp2_with fail
      go_roundw
      case rel => exact ⟨k + 1, by omega, by go_num, ⟨_, _, _, rfl⟩, HO9⟩
      case measure => simp [intOf]; omega
    · obtain rfl : k = n := by omega
      have hall : ps.take k = ps := List.take_of_length_le (by rw [HN.out]; exact Nat.le_refl _)
      rw [hall] at hI
      clear hall
      go_wp2_with fail
      go_ret
      exact ⟨_, rfl, hI.out.1, hI.out.2⟩
set_option maxHeartbeats 4000000 in
theorem refSameAll11 (v u : Value) (l : List Ent.E) (w : World) (hv : Ents w v l) (hu : Ents w u l) :
    Calls Tryz.prog 22 #[v, u] w fun e w' => e = .returned (.bool true) ∧ Ext w w' := by
  have HV := Lib.hid hv
  have HU := Lib.hid hu
  obtain ⟨a, ca, rfl, h1, h2, h3, _⟩ := hv
  obtain ⟨b, cb, rfl, k1, k2, k3, _⟩ := hu
  obtain ⟨n, hn⟩ : ∃ n, l.length = n := ⟨_, rfl⟩
  have hnm : n ≤ 9223372036854775807 := by unfold maxLen at h2; omega
  rw [hn] at HV HU h1 k1 ⊢
  have HN := Lib.hid hn
  clear hn h2 k2 h3 k3
  go_enter Tryz.func22, Tryz.ntmps22
  go_wp2_with fail
  go_loopw [5] (fun i wr => ∃ k : Nat, k ≤ n ∧ i = .int .i64 k ∧ Ext w wr) (fun i _ => n - (intOf i).toNat)
  case atStart => exact ⟨0, by omega, rfl, Ext.refl _⟩
  case round =>
    obtain ⟨k, hk, rfl, hE⟩ := hrel
    by_cases hlt : k < n
    · have hkl : k < l.length := by rw [HN.out]; exact hlt
      have hEd := hE.trans (Ext.drew wr)
      obtain ⟨_, _, e1, _, _, _, hc⟩ := HV.out.below hEd
      obtain ⟨ab, ao, rfl, ta, p0, p1, p2, p3, p4, p5, hta⟩ := hc k hkl
      injection e1 with e1 e2 e3
      subst e1
      obtain ⟨_, _, f1, _, _, _, hd⟩ := HU.out.below hEd
      obtain ⟨bb, bo, rfl, tb, q0, q1, q2, q3, q4, q5, htb⟩ := hd k hkl
      injection f1 with f1 f2 f3
      subst f1
      obtain ⟨a1, a2, a3, rfl⟩ : ∃ x y z, ta = .slice x y z := by
        obtain ⟨x, c, e, _⟩ := hta.open
        exact ⟨x, _, c, e⟩
      obtain ⟨b1, b2, b3, rfl⟩ : ∃ x y z, tb = .slice x y z := by
        obtain ⟨x, c, e, _⟩ := htb.open
        exact ⟨x, _, c, e⟩
      have hsame := refSame5_any (entV (.slice a1 a2 a3) l[k]) (entV (.slice b1 b2 b3) l[k]) l[k] l[k] wr.drew ⟨_, rfl, hta⟩ ⟨_, rfl, htb⟩
      rw [Ent.alike_self] at hsame
      simp only [entV] at hsame
      obtain ⟨y0, hy0⟩ : ∃ q : Int, (l[k]).number = q := ⟨_, rfl⟩
      obtain ⟨y1, hy1⟩ : ∃ q : Int, (l[k]).kind = q := ⟨_, rfl⟩
      obtain ⟨y3, hy3⟩ : ∃ q : Int, (l[k]).tag = q := ⟨_, rfl⟩
      obtain ⟨y4, hy4⟩ : ∃ q : Int, (l[k]).term = q := ⟨_, rfl⟩
      obtain ⟨y5, hy5⟩ : ∃ q : Int, (l[k]).pos = q := ⟨_, rfl⟩
      rw [hy0, hy1, hy3, hy4, hy5] at hsame
      rw [hy0] at p0 q0
      rw [hy1] at p1 q1
      rw [hy3] at p3 q3
      rw [hy4] at p4 q4
      rw [hy5] at p5 q5
      have HSAME := Lib.hid hsame
      clear hsame hc hd e2 e3 f2 f3 hta htb hy0 hy1 hy3 hy4 hy5
      go_wp2_with fail
      go_region_law (go_simp; go_at_call 37; refine HSAME.out.mono ?_; rintro e w4 ⟨rfl, hE4⟩)
      all_goals
        have hE5 := hEd.trans hE4
        clear hE4 p0 p1 p2 p3 p4 p5 q0 q1 q2 q3 q4 q5
        go_wp2_with fail
        go_roundw
        case rel => exact ⟨k + 1, by omega, by go_num, hE5⟩
        case measure => simp [intOf]; omega
    · obtain rfl : k = n := by omega
      go_wp2_with fail
      go_ret
      exact ⟨rfl, hE⟩
end Go.Proofs.YtckdofhcifdpmaaGreat
