/-
  Merged: Layer 14, the statements' helpers: mine, entries, few.
-/
import Derived.Test.YtkpcmedmiiohnaaBsEnt2
import Derived.Test.YtkpcmedmiiohnaaBsRgH
import Derived.Test.YtkpcmedmiiohnaaBsRgI

namespace Go.Proofs.Ytkpcmedmiiohnaa
set_option linter.unusedSimpArgs false
set_option linter.unusedVariables false
set_option maxRecDepth 100000
open Go.RowKit
/- Layer 14, the statements' helpers: mine, entries, few. -/
theorem tER14 : ElemN Try.prog 39 65 (.agg #[.int .i64 0, .int .i64 0, .slice none 0 0, .int .i64 0, .int .i64 0, .int .i64 0]) 6 64 := ⟨Try.underlying39, by kernel_rfl, rfl, by omega⟩
set_option maxHeartbeats 8000000 in
/-- A row of the document's entries: the same rows of cuts. -/
theorem entries14l_any (v : Value) (ps : List (Value × Ent.E)) (w : World) (hv : SlN 6 w v ps.length (entFlat ps)) (hi : ∀ q ∈ ps, Ints w q.1 q.2.cut) (hl : ps.length * 64 ≤ 140737488355328) :
    Calls Try.prog 38 #[v] w fun x w' => ∃ u, x = .returned u ∧ w'.ownsRow w.heap.size 65 6 u ps.length (entFlat ps) ∧ Ext w w' := by
  have HV := Lib.hid hv
  have HI := Lib.hid hi
  obtain ⟨a, cap, rfl, hcap, hmax, hnone, _, _⟩ := hv
  unfold maxLen at hmax
  obtain ⟨n, hn⟩ : ∃ n, ps.length = n := ⟨_, rfl⟩
  rw [hn] at HV hcap hl ⊢
  have HN := Lib.hid hn
  have te := tER14
  clear hi hn hnone
  go_enter Try.func38, Try.ntmps38
  go_wp2_with fail
  go_loopw [3, 8] (fun o i wr => ∃ k : Nat, k ≤ n ∧ i = .int .i64 k ∧ (∃ a n c, o = .slice a n c) ∧ Hid (wr.ownsRow w.heap.size 65 6 o k (entFlat (ps.take k)) ∧ Ext w wr)) (fun _ i _ => n - (intOf i).toNat)
  case atStart => exact ⟨0, by omega, rfl, ⟨_, _, _, rfl⟩, Lib.hid ⟨World.ownsRow_nil _ _ _ _, Ext.refl _⟩⟩
  case round =>
    obtain ⟨k, hk, rfl, ⟨ao, no, co, rfl⟩, hI⟩ := hrel
    by_cases hlt : k < n
    · have hkp : k < ps.length := by rw [HN.out]; exact hlt
      obtain ⟨_, _, e', _, _, _, hlen, hc⟩ := HV.out
      injection e' with e1 e2 e3
      obtain ⟨b, off, hab, hx0⟩ := hc (k * 6) (by rw [hlen]; omega)
      rw [← e1] at hab
      subst hab
      have hat : ∀ j, j < 6 → wr.cell? ⟨b, off + (k * 6 + j), none⟩ = [Value.int .i64 ps[k].2.number, .int .i64 ps[k].2.kind, ps[k].1, .int .i64 ps[k].2.tag, .int .i64 ps[k].2.term, .int .i64 ps[k].2.pos][j]? := fun j hj => by
        obtain ⟨b', off', hab', hcell⟩ := hc (k * 6 + j) (by rw [hlen]; omega)
        rw [← e1] at hab'
        injection hab' with hab'
        injection hab' with h1 h2
        subst h1 h2
        have hcw := cellExt hI.out.2 hcell
        rw [hcw, ← entFlat_at ps k j hkp hj]
        exact (List.getElem?_eq_getElem _).symm
      have hti := HI.out ps[k] (List.getElem_mem hkp)
      have htake : ps.take (k + 1) = ps.take k ++ [ps[k]] := List.take_succ_eq_append_getElem hkp
      obtain ⟨⟨t, E⟩, hP⟩ : ∃ z, ps[k] = z := ⟨_, rfl⟩
      rw [hP] at hat hti htake
      simp only at hat hti
      obtain ⟨ta, tn, tc, rfl⟩ := hti.isSlice
      have HT := Lib.hid hti
      have HTK := Lib.hid htake
      obtain ⟨e0, e1', e2', e3', e4', e5'⟩ := E
      have hidx : ∀ j, off + (k * 6 + j) = off + k * 6 + j := fun j => by omega
      have p0 : wr.cell? ⟨b, off + k * 6, none⟩ = some (.int .i64 e0) := hat 0 (by omega)
      have p1 : wr.cell? ⟨b, off + k * 6 + 1, none⟩ = some (.int .i64 e1') := hat 1 (by omega)
      have p2 : wr.cell? ⟨b, off + k * 6 + 2, none⟩ = some (.slice ta tn tc) := hat 2 (by omega)
      have p3 : wr.cell? ⟨b, off + k * 6 + 3, none⟩ = some (.int .i64 e3') := hat 3 (by omega)
      have p4 : wr.cell? ⟨b, off + k * 6 + 4, none⟩ = some (.int .i64 e4') := hat 4 (by omega)
      have p5 : wr.cell? ⟨b, off + k * 6 + 5, none⟩ = some (.int .i64 e5') := hat 5 (by omega)
      have hEa : Ext wr (wr.alloc (.cells #[.int .i64 e0, .int .i64 e1', .slice ta tn tc, .int .i64 e3', .int .i64 e4', .int .i64 e5'] 63)) := Ext.alloc _ _
      have hEb : Ext (wr.alloc (.cells #[.int .i64 e0, .int .i64 e1', .slice ta tn tc, .int .i64 e3', .int .i64 e4', .int .i64 e5'] 63)) ((wr.alloc (.cells #[.int .i64 e0, .int .i64 e1', .slice ta tn tc, .int .i64 e3', .int .i64 e4', .int .i64 e5'] 63)).alloc (.cells #[.int .i64 e0, .int .i64 e1', .slice ta tn tc, .int .i64 e3', .int .i64 e4', .int .i64 e5'] 65)) := Ext.alloc _ _
      have O2 := Lib.hid (rowExt (rowExt hI.out.1 hEa) hEb)
      have HSL := Lib.hid (SlN.one6 (T := 65) (wr.alloc (.cells #[.int .i64 e0, .int .i64 e1', .slice ta tn tc, .int .i64 e3', .int .i64 e4', .int .i64 e5'] 63)) (.slice ta tn tc) ⟨e0, e1', e2', e3', e4', e5'⟩)
      have HSL2 := Lib.hid (show SlN 6 ((wr.alloc (.cells #[.int .i64 e0, .int .i64 e1', .slice ta tn tc, .int .i64 e3', .int .i64 e4', .int .i64 e5'] 63)).alloc (.cells #[.int .i64 e0, .int .i64 e1', .slice ta tn tc, .int .i64 e3', .int .i64 e4', .int .i64 e5'] 65)) (.slice (some ⟨wr.heap.size + 1, 0, none⟩) 1 1) 1 (entFlat [(.slice ta tn tc, ⟨e0, e1', e2', e3', e4', e5'⟩)]) by have := HSL.out; rwa [World.size_alloc] at this)
      have hone := entFlat_one (w := w) (ps := [(.slice ta tn tc, ⟨e0, e1', e2', e3', e4', e5'⟩)]) (by intro q hq; obtain rfl := List.mem_singleton.1 hq; exact HT.out)
      have hk1 : k + 1 ≤ maxLen := by unfold maxLen; omega
      have hk2 : (k + 1) * 64 ≤ 140737488355328 := by omega
      have hEw := Lib.hid ((hI.out.2.trans hEa).trans hEb)
      have HKP := Lib.hid hkp
      clear hx0 hc hlen hat hti htake hP hEa hEb e1 e2 e3
      go_wp2_with (at_builtin; refine wpList_appN rfl (.tmp 12) (.tmp 14) te rfl rfl rfl O2.out HSL2.out hone hk1 hk2 hEw.out.size ?_; intro v9 w9 hown9 hg9)
      obtain ⟨a9, n9, c9, rfl⟩ := ownSlice hown9
      have hE9 : Ext w w9 := Below.grown hEw.out hg9 hEw.out.size (fun j hj => (O2.out.lt j hj).1)
      have HO9 := Lib.hid (show w9.ownsRow w.heap.size 65 6 (.slice a9 n9 c9) (k + 1) (entFlat (ps.take (k + 1))) ∧ Ext w w9 from ⟨by rw [HTK.out, entFlat_append]; exact hown9, hE9⟩)
      clear hown9 hg9 hE9
      go_wp2_with fail
      go_roundw
      case rel => exact ⟨k + 1, by omega, by go_num, ⟨_, _, _, rfl⟩, HO9⟩
      case measure => simp [intOf]; omega
    · obtain rfl : k = n := by omega
      have hall : ps.take k = ps := List.take_of_length_le (by rw [HN.out]; exact Nat.le_refl _)
      rw [hall] at hI
      clear hall
      go_wp2_with fail
      go_ret
      exact ⟨_, rfl, hI.out.1, hI.out.2⟩

theorem tEN14 : ElemN Try.prog 45 63 (.agg #[.int .i64 0, .int .i64 0, .slice none 0 0, .int .i64 0, .int .i64 0, .int .i64 0]) 6 64 := ⟨Try.underlying45, by kernel_rfl, rfl, by omega⟩
set_option maxHeartbeats 8000000 in
/-- A row of the program's entries: the same rows of cuts. -/
theorem mine14l_any (v : Value) (ps : List (Value × Ent.E)) (w : World) (hv : SlN 6 w v ps.length (entFlat ps)) (hi : ∀ q ∈ ps, Ints w q.1 q.2.cut) (hl : ps.length * 64 ≤ 140737488355328) :
    Calls Try.prog 13 #[v] w fun x w' => ∃ u, x = .returned u ∧ w'.ownsRow w.heap.size 63 6 u ps.length (entFlat ps) ∧ Ext w w' := by
  have HV := Lib.hid hv
  have HI := Lib.hid hi
  obtain ⟨a, cap, rfl, hcap, hmax, hnone, _, _⟩ := hv
  unfold maxLen at hmax
  obtain ⟨n, hn⟩ : ∃ n, ps.length = n := ⟨_, rfl⟩
  rw [hn] at HV hcap hl ⊢
  have HN := Lib.hid hn
  have te := tEN14
  clear hi hn hnone
  go_enter Try.func13, Try.ntmps13
  go_wp2_with fail
  go_loopw [3, 8] (fun o i wr => ∃ k : Nat, k ≤ n ∧ i = .int .i64 k ∧ (∃ a n c, o = .slice a n c) ∧ Hid (wr.ownsRow w.heap.size 63 6 o k (entFlat (ps.take k)) ∧ Ext w wr)) (fun _ i _ => n - (intOf i).toNat)
  case atStart => exact ⟨0, by omega, rfl, ⟨_, _, _, rfl⟩, Lib.hid ⟨World.ownsRow_nil _ _ _ _, Ext.refl _⟩⟩
  case round =>
    obtain ⟨k, hk, rfl, ⟨ao, no, co, rfl⟩, hI⟩ := hrel
    by_cases hlt : k < n
    · have hkp : k < ps.length := by rw [HN.out]; exact hlt
      obtain ⟨_, _, e', _, _, _, hlen, hc⟩ := HV.out
      injection e' with e1 e2 e3
      obtain ⟨b, off, hab, hx0⟩ := hc (k * 6) (by rw [hlen]; omega)
      rw [← e1] at hab
      subst hab
      have hat : ∀ j, j < 6 → wr.cell? ⟨b, off + (k * 6 + j), none⟩ = [Value.int .i64 ps[k].2.number, .int .i64 ps[k].2.kind, ps[k].1, .int .i64 ps[k].2.tag, .int .i64 ps[k].2.term, .int .i64 ps[k].2.pos][j]? := fun j hj => by
        obtain ⟨b', off', hab', hcell⟩ := hc (k * 6 + j) (by rw [hlen]; omega)
        rw [← e1] at hab'
        injection hab' with hab'
        injection hab' with h1 h2
        subst h1 h2
        have hcw := cellExt hI.out.2 hcell
        rw [hcw, ← entFlat_at ps k j hkp hj]
        exact (List.getElem?_eq_getElem _).symm
      have hti := HI.out ps[k] (List.getElem_mem hkp)
      have htake : ps.take (k + 1) = ps.take k ++ [ps[k]] := List.take_succ_eq_append_getElem hkp
      obtain ⟨⟨t, E⟩, hP⟩ : ∃ z, ps[k] = z := ⟨_, rfl⟩
      rw [hP] at hat hti htake
      simp only at hat hti
      obtain ⟨ta, tn, tc, rfl⟩ := hti.isSlice
      have HT := Lib.hid hti
      have HTK := Lib.hid htake
      obtain ⟨e0, e1', e2', e3', e4', e5'⟩ := E
      have hidx : ∀ j, off + (k * 6 + j) = off + k * 6 + j := fun j => by omega
      have p0 : wr.cell? ⟨b, off + k * 6, none⟩ = some (.int .i64 e0) := hat 0 (by omega)
      have p1 : wr.cell? ⟨b, off + k * 6 + 1, none⟩ = some (.int .i64 e1') := hat 1 (by omega)
      have p2 : wr.cell? ⟨b, off + k * 6 + 2, none⟩ = some (.slice ta tn tc) := hat 2 (by omega)
      have p3 : wr.cell? ⟨b, off + k * 6 + 3, none⟩ = some (.int .i64 e3') := hat 3 (by omega)
      have p4 : wr.cell? ⟨b, off + k * 6 + 4, none⟩ = some (.int .i64 e4') := hat 4 (by omega)
      have p5 : wr.cell? ⟨b, off + k * 6 + 5, none⟩ = some (.int .i64 e5') := hat 5 (by omega)
      have hEa : Ext wr (wr.alloc (.cells #[.int .i64 e0, .int .i64 e1', .slice ta tn tc, .int .i64 e3', .int .i64 e4', .int .i64 e5'] 65)) := Ext.alloc _ _
      have hEb : Ext (wr.alloc (.cells #[.int .i64 e0, .int .i64 e1', .slice ta tn tc, .int .i64 e3', .int .i64 e4', .int .i64 e5'] 65)) ((wr.alloc (.cells #[.int .i64 e0, .int .i64 e1', .slice ta tn tc, .int .i64 e3', .int .i64 e4', .int .i64 e5'] 65)).alloc (.cells #[.int .i64 e0, .int .i64 e1', .slice ta tn tc, .int .i64 e3', .int .i64 e4', .int .i64 e5'] 63)) := Ext.alloc _ _
      have O2 := Lib.hid (rowExt (rowExt hI.out.1 hEa) hEb)
      have HSL := Lib.hid (SlN.one6 (T := 63) (wr.alloc (.cells #[.int .i64 e0, .int .i64 e1', .slice ta tn tc, .int .i64 e3', .int .i64 e4', .int .i64 e5'] 65)) (.slice ta tn tc) ⟨e0, e1', e2', e3', e4', e5'⟩)
      have HSL2 := Lib.hid (show SlN 6 ((wr.alloc (.cells #[.int .i64 e0, .int .i64 e1', .slice ta tn tc, .int .i64 e3', .int .i64 e4', .int .i64 e5'] 65)).alloc (.cells #[.int .i64 e0, .int .i64 e1', .slice ta tn tc, .int .i64 e3', .int .i64 e4', .int .i64 e5'] 63)) (.slice (some ⟨wr.heap.size + 1, 0, none⟩) 1 1) 1 (entFlat [(.slice ta tn tc, ⟨e0, e1', e2', e3', e4', e5'⟩)]) by have := HSL.out; rwa [World.size_alloc] at this)
      have hone := entFlat_one (w := w) (ps := [(.slice ta tn tc, ⟨e0, e1', e2', e3', e4', e5'⟩)]) (by intro q hq; obtain rfl := List.mem_singleton.1 hq; exact HT.out)
      have hk1 : k + 1 ≤ maxLen := by unfold maxLen; omega
      have hk2 : (k + 1) * 64 ≤ 140737488355328 := by omega
      have hEw := Lib.hid ((hI.out.2.trans hEa).trans hEb)
      have HKP := Lib.hid hkp
      clear hx0 hc hlen hat hti htake hP hEa hEb e1 e2 e3
      go_wp2_with (at_builtin; refine wpList_appN rfl (.tmp 12) (.tmp 14) te rfl rfl rfl O2.out HSL2.out hone hk1 hk2 hEw.out.size ?_; intro v9 w9 hown9 hg9)
      obtain ⟨a9, n9, c9, rfl⟩ := ownSlice hown9
      have hE9 : Ext w w9 := Below.grown hEw.out hg9 hEw.out.size (fun j hj => (O2.out.lt j hj).1)
      have HO9 := Lib.hid (show w9.ownsRow w.heap.size 63 6 (.slice a9 n9 c9) (k + 1) (entFlat (ps.take (k + 1))) ∧ Ext w w9 from ⟨by rw [HTK.out, entFlat_append]; exact hown9, hE9⟩)
      clear hown9 hg9 hE9
      go_wp2_with fail
      go_roundw
      case rel => exact ⟨k + 1, by omega, by go_num, ⟨_, _, _, rfl⟩, HO9⟩
      case measure => simp [intOf]; omega
    · obtain rfl : k = n := by omega
      have hall : ps.take k = ps := List.take_of_length_le (by rw [HN.out]; exact Nat.le_refl _)
      rw [hall] at hI
      clear hall
      go_wp2_with fail
      go_ret
      exact ⟨_, rfl, hI.out.1, hI.out.2⟩
def TellsBool14 (e : Ending) : Prop := ∃ b, e = .returned (.bool b)
set_option maxHeartbeats 8000000 in
theorem few14_any (cv : Value) (c : Term.C) (v : Value) (l : List Reg.Op) (w : World) (hcv : IsConf w cv c) (hv : Ops14 w v l) :
    Calls Try.prog 7 #[cv, v] w fun e w' => TellsBool14 e ∧ Ext w w' := by
  have HV := Lib.hid hv
  obtain ⟨a, cap, rfl, hcap, hmax, _⟩ := hv
  unfold maxLen at hmax
  obtain ⟨n, hn⟩ : ∃ n, l.length = n := ⟨_, rfl⟩
  have HN := Lib.hid hn
  rw [hn] at HV hcap ⊢
  obtain ⟨s, d, rfl, hs, hd⟩ := hcv
  obtain ⟨a0, n0, k0, rfl⟩ := hs.isSlice
  obtain ⟨a1, k1, rfl, hrl, hrm, hrows⟩ := hd.open
  obtain ⟨n1, hn1⟩ : ∃ z, c.shards.length = z := ⟨_, rfl⟩
  obtain ⟨tc, htc⟩ : ∃ z, c.term = z := ⟨_, rfl⟩
  unfold confV
  rw [hn1] at hrl ⊢
  rw [htc]
  unfold maxLen at hrm
  have HROWS := Lib.hid hrows
  have HN1 := Lib.hid hn1
  have hE1 : Ext w (w.alloc (.cells #[.int .i64 tc, .slice a0 n0 k0, .slice a1 n1 k1] 25)) := Ext.alloc _ _
  obtain ⟨w1, hw1⟩ : ∃ z, w.alloc (.cells #[.int .i64 tc, .slice a0 n0 k0, .slice a1 n1 k1] 25) = z := ⟨_, rfl⟩
  obtain ⟨q, hq⟩ : ∃ z, w.heap.size = z := ⟨_, rfl⟩
  have hc1 : w1.heap[q]? = some (.cells #[.int .i64 tc, .slice a0 n0 k0, .slice a1 n1 k1] 25 (0, 0)) := by rw [← hw1, ← hq]; exact heap_alloc_new _ _
  rw [hw1] at hE1
  have HW1 := Lib.hid (And.intro hw1 hq)
  have HE1 := Lib.hid (And.intro hE1 hc1)
  have y1 : w1.cell? ⟨q, 1, none⟩ = some (.slice a0 n0 k0) := cell_of_heap hc1 1
  have y2 : w1.cell? ⟨q, 2, none⟩ = some (.slice a1 n1 k1) := cell_of_heap hc1 2
  clear hn hs hd hE1 hw1 hq hc1 hrows htc hn1
  go_enter Try.func7, Try.ntmps7
  go_upto_region 1 with fail
  rw [HW1.out.1, HW1.out.2]
  go_wp2_with fail
  go_loopw [5, 23] (fun s i wx => ∃ (k : Nat) (M : Int) (wr : World), wr = wx ∧ k ≤ n ∧ s = .int .i64 M ∧ i = .int .i64 k ∧ Hid (Ext w1 wr)) (fun _ i _ => n - (intOf i).toNat)
  case atStart => exact ⟨0, _, _, rfl, by omega, rfl, rfl, Lib.hid (Ext.refl _)⟩
  case round =>
    obtain ⟨k, M, wo, hwo, hk, rfl, rfl, hE⟩ := hrel
    subst hwo
    by_cases hlt : k < n
    · have hkl : k < l.length := by rw [HN.out]; exact hlt
      obtain ⟨b, off, b1, m1, d1, b2, m2, d2, b3, m3, d3, rfl, hop⟩ := HV.out.at k hkl
      have ho := hop.below (HE1.out.1.trans hE.out)
      obtain ⟨o, hO⟩ : ∃ o, l[k] = o := ⟨_, rfl⟩
      rw [hO] at ho
      obtain ⟨p0, p1, p2, p3, hse, hsh, hta⟩ := ho
      obtain ⟨_, _, e3, ht1, ht2, _, ht3⟩ := hta
      injection e3 with e30 e31 e32
      subst e30 e31 e32
      obtain ⟨_, _, e4, hs1, hs2, hs3⟩ := hsh.open
      injection e4 with e40 e41 e42
      subst e40 e41 e42
      obtain ⟨OT, hOT⟩ : ∃ z, o.c.term = z := ⟨_, rfl⟩
      rw [hOT] at p0
      obtain ⟨mt, hmt⟩ : ∃ z, o.tail.length = z := ⟨_, rfl⟩
      obtain ⟨ms, hms⟩ : ∃ z, o.c.shards.length = z := ⟨_, rfl⟩
      have HTL := Lib.hid (And.intro hmt (And.intro ht3 (And.intro hms hs3)))
      rw [hmt] at p3 ht1
      rw [hms] at p2 hs1
      unfold maxLen at ht2 hs2
      obtain ⟨w2, hw2⟩ : ∃ z, wo.alloc (.cells #[.int .i64 OT, .slice b1 m1 d1, .slice b2 ms d2, .slice b3 mt d3] 41) = z := ⟨_, rfl⟩
      obtain ⟨r, hr⟩ : ∃ z, wo.heap.size = z := ⟨_, rfl⟩
      have hE2 : Ext wo w2 := by rw [← hw2]; exact Ext.alloc _ _
      have hB2 : w2.heap[r]? = some (.cells #[.int .i64 OT, .slice b1 m1 d1, .slice b2 ms d2, .slice b3 mt d3] 41 (0, 0)) := by rw [← hw2, ← hr]; exact heap_alloc_new _ _
      have HW2 := Lib.hid (And.intro hw2 hr)
      have HB2 := Lib.hid (And.intro hB2 hE2)
      have g0 := cell_of_heap hB2 0
      have g1 := cell_of_heap hB2 1
      have g2 := cell_of_heap hB2 2
      have g3 := cell_of_heap hB2 3
      simp only [List.getElem?_toArray, List.getElem?_cons_zero, List.getElem?_cons_succ] at g0 g1 g2 g3
      clear hop hse hsh ht3 hs3 hmt hms hOT hO hw2 hr hE2 hB2
      go_upto_region 5 with fail
      rw [HW2.out.1, HW2.out.2]
      go_wp2_with fail
      clear p0 p1 p2 p3
      go_loopw [5, 40] (fun s i wx => ∃ (j : Nat) (M2 : Int) (wi : World), wi = wx ∧ j ≤ mt ∧ s = .int .i64 M2 ∧ i = .int .i64 j ∧ Hid (Ext w2 wi)) (fun _ i _ => mt - (intOf i).toNat)
      case atStart => exact ⟨0, _, _, rfl, by omega, rfl, rfl, Lib.hid (Ext.refl _)⟩
      case round =>
        obtain ⟨j, M2, wi, hwi, hj, rfl, rfl, hI⟩ := hrel
        subst hwi
        by_cases hjt : j < mt
        · obtain ⟨be, oe, rfl, hh⟩ := HTL.out.2.1 j (by rw [HTL.out.1]; exact hjt)
          have hh2 := hh.below (HB2.out.2.trans hI.out)
          obtain ⟨tt, x0, x1, x2, x3, x4, x5, hti⟩ := hh2
          obtain ⟨ta, tn, tk, rfl⟩ := hti.isSlice
          obtain ⟨E, hE9⟩ : ∃ z, o.tail[j]'(by rw [HTL.out.1]; exact hjt) = z := ⟨_, rfl⟩
          rw [hE9] at x0 x1 x3 x4 x5
          obtain ⟨E0, E1, E2, E3, E4, E5⟩ := E
          simp only at x0 x1 x3 x4 x5
          clear hh hti hE9 g0 g1 g2 g3
          have hEx := Lib.hid (Ext.alloc wi (.cells #[.int .i64 E0, .int .i64 E1, .slice ta tn tk, .int .i64 E3, .int .i64 E4, .int .i64 E5] 63))
          go_wp2_with fail
          go_roundw
          case rel => exact ⟨j + 1, _, _, rfl, by omega, rfl, by go_num, Lib.hid (hI.out.trans (Ext.alloc _ _))⟩
          case measure => simp [intOf]; omega
        · obtain rfl : j = mt := by omega
          have q2 := cellExt hI.out g2
          clear g0 g1 g2 g3
          go_wp2_with fail
          go_loopw [5, 54] (fun s i wi2 => ∃ (j2 : Nat) (M3 : Int), j2 ≤ ms ∧ s = .int .i64 M3 ∧ i = .int .i64 j2 ∧ wi = wi2) (fun _ i _ => ms - (intOf i).toNat)
          case atStart => exact ⟨0, _, by omega, rfl, rfl, rfl⟩
          case round =>
            obtain ⟨j2, M3, hj2, rfl, rfl, hww⟩ := hrel
            subst hww
            by_cases hjs : j2 < ms
            · obtain ⟨bs, os, xs, rfl, hcx, hix⟩ := HTL.out.2.2.2 j2 (by rw [HTL.out.2.2.1]; exact hjs)
              have hcx2 := cellExt (HB2.out.2.trans hI.out) hcx
              obtain ⟨xa, xn, xk, rfl⟩ := hix.isSlice
              clear hcx hix
              go_wp2_with fail
              exact ⟨⟨j2 + 1, _, by omega, rfl, by simp, by first | trivial | rfl⟩, by simp [intOf]; omega⟩
            · obtain rfl : j2 = ms := by omega
              go_wp2_with fail
              go_roundw
              case rel => exact ⟨k + 1, _, _, rfl, by omega, rfl, by go_num, Lib.hid (hE.out.trans (HB2.out.2.trans hI.out))⟩
              case measure => simp [intOf]; omega
    · obtain rfl : k = n := by omega
      have y2 := cellExt hE.out y2
      go_wp2_with fail
      go_loopw [5, 68] (fun s i wi2 => ∃ (j2 : Nat) (M3 : Int), j2 ≤ n1 ∧ s = .int .i64 M3 ∧ i = .int .i64 j2 ∧ wo = wi2) (fun _ i _ => n1 - (intOf i).toNat)
      case atStart => exact ⟨0, _, by omega, rfl, rfl, rfl⟩
      case round =>
        obtain ⟨j2, M3, hj2, rfl, rfl, hww⟩ := hrel
        subst hww
        have HE := Lib.hid (HE1.out.1.trans hE.out)
        by_cases hjs : j2 < n1
        · obtain ⟨bs, os, xs, rfl, hcx, hix⟩ := HROWS.out j2 (by rw [HN1.out]; exact hjs)
          have hcx2 := cellExt HE.out hcx
          obtain ⟨xa, xn, xk, rfl⟩ := hix.isSlice
          clear hcx hix
          go_wp2_with fail
          exact ⟨⟨j2 + 1, _, by omega, rfl, by simp, by first | trivial | rfl⟩, by simp [intOf]; omega⟩
        · obtain rfl : j2 = n1 := by omega
          by_cases h40 : (k : Int) ≤ 40
          · go_wp2_with fail
            go_ret
            exact ⟨⟨_, rfl⟩, HE.out⟩
          · go_wp2_with fail
            go_ret
            exact ⟨⟨_, rfl⟩, HE.out⟩
end Go.Proofs.Ytkpcmedmiiohnaa
