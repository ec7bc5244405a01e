/-
  Merged: Layer 12: the statements' own, entries, mine.
-/
import Derived.Test.YtnoeconcpgdjlaaBsMsg
import Derived.Test.YtnoeconcpgdjlaaBsQuK

namespace Go.Proofs.Ytnoeconcpgdjlaa
set_option linter.unusedSimpArgs false
set_option linter.unusedVariables false
set_option maxRecDepth 100000
open Go.RowKit
/- Layer 12: the statements' own, entries, mine. -/
theorem build_own12 (w : World) (m : Msg.M) (rt et sv dv : Value) : (Instr.build 77 #[(0, .int .i64 m.kind), (1, .int .i64 m.src), (2, .int .i64 m.dst), (3, .int .i64 m.term), (4, .int .i64 m.shard), (5, .int .i64 m.number), (6, .bool m.is), (7, .agg #[.int .i64 m.reco.client, .int .i64 m.reco.number, rt, .string ⟨m.reco.data.toArray⟩]), (8, .agg #[.int .i64 m.ent.number, .int .i64 m.ent.kind, et, .int .i64 m.ent.tag, .int .i64 m.ent.term, .int .i64 m.ent.pos]), (9, .int .i64 m.ballot), (10, .int .i64 m.old), (11, .agg #[.int .i64 m.conf.term, sv, dv])]).run Try.prog w = .ok (.agg (msgCells m rt et sv dv)) w := by kernel_rfl
set_option maxHeartbeats 8000000 in
theorem own12m_any (v : Value) (m : Msg.M) (w : World) (hv : IsMsg w v m) : Calls Try.prog 44 #[v] w fun e w' => e = .returned v ∧ Ext w w' := by
  have hbx := box_msgR
  obtain ⟨a0, n0, k0, a1, n1, k1, a2, n2, k2, a3, n3, k3, rfl, h1, h2, h3, h4⟩ := hv.opened
  have hbd := build_own12
  have HM := Lib.hid (Msg7.new (m := m) 66 h1 h2 h3 h4)
  have hE0 := Ext.alloc w (.cells (msgCells m (.slice a0 n0 k0) (.slice a1 n1 k1) (.slice a2 n2 k2) (.slice a3 n3 k3)) 66)
  have H1 := Lib.hid h1
  have H2 := Lib.hid h2
  have H3 := Lib.hid h3
  have H4 := Lib.hid h4
  clear h1 h2 h3 h4 hv
  go_enter Try.func44, Try.ntmps44
  go_wp2_with (first
    | (refine allocM (by rfl) rfl ?_; intro W1 q hat1 hE1 hq1; have M1 := Lib.hid (HM.out.ext hE1.out); obtain ⟨C0, C1, C2, C3, C4, C5, C6⟩ := M1.out.at_.head; obtain ⟨R0, R1, R2, R3⟩ := M1.out.at_.reco; obtain ⟨N0, N1, N2, N3, N4, N5⟩ := M1.out.at_.ent; obtain ⟨V0, V1⟩ := M1.out.at_.votes; obtain ⟨S0, S1, S2⟩ := M1.out.at_.conf)
    | (refine putM (m2 := m) (r2 := .slice a0 n0 k0) (e2 := .slice a1 n1 k1) (s2 := .slice a2 n2 k2) (d2 := .slice a3 n3 k3) (by rfl) _ _ rfl rfl rfl hat1.out ⟨_, _, _, rfl⟩ ⟨_, _, _, rfl⟩ ⟨_, _, _, rfl⟩ ⟨_, _, _, rfl⟩ ?_; intro W2 hat2 hB2))
  have e1 : Ext w W1 := hE0.trans hE1.out
  have hq : w.heap.size ≤ q := by have := hq1.out; rw [World.size_alloc] at this; omega
  have e2 : Ext w W2 := Below.trans (B := w.heap.size) e1 (hB2.out.below hq e1.size)
  have hld := run_loadVar_mid (P := Try.prog) W2 q 0 77 _ _ (MsgAt.range hat2.out) Try.underlying77 rfl (by kernel_rfl)
  exact bodyPost_ret (v := .agg (msgCells m (.slice a0 n0 k0) (.slice a1 n1 k1) (.slice a2 n2 k2) (.slice a3 n3 k3))) (by simp [results, Try.results44, hld, asAddr, Act.put]) rfl ⟨rfl, e2⟩
theorem tER12 : ElemN Try.prog 27 64 (.agg #[.int .i64 0, .int .i64 0, .slice none 0 0, .int .i64 0, .int .i64 0, .int .i64 0]) 6 64 := ⟨Try.underlying27, by kernel_rfl, rfl, by omega⟩
set_option maxHeartbeats 8000000 in
/-- A row of the document's entries: the same rows of cuts. -/
theorem entries12l_any (v : Value) (ps : List (Value × Ent.E)) (w : World) (hv : SlN 6 w v ps.length (entFlat ps)) (hi : ∀ q ∈ ps, Ints w q.1 q.2.cut) (hl : ps.length ≤ 13107) :
    Calls Try.prog 20 #[v] w fun x w' => ∃ u, x = .returned u ∧ w'.ownsRow w.heap.size 64 6 u ps.length (entFlat ps) ∧ Ext w w' := by
  have HV := Lib.hid hv
  have HI := Lib.hid hi
  obtain ⟨a, cap, rfl, hcap, hmax, hnone, _, _⟩ := hv
  unfold maxLen at hmax
  obtain ⟨n, hn⟩ : ∃ n, ps.length = n := ⟨_, rfl⟩
  rw [hn] at HV hcap hl ⊢
  have HN := Lib.hid hn
  have te := tER12
  clear hi hn hnone
  go_enter Try.func20, Try.ntmps20
  go_wp2_with fail
  go_loopw [3, 8] (fun o i wr => ∃ k : Nat, k ≤ n ∧ i = .int .i64 k ∧ (∃ a n c, o = .slice a n c) ∧ Hid (wr.ownsRow w.heap.size 64 6 o k (entFlat (ps.take k)) ∧ Ext w wr)) (fun _ i _ => n - (intOf i).toNat)
  case atStart => exact ⟨0, by omega, rfl, ⟨_, _, _, rfl⟩, Lib.hid ⟨World.ownsRow_nil _ _ _ _, Ext.refl _⟩⟩
  case round =>
    obtain ⟨k, hk, rfl, ⟨ao, no, co, rfl⟩, hI⟩ := hrel
    by_cases hlt : k < n
    · have hkp : k < ps.length := by rw [HN.out]; exact hlt
      obtain ⟨_, _, e', _, _, _, hlen, hc⟩ := HV.out
      injection e' with e1 e2 e3
      obtain ⟨b, off, hab, hx0⟩ := hc (k * 6) (by rw [hlen]; omega)
      rw [← e1] at hab
      subst hab
      have hat : ∀ j, j < 6 → wr.cell? ⟨b, off + (k * 6 + j), none⟩ = [Value.int .i64 ps[k].2.number, .int .i64 ps[k].2.kind, ps[k].1, .int .i64 ps[k].2.tag, .int .i64 ps[k].2.term, .int .i64 ps[k].2.pos][j]? := fun j hj => by
        obtain ⟨b', off', hab', hcell⟩ := hc (k * 6 + j) (by rw [hlen]; omega)
        rw [← e1] at hab'
        injection hab' with hab'
        injection hab' with h1 h2
        subst h1 h2
        have hcw := cellExt hI.out.2 hcell
        rw [hcw, ← entFlat_at ps k j hkp hj]
        exact (List.getElem?_eq_getElem _).symm
      have hti := HI.out ps[k] (List.getElem_mem hkp)
      have htake : ps.take (k + 1) = ps.take k ++ [ps[k]] := List.take_succ_eq_append_getElem hkp
      obtain ⟨⟨t, E⟩, hP⟩ : ∃ z, ps[k] = z := ⟨_, rfl⟩
      rw [hP] at hat hti htake
      simp only at hat hti
      obtain ⟨ta, tn, tc, rfl⟩ := intsSlice hti
      have HT := Lib.hid hti
      have HTK := Lib.hid htake
      obtain ⟨e0, e1', e2', e3', e4', e5'⟩ := E
      have hidx : ∀ j, off + (k * 6 + j) = off + k * 6 + j := fun j => by omega
      have p0 : wr.cell? ⟨b, off + k * 6, none⟩ = some (.int .i64 e0) := hat 0 (by omega)
      have p1 : wr.cell? ⟨b, off + k * 6 + 1, none⟩ = some (.int .i64 e1') := hat 1 (by omega)
      have p2 : wr.cell? ⟨b, off + k * 6 + 2, none⟩ = some (.slice ta tn tc) := hat 2 (by omega)
      have p3 : wr.cell? ⟨b, off + k * 6 + 3, none⟩ = some (.int .i64 e3') := hat 3 (by omega)
      have p4 : wr.cell? ⟨b, off + k * 6 + 4, none⟩ = some (.int .i64 e4') := hat 4 (by omega)
      have p5 : wr.cell? ⟨b, off + k * 6 + 5, none⟩ = some (.int .i64 e5') := hat 5 (by omega)
      have hEa : Ext wr (wr.alloc (.cells #[.int .i64 e0, .int .i64 e1', .slice ta tn tc, .int .i64 e3', .int .i64 e4', .int .i64 e5'] 74)) := Ext.alloc _ _
      have hEb : Ext (wr.alloc (.cells #[.int .i64 e0, .int .i64 e1', .slice ta tn tc, .int .i64 e3', .int .i64 e4', .int .i64 e5'] 74)) ((wr.alloc (.cells #[.int .i64 e0, .int .i64 e1', .slice ta tn tc, .int .i64 e3', .int .i64 e4', .int .i64 e5'] 74)).alloc (.cells #[.int .i64 e0, .int .i64 e1', .slice ta tn tc, .int .i64 e3', .int .i64 e4', .int .i64 e5'] 64)) := Ext.alloc _ _
      have O2 := Lib.hid (rowExt (rowExt hI.out.1 hEa) hEb)
      have HSL := Lib.hid (SlN.one6 (T := 64) (wr.alloc (.cells #[.int .i64 e0, .int .i64 e1', .slice ta tn tc, .int .i64 e3', .int .i64 e4', .int .i64 e5'] 74)) (.slice ta tn tc) ⟨e0, e1', e2', e3', e4', e5'⟩)
      have HSL2 := Lib.hid (show SlN 6 ((wr.alloc (.cells #[.int .i64 e0, .int .i64 e1', .slice ta tn tc, .int .i64 e3', .int .i64 e4', .int .i64 e5'] 74)).alloc (.cells #[.int .i64 e0, .int .i64 e1', .slice ta tn tc, .int .i64 e3', .int .i64 e4', .int .i64 e5'] 64)) (.slice (some ⟨wr.heap.size + 1, 0, none⟩) 1 1) 1 (entFlat [(.slice ta tn tc, ⟨e0, e1', e2', e3', e4', e5'⟩)]) by have := HSL.out; rwa [World.size_alloc] at this)
      have hone := entFlat_one (w := w) (ps := [(.slice ta tn tc, ⟨e0, e1', e2', e3', e4', e5'⟩)]) (by intro q hq; obtain rfl := List.mem_singleton.1 hq; exact HT.out)
      have hk1 : k + 1 ≤ maxLen := by unfold maxLen; omega
      have hk2 : (k + 1) * 64 ≤ 140737488355328 := by omega
      have hEw := Lib.hid ((hI.out.2.trans hEa).trans hEb)
      have HKP := Lib.hid hkp
      clear hx0 hc hlen hat hti htake hP hEa hEb e1 e2 e3
      go_wp2_with (at_builtin; refine wpList_appN rfl (.tmp 12) (.tmp 14) te rfl rfl rfl O2.out HSL2.out hone hk1 hk2 hEw.out.size ?_; intro v9 w9 hown9 hg9)
      obtain ⟨a9, n9, c9, rfl⟩ := ownSlice hown9
      have hE9 : Ext w w9 := Below.grown hEw.out hg9 hEw.out.size (fun j hj => (O2.out.lt j hj).1)
      have HO9 := Lib.hid (show w9.ownsRow w.heap.size 64 6 (.slice a9 n9 c9) (k + 1) (entFlat (ps.take (k + 1))) ∧ Ext w w9 from ⟨by rw [HTK.out, entFlat_append]; exact hown9, hE9⟩)
      clear hown9 hg9 hE9
      go_wp2_with fail
      go_roundw
      case rel => exact ⟨k + 1, by omega, by go_num, ⟨_, _, _, rfl⟩, HO9⟩
      case measure => simp [intOf]; omega
    · obtain rfl : k = n := by omega
      have hall : ps.take k = ps := List.take_of_length_le (by rw [HN.out]; exact Nat.le_refl _)
      rw [hall] at hI
      clear hall
      go_wp2_with fail
      go_ret
      exact ⟨_, rfl, hI.out.1, hI.out.2⟩
theorem tEN12 : ElemN Try.prog 43 74 (.agg #[.int .i64 0, .int .i64 0, .slice none 0 0, .int .i64 0, .int .i64 0, .int .i64 0]) 6 64 := ⟨Try.underlying43, by kernel_rfl, rfl, by omega⟩
set_option maxHeartbeats 8000000 in
/-- A row of the program's entries: the same rows of cuts. -/
theorem mine12l_any (v : Value) (ps : List (Value × Ent.E)) (w : World) (hv : SlN 6 w v ps.length (entFlat ps)) (hi : ∀ q ∈ ps, Ints w q.1 q.2.cut) (hl : ps.length ≤ 13107) :
    Calls Try.prog 14 #[v] w fun x w' => ∃ u, x = .returned u ∧ w'.ownsRow w.heap.size 74 6 u ps.length (entFlat ps) ∧ Ext w w' := by
  have HV := Lib.hid hv
  have HI := Lib.hid hi
  obtain ⟨a, cap, rfl, hcap, hmax, hnone, _, _⟩ := hv
  unfold maxLen at hmax
  obtain ⟨n, hn⟩ : ∃ n, ps.length = n := ⟨_, rfl⟩
  rw [hn] at HV hcap hl ⊢
  have HN := Lib.hid hn
  have te := tEN12
  clear hi hn hnone
  go_enter Try.func14, Try.ntmps14
  go_wp2_with fail
  go_loopw [3, 8] (fun o i wr => ∃ k : Nat, k ≤ n ∧ i = .int .i64 k ∧ (∃ a n c, o = .slice a n c) ∧ Hid (wr.ownsRow w.heap.size 74 6 o k (entFlat (ps.take k)) ∧ Ext w wr)) (fun _ i _ => n - (intOf i).toNat)
  case atStart => exact ⟨0, by omega, rfl, ⟨_, _, _, rfl⟩, Lib.hid ⟨World.ownsRow_nil _ _ _ _, Ext.refl _⟩⟩
  case round =>
    obtain ⟨k, hk, rfl, ⟨ao, no, co, rfl⟩, hI⟩ := hrel
    by_cases hlt : k < n
    · have hkp : k < ps.length := by rw [HN.out]; exact hlt
      obtain ⟨_, _, e', _, _, _, hlen, hc⟩ := HV.out
      injection e' with e1 e2 e3
      obtain ⟨b, off, hab, hx0⟩ := hc (k * 6) (by rw [hlen]; omega)
      rw [← e1] at hab
      subst hab
      have hat : ∀ j, j < 6 → wr.cell? ⟨b, off + (k * 6 + j), none⟩ = [Value.int .i64 ps[k].2.number, .int .i64 ps[k].2.kind, ps[k].1, .int .i64 ps[k].2.tag, .int .i64 ps[k].2.term, .int .i64 ps[k].2.pos][j]? := fun j hj => by
        obtain ⟨b', off', hab', hcell⟩ := hc (k * 6 + j) (by rw [hlen]; omega)
        rw [← e1] at hab'
        injection hab' with hab'
        injection hab' with h1 h2
        subst h1 h2
        have hcw := cellExt hI.out.2 hcell
        rw [hcw, ← entFlat_at ps k j hkp hj]
        exact (List.getElem?_eq_getElem _).symm
      have hti := HI.out ps[k] (List.getElem_mem hkp)
      have htake : ps.take (k + 1) = ps.take k ++ [ps[k]] := List.take_succ_eq_append_getElem hkp
      obtain ⟨⟨t, E⟩, hP⟩ : ∃ z, ps[k] = z := ⟨_, rfl⟩
      rw [hP] at hat hti htake
      simp only at hat hti
      obtain ⟨ta, tn, tc, rfl⟩ := intsSlice hti
      have HT := Lib.hid hti
      have HTK := Lib.hid htake
      obtain ⟨e0, e1', e2', e3', e4', e5'⟩ := E
      have hidx : ∀ j, off + (k * 6 + j) = off + k * 6 + j := fun j => by omega
      have p0 : wr.cell? ⟨b, off + k * 6, none⟩ = some (.int .i64 e0) := hat 0 (by omega)
      have p1 : wr.cell? ⟨b, off + k * 6 + 1, none⟩ = some (.int .i64 e1') := hat 1 (by omega)
      have p2 : wr.cell? ⟨b, off + k * 6 + 2, none⟩ = some (.slice ta tn tc) := hat 2 (by omega)
      have p3 : wr.cell? ⟨b, off + k * 6 + 3, none⟩ = some (.int .i64 e3') := hat 3 (by omega)
      have p4 : wr.cell? ⟨b, off + k * 6 + 4, none⟩ = some (.int .i64 e4') := hat 4 (by omega)
      have p5 : wr.cell? ⟨b, off + k * 6 + 5, none⟩ = some (.int .i64 e5') := hat 5 (by omega)
      have hEa : Ext wr (wr.alloc (.cells #[.int .i64 e0, .int .i64 e1', .slice ta tn tc, .int .i64 e3', .int .i64 e4', .int .i64 e5'] 64)) := Ext.alloc _ _
      have hEb : Ext (wr.alloc (.cells #[.int .i64 e0, .int .i64 e1', .slice ta tn tc, .int .i64 e3', .int .i64 e4', .int .i64 e5'] 64)) ((wr.alloc (.cells #[.int .i64 e0, .int .i64 e1', .slice ta tn tc, .int .i64 e3', .int .i64 e4', .int .i64 e5'] 64)).alloc (.cells #[.int .i64 e0, .int .i64 e1', .slice ta tn tc, .int .i64 e3', .int .i64 e4', .int .i64 e5'] 74)) := Ext.alloc _ _
      have O2 := Lib.hid (rowExt (rowExt hI.out.1 hEa) hEb)
      have HSL := Lib.hid (SlN.one6 (T := 74) (wr.alloc (.cells #[.int .i64 e0, .int .i64 e1', .slice ta tn tc, .int .i64 e3', .int .i64 e4', .int .i64 e5'] 64)) (.slice ta tn tc) ⟨e0, e1', e2', e3', e4', e5'⟩)
      have HSL2 := Lib.hid (show SlN 6 ((wr.alloc (.cells #[.int .i64 e0, .int .i64 e1', .slice ta tn tc, .int .i64 e3', .int .i64 e4', .int .i64 e5'] 64)).alloc (.cells #[.int .i64 e0, .int .i64 e1', .slice ta tn tc, .int .i64 e3', .int .i64 e4', .int .i64 e5'] 74)) (.slice (some ⟨wr.heap.size + 1, 0, none⟩) 1 1) 1 (entFlat [(.slice ta tn tc, ⟨e0, e1', e2', e3', e4', e5'⟩)]) by have := HSL.out; rwa [World.size_alloc] at this)
      have hone := entFlat_one (w := w) (ps := [(.slice ta tn tc, ⟨e0, e1', e2', e3', e4', e5'⟩)]) (by intro q hq; obtain rfl := List.mem_singleton.1 hq; exact HT.out)
      have hk1 : k + 1 ≤ maxLen := by unfold maxLen; omega
      have hk2 : (k + 1) * 64 ≤ 140737488355328 := by omega
      have hEw := Lib.hid ((hI.out.2.trans hEa).trans hEb)
      have HKP := Lib.hid hkp
      clear hx0 hc hlen hat hti htake hP hEa hEb e1 e2 e3
      go_wp2_with (at_builtin; refine wpList_appN rfl (.tmp 12) (.tmp 14) te rfl rfl rfl O2.out HSL2.out hone hk1 hk2 hEw.out.size ?_; intro v9 w9 hown9 hg9)
      obtain ⟨a9, n9, c9, rfl⟩ := ownSlice hown9
      have hE9 : Ext w w9 := Below.grown hEw.out hg9 hEw.out.size (fun j hj => (O2.out.lt j hj).1)
      have HO9 := Lib.hid (show w9.ownsRow w.heap.size 74 6 (.slice a9 n9 c9) (k + 1) (entFlat (ps.take (k + 1))) ∧ Ext w w9 from ⟨by rw [HTK.out, entFlat_append]; exact hown9, hE9⟩)
      clear hown9 hg9 hE9
      go_wp2_with fail
      go_roundw
      case rel => exact ⟨k + 1, by omega, by go_num, ⟨_, _, _, rfl⟩, HO9⟩
      case measure => simp [intOf]; omega
    · obtain rfl : k = n := by omega
      have hall : ps.take k = ps := List.take_of_length_le (by rw [HN.out]; exact Nat.le_refl _)
      rw [hall] at hI
      clear hall
      go_wp2_with fail
      go_ret
      exact ⟨_, rfl, hI.out.1, hI.out.2⟩
end Go.Proofs.Ytnoeconcpgdjlaa
