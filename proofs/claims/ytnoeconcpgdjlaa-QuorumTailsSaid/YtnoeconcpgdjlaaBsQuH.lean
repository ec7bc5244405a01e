/-
  Merged: Layer 12: Cut, Trim.
-/
import Derived.Test.YtnoeconcpgdjlaaBsQuG

namespace Go.Proofs.Ytnoeconcpgdjlaa
set_option linter.unusedSimpArgs false
set_option linter.unusedVariables false
set_option maxRecDepth 100000
open Go.RowKit Go.ChangeMaps
/- Layer 12: Cut, Trim. -/
theorem LeavesPr.fill {w w1 w2 w3 : World} {B x q : Nat} {S K : Nat → Prop} {p : Quo.Pr} (h : LeavesPr B S K x w1 p w2) (hE : Ext w w1) (hq : w.heap.size ≤ q) (hq1 : q < w1.heap.size) (hS : ∀ k, S k → k < w.heap.size) (hK : ∀ k, K k → k < w.heap.size) (hb : But q w2 w3) : LeavesPr B S K x w p w3 := by
  obtain ⟨S', K', h1, h2, h3, h4⟩ := h
  refine ⟨S', K', h1.keep fun k hk hs => hb.block k hk (fun e => ?_), ((TwS.ext hE).trans h2).andThen (TwS.but (S := fun k => k = q) hb rfl) (fun i hi e => by omega), fun k hk => h3 k (Nat.lt_of_lt_of_le hk hE.size), fun k hk => h4 k (Nat.lt_of_lt_of_le hk hE.size)⟩
  subst e
  rcases hs with hs | hs
  · have := hS _ (h3 _ hq1 hs)
    omega
  · have := hK _ (h4 _ hq1 hs)
    omega
theorem build_cut12 (w : World) (v : Value) (ns : List Int) (hv : ∃ a n c, v = .slice a n c) : (Instr.build 74 #[(1, .int .i64 1), (2, v)]).run Try.prog w = .ok (.agg (entCells12 v (Quo.cutE ns))) w := by
  obtain ⟨a, n, c, rfl⟩ := hv
  kernel_rfl
theorem build_trim12 (w : World) (tag t pos : Int) : (Instr.build 74 #[(1, .int .i64 2), (3, .int .i64 tag), (4, .agg #[.int .i64 t, .int .i64 pos])]).run Try.prog w = .ok (.agg (entCells12 (.slice none 0 0) (Quo.trimE tag t pos))) w := by kernel_rfl
theorem box_prp12 (w : World) (x : Nat) : (Instr.box 54 (.pointer (some ⟨x, 0, none⟩))).run Try.prog w = .ok (.pointer (some ⟨w.heap.size, 0, none⟩)) (w.alloc (.cells #[.pointer (some ⟨x, 0, none⟩)] 54)) := by kernel_rfl
theorem box_ints12 (w : World) (v : Value) (hv : ∃ a n c, v = .slice a n c) : (Instr.box 22 v).run Try.prog w = .ok (.pointer (some ⟨w.heap.size, 0, none⟩)) (w.alloc (.cells #[v] 22)) := by
  obtain ⟨a, n, c, rfl⟩ := hv
  kernel_rfl
theorem box_seq12 (w : World) (t pos : Int) : (Instr.box 58 (.agg #[.int .i64 t, .int .i64 pos])).run Try.prog w = .ok (.pointer (some ⟨w.heap.size, 0, none⟩)) (w.alloc (.cells #[.int .i64 t, .int .i64 pos] 58)) := by kernel_rfl
set_option maxHeartbeats 40000000 in
theorem cut12_any {w : World} {B x : Nat} {S K : Nat → Prop} {p : Quo.Pr} (h : IsPr w B S K x p) (v : Value) (ns : List Int) (hv : Ints w v ns) :
    Calls Try.prog 29 #[.pointer (some ⟨x, 0, none⟩), v] w (GivesMade12 B S K x w (p.next (Quo.cutE ns) (p.mayCut p.z ns)) (p.made (Quo.cutE ns) (p.mayCut p.z ns)) (p.err (Quo.cutE ns) (p.mayCut p.z ns))) := by
  obtain ⟨va, vn, vc, rfl⟩ := intsSlice hv
  have hbx := fun w => box_prp12 w x
  have hby := fun w => box_ints12 w (.slice va vn vc) ⟨_, _, _, rfl⟩
  have hbc := fun w => build_cut12 w (.slice va vn vc) ns ⟨_, _, _, rfl⟩
  have H := Lib.hid h
  have HV := Lib.hid hv
  obtain ⟨wa, hwa⟩ : ∃ z, (w.alloc (.cells #[.pointer (some ⟨x, 0, none⟩)] 54)).alloc (.cells #[.slice va vn vc] 22) = z := ⟨_, rfl⟩
  obtain ⟨q, hq⟩ : ∃ z, w.heap.size = z := ⟨_, rfl⟩
  have hEa : Ext w wa := by rw [← hwa]; exact (Ext.alloc _ _).trans (Ext.alloc _ _)
  have hq0 : wa.heap[q]? = some (.cells #[.pointer (some ⟨x, 0, none⟩)] 54 (0, 0)) := by rw [← hwa, ← hq]; exact heap_ext (heap_alloc_new _ _) (Ext.alloc _ _)
  have hq1 : wa.heap[q + 1]? = some (.cells #[.slice va vn vc] 22 (0, 0)) := by rw [← hwa, ← hq, show w.heap.size + 1 = (w.alloc (.cells #[.pointer (some ⟨x, 0, none⟩)] 54)).heap.size from (World.size_alloc _ _).symm]; exact heap_alloc_new _ _
  have HWA := Lib.hid (And.intro hwa (And.intro hEa (And.intro hq0 hq1)))
  have HQ := Lib.hid hq
  clear h hv hwa hq hEa hq0 hq1
  go_enter Try.func29, Try.ntmps29
  go_upto_region 1 with (refine allocE12 (by rfl) rfl ?_; intro W1 q4 hat1 hE1 hq4)
  have hE1' := hE1.out
  have hq4' := hq4.out
  have hat1' := hat1.out
  rw [HWA.out.1] at hE1' hq4'
  rw [HQ.out]
  have HE1 := Lib.hid (HWA.out.2.1.trans hE1')
  have HA1 := Lib.hid (And.intro (heap_ext HWA.out.2.2.1 hE1') (And.intro (heap_ext HWA.out.2.2.2 hE1') hat1'))
  have HQ4 := Lib.hid (show w.heap.size ≤ q4 ∧ q4 < W1.heap.size from ⟨by have := HWA.out.2.1.size; omega, hat1'.lt⟩)
  have y0 : W1.cell? ⟨q, 0, none⟩ = some (.pointer (some ⟨x, 0, none⟩)) := cell_of_heap HA1.out.1 0
  have y1 : W1.cell? ⟨q + 1, 0, none⟩ = some (.slice va vn vc) := cell_of_heap HA1.out.2.1 0
  clear hbx hby hE1 hq4 hat1 hE1' hq4' hat1'
  go_wp2_with fail
  have h1 := H.out.ext HE1.out
  refine (next12_cut h1 (Quo.cutE ns) (.slice va vn vc) (HV.out.below HE1.out) (.pointer (some ⟨q, 0, none⟩)) (.pointer (some ⟨q + 1, 0, none⟩)) (p.mayCut p.z ns) (Quo.fits_cut h1.ok p.z ns) (fun w' hE => cutMay12_any (h1.ext hE) (.slice va vn vc) ns (heap_ext HA1.out.1 hE) (heap_ext HA1.out.2.1 hE) (HV.out.below (HE1.out.trans hE)))).mono ?_
  rintro e w2 ⟨u, rfl, hu, hl⟩
  obtain ⟨ua, un, uc, rfl⟩ := intsSlice hu.row.ints
  obtain ⟨em, hem⟩ : ∃ z, p.made (Quo.cutE ns) (p.mayCut p.z ns) = z := ⟨_, rfl⟩
  obtain ⟨er, her⟩ : ∃ z, p.err (Quo.cutE ns) (p.mayCut p.z ns) = z := ⟨_, rfl⟩
  rw [hem] at hu
  have HU := Lib.hid hu
  have HL := Lib.hid hl
  have HEM := Lib.hid (And.intro hem her)
  rw [hem, her]
  have ha2 : EAt12 w2 q4 (.slice none 0 0) Msg.ent0 := by
    obtain ⟨S', K', _, ht, _⟩ := hl
    exact HA1.out.2.2.block (ht.block q4 HQ4.out.2 (fun hs => by have := (H.out.lt hs).2; have := HQ4.out.1; omega))
  have HA2 := Lib.hid ha2
  clear h1 hu hl hem her ha2 y0 y1
  go_wp2_with (refine putE12 (t2 := .slice ua un uc) (e2 := em) (by rfl) _ _ rfl rfl rfl HA2.out ⟨_, _, _, rfl⟩ ?_; intro W3 hat3 hB3)
  have hld := hat3.out.ldVar ⟨_, _, _, rfl⟩
  refine bodyPost_ret (v := .tuple #[.agg (entCells12 (.slice ua un uc) em), .int .i64 er]) (by simp [results, Try.results29, hld, asAddr, Act.put]) rfl ?_
  rw [HEM.out.1, HEM.out.2]
  exact ⟨_, rfl, (HU.out.blocks fun k hk => hB3.out.block k (HU.out.lt k hk).2 (by have := (HU.out.lt k hk).1; have := HQ4.out.2; omega)).lower HE1.out.size, HL.out.fill HE1.out HQ4.out.1 HQ4.out.2 (fun k hk => (H.out.lt hk).2) (fun k hk => (H.out.ltK hk).2) hB3.out⟩
set_option maxHeartbeats 40000000 in
theorem trim12_any {w : World} {B x : Nat} {S K : Nat → Prop} {p : Quo.Pr} (h : IsPr w B S K x p) (tag t pos : Int) :
    Calls Try.prog 43 #[.pointer (some ⟨x, 0, none⟩), .int .i64 tag, .agg #[.int .i64 t, .int .i64 pos]] w (GivesMade12 B S K x w (p.next (Quo.trimE tag t pos) (p.mayTrim t)) (p.made (Quo.trimE tag t pos) (p.mayTrim t)) (p.err (Quo.trimE tag t pos) (p.mayTrim t))) := by
  have hbx := fun w => box_prp12 w x
  have hby := fun w => box_seq12 w t pos
  have hbc := fun w => build_trim12 w tag t pos
  have H := Lib.hid h
  obtain ⟨wa, hwa⟩ : ∃ z, (w.alloc (.cells #[.pointer (some ⟨x, 0, none⟩)] 54)).alloc (.cells #[.int .i64 t, .int .i64 pos] 58) = z := ⟨_, rfl⟩
  obtain ⟨q, hq⟩ : ∃ z, w.heap.size = z := ⟨_, rfl⟩
  have hEa : Ext w wa := by rw [← hwa]; exact (Ext.alloc _ _).trans (Ext.alloc _ _)
  have hq0 : wa.heap[q]? = some (.cells #[.pointer (some ⟨x, 0, none⟩)] 54 (0, 0)) := by rw [← hwa, ← hq]; exact heap_ext (heap_alloc_new _ _) (Ext.alloc _ _)
  have hq1 : wa.heap[q + 1]? = some (.cells #[.int .i64 t, .int .i64 pos] 58 (0, 0)) := by rw [← hwa, ← hq, show w.heap.size + 1 = (w.alloc (.cells #[.pointer (some ⟨x, 0, none⟩)] 54)).heap.size from (World.size_alloc _ _).symm]; exact heap_alloc_new _ _
  have HWA := Lib.hid (And.intro hwa (And.intro hEa (And.intro hq0 hq1)))
  have HQ := Lib.hid hq
  clear h hwa hq hEa hq0 hq1
  go_enter Try.func43, Try.ntmps43
  go_upto_region 1 with (refine allocE12 (by rfl) rfl ?_; intro W1 q4 hat1 hE1 hq4)
  have hE1' := hE1.out
  have hq4' := hq4.out
  have hat1' := hat1.out
  rw [HWA.out.1] at hE1' hq4'
  rw [HQ.out]
  have HE1 := Lib.hid (HWA.out.2.1.trans hE1')
  have HA1 := Lib.hid (And.intro (heap_ext HWA.out.2.2.1 hE1') (And.intro (heap_ext HWA.out.2.2.2 hE1') hat1'))
  have HQ4 := Lib.hid (show w.heap.size ≤ q4 ∧ q4 < W1.heap.size from ⟨by have := HWA.out.2.1.size; omega, hat1'.lt⟩)
  have y0 : W1.cell? ⟨q, 0, none⟩ = some (.pointer (some ⟨x, 0, none⟩)) := cell_of_heap HA1.out.1 0
  have y1 : W1.cell? ⟨q + 1, 0, none⟩ = some (.int .i64 t) := cell_of_heap HA1.out.2.1 0
  have y2 : W1.cell? ⟨q + 1, 1, none⟩ = some (.int .i64 pos) := cell_of_heap HA1.out.2.1 1
  clear hbx hby hE1 hq4 hat1 hE1' hq4' hat1'
  go_wp2_with fail
  have h1 := H.out.ext HE1.out
  refine (next12_trim h1 (Quo.trimE tag t pos) (.slice none 0 0) (ints0 _) (.pointer (some ⟨q + 1, 0, none⟩)) (.pointer (some ⟨q, 0, none⟩)) (p.mayTrim t) (Quo.fits_trim p tag t pos _) (fun w' hE => trimMay12_any (h1.ext hE) t pos (heap_ext HA1.out.2.1 hE) (heap_ext HA1.out.1 hE))).mono ?_
  rintro e w2 ⟨u, rfl, hu, hl⟩
  obtain ⟨ua, un, uc, rfl⟩ := intsSlice hu.row.ints
  obtain ⟨em, hem⟩ : ∃ z, p.made (Quo.trimE tag t pos) (p.mayTrim t) = z := ⟨_, rfl⟩
  obtain ⟨er, her⟩ : ∃ z, p.err (Quo.trimE tag t pos) (p.mayTrim t) = z := ⟨_, rfl⟩
  rw [hem] at hu
  have HU := Lib.hid hu
  have HL := Lib.hid hl
  have HEM := Lib.hid (And.intro hem her)
  rw [hem, her]
  have ha2 : EAt12 w2 q4 (.slice none 0 0) Msg.ent0 := by
    obtain ⟨S', K', _, ht, _⟩ := hl
    exact HA1.out.2.2.block (ht.block q4 HQ4.out.2 (fun hs => by have := (H.out.lt hs).2; have := HQ4.out.1; omega))
  have HA2 := Lib.hid ha2
  clear h1 hu hl hem her ha2 y0 y1 y2
  go_wp2_with (refine putE12 (t2 := .slice ua un uc) (e2 := em) (by rfl) _ _ rfl rfl rfl HA2.out ⟨_, _, _, rfl⟩ ?_; intro W3 hat3 hB3)
  have hld := hat3.out.ldVar ⟨_, _, _, rfl⟩
  refine bodyPost_ret (v := .tuple #[.agg (entCells12 (.slice ua un uc) em), .int .i64 er]) (by simp [results, Try.results43, hld, asAddr, Act.put]) rfl ?_
  rw [HEM.out.1, HEM.out.2]
  exact ⟨_, rfl, (HU.out.blocks fun k hk => hB3.out.block k (HU.out.lt k hk).2 (by have := (HU.out.lt k hk).1; have := HQ4.out.2; omega)).lower HE1.out.size, HL.out.fill HE1.out HQ4.out.1 HQ4.out.2 (fun k hk => (H.out.lt hk).2) (fun k hk => (H.out.ltK hk).2) hB3.out⟩
end Go.Proofs.Ytnoeconcpgdjlaa
