/-
  Merged: Layer 12: a call of a script.
-/
import Derived.Test.YtnoeconcpgdjlaaBsQuG1
import Derived.Test.YtnoeconcpgdjlaaBsQuL

namespace Go.Proofs.Ytnoeconcpgdjlaa
set_option linter.unusedSimpArgs false
set_option linter.unusedVariables false
set_option maxRecDepth 100000
open Go.RowKit
/- Layer 12: a call of a script. -/
def opCells12 (o : Quo.Op) (vv rt et sv dv : Value) : Array Value := #[.int .i64 o.kind, .int .i64 o.tag, vv, .int .i64 o.term, .int .i64 o.pos, .int .i64 o.m.kind, .int .i64 o.m.src, .int .i64 o.m.dst, .int .i64 o.m.term, .int .i64 o.m.shard, .int .i64 o.m.number, .bool o.m.is, .int .i64 o.m.reco.client, .int .i64 o.m.reco.number, rt, .string ⟨o.m.reco.data.toArray⟩, .int .i64 o.m.ent.number, .int .i64 o.m.ent.kind, et, .int .i64 o.m.ent.tag, .int .i64 o.m.ent.term, .int .i64 o.m.ent.pos, .int .i64 o.m.ballot, .int .i64 o.m.old, .int .i64 o.m.conf.term, sv, dv]
/-- What a call's values read as. -/
structure IsOp12 (w : World) (o : Quo.Op) (vv rt et sv dv : Value) : Prop where
  hvv : Ints w vv o.v
  hrt : Ints w rt o.m.reco.tags
  het : Ints w et o.m.ent.cut
  hsv : Ints w sv o.m.conf.seqs
  hdv : IRows w dv o.m.conf.shards
theorem IsOp12.below {w w' : World} {o : Quo.Op} {vv rt et sv dv : Value} (h : IsOp12 w o vv rt et sv dv) (hb : Below w.heap.size w w') : IsOp12 w' o vv rt et sv dv := ⟨h.hvv.below hb, h.hrt.below hb, h.het.below hb, h.hsv.below hb, h.hdv.below hb⟩
theorem IsOp12.slices {w : World} {o : Quo.Op} {vv rt et sv dv : Value} (h : IsOp12 w o vv rt et sv dv) : (∃ a n c, vv = .slice a n c) ∧ (∃ a n c, rt = .slice a n c) ∧ (∃ a n c, et = .slice a n c) ∧ (∃ a n c, sv = .slice a n c) ∧ (∃ a n c, dv = .slice a n c) := ⟨intsSlice h.hvv, intsSlice h.hrt, intsSlice h.het, intsSlice h.hsv, irowsSlice h.hdv⟩
theorem IsOp12.msg {w : World} {o : Quo.Op} {vv rt et sv dv : Value} (h : IsOp12 w o vv rt et sv dv) : IsMsg w (.agg (msgCells o.m rt et sv dv)) o.m := ⟨_, _, _, _, rfl, h.hrt, h.het, h.hsv, h.hdv⟩
theorem box_op12 (w : World) (o : Quo.Op) (vv rt et sv dv : Value) (hv : ∃ a n c, vv = .slice a n c) (hr : ∃ a n c, rt = .slice a n c) (he : ∃ a n c, et = .slice a n c) (hs : ∃ a n c, sv = .slice a n c) (hd : ∃ a n c, dv = .slice a n c) : (Instr.box 68 (.agg (opCells12 o vv rt et sv dv))).run Try.prog w = .ok (.pointer (some ⟨w.heap.size, 0, none⟩)) (w.alloc (.cells (opCells12 o vv rt et sv dv) 68)) := by
  obtain ⟨_, _, _, rfl⟩ := hv
  obtain ⟨_, _, _, rfl⟩ := hr
  obtain ⟨_, _, _, rfl⟩ := he
  obtain ⟨_, _, _, rfl⟩ := hs
  obtain ⟨_, _, _, rfl⟩ := hd
  kernel_rfl
/-- A call's block. -/
def OpAt12 (w : World) (b : Nat) (o : Quo.Op) (vv rt et sv dv : Value) : Prop := w.heap[b]? = some (.cells (opCells12 o vv rt et sv dv) 68 (0, 0))
theorem opCells12_split (o : Quo.Op) (vv rt et sv dv : Value) : (opCells12 o vv rt et sv dv).toList = [.int .i64 o.kind, .int .i64 o.tag, vv, .int .i64 o.term, .int .i64 o.pos] ++ (msgCells o.m rt et sv dv).toList := rfl
theorem OpAt12.range {w : World} {b : Nat} {o : Quo.Op} {vv rt et sv dv : Value} (h : OpAt12 w b o vv rt et sv dv) : w.rangeAt b 5 (msgCells o.m rt et sv dv).toList := fun j v hj => by
  rw [cell_of_heap h, ← Array.getElem?_toList, opCells12_split, List.getElem?_append_right (by simp)]
  simpa using hj
set_option maxHeartbeats 1000000 in
theorem OpAt12.ldMsg {w : World} {b : Nat} {o : Quo.Op} {vv rt et sv dv : Value} (h : OpAt12 w b o vv rt et sv dv) : (Instr.loadAt 66 (.pointer (some ⟨b, 5, none⟩))).run Try.prog w = .ok (.agg (msgCells o.m rt et sv dv)) w :=
  run_loadAt_mid w b 5 66 (msgCells o.m rt et sv dv).toList _ h.range Try.underlying66 rfl (by kernel_rfl)
theorem build_entR12 (w : World) : (Instr.build 64 #[]).run Try.prog w = .ok (.agg (entCells12 (.slice none 0 0) Msg.ent0)) w := by kernel_rfl
def GivesDoes12 (B : Nat) (S K : Nat → Prop) (x : Nat) (w : World) (p : Quo.Pr) (o : Quo.Op) (e : Ending) (w' : World) : Prop := ∃ u, e = .returned (.tuple #[.agg (entCells12 u (p.doE o)), .int .i64 (p.doErr o)]) ∧ RowN w.heap.size w' u (p.doE o).cut ∧ LeavesPr B S K x w (p.doN o) w'
set_option maxHeartbeats 40000000 in
theorem does12_any {w : World} {B x : Nat} {S K : Nat → Prop} {p : Quo.Pr} (h : IsPr w B S K x p) (o : Quo.Op) (vv rt et sv dv : Value) (hsrc : Wf64 o.m.src) (hv : IsOp12 w o vv rt et sv dv) :
    Calls Try.prog 24 #[.pointer (some ⟨x, 0, none⟩), .agg (opCells12 o vv rt et sv dv)] w (GivesDoes12 B S K x w p o) := by
  obtain ⟨⟨a0, n0, c0, rfl⟩, ⟨a1, n1, c1, rfl⟩, ⟨a2, n2, c2, rfl⟩, ⟨a3, n3, c3, rfl⟩, ⟨a4, n4, c4, rfl⟩⟩ := hv.slices
  have hbx := fun w => box_op12 w o (.slice a0 n0 c0) (.slice a1 n1 c1) (.slice a2 n2 c2) (.slice a3 n3 c3) (.slice a4 n4 c4) ⟨_, _, _, rfl⟩ ⟨_, _, _, rfl⟩ ⟨_, _, _, rfl⟩ ⟨_, _, _, rfl⟩ ⟨_, _, _, rfl⟩
  have hb0 := build_entR12
  have H := Lib.hid h
  have HV := Lib.hid hv
  have HSRC := Lib.hid hsrc
  obtain ⟨wa, hwa⟩ : ∃ z, w.alloc (.cells (opCells12 o (.slice a0 n0 c0) (.slice a1 n1 c1) (.slice a2 n2 c2) (.slice a3 n3 c3) (.slice a4 n4 c4)) 68) = z := ⟨_, rfl⟩
  obtain ⟨q, hq⟩ : ∃ z, w.heap.size = z := ⟨_, rfl⟩
  have hEa : Ext w wa := by rw [← hwa]; exact Ext.alloc _ _
  have hsa : OpAt12 wa q o (.slice a0 n0 c0) (.slice a1 n1 c1) (.slice a2 n2 c2) (.slice a3 n3 c3) (.slice a4 n4 c4) := by unfold OpAt12; rw [← hwa, ← hq]; exact heap_alloc_new _ _
  have HWA := Lib.hid (And.intro hwa (And.intro hEa hsa))
  have HQ := Lib.hid hq
  clear h hv hsrc hwa hq hEa hsa
  go_enter Try.func24, Try.ntmps24
  go_upto_region 1 with (refine allocER12 (by rfl) rfl ?_; intro W1 q4 hat1 hE1 hq4)
  have hE1' := hE1.out
  have hq4' := hq4.out
  have hat1' := hat1.out
  rw [HWA.out.1] at hE1' hq4'
  rw [HQ.out]
  have HE1 := Lib.hid (HWA.out.2.1.trans hE1')
  have hop : OpAt12 W1 q o (.slice a0 n0 c0) (.slice a1 n1 c1) (.slice a2 n2 c2) (.slice a3 n3 c3) (.slice a4 n4 c4) := heap_ext HWA.out.2.2 hE1'
  have HOP := Lib.hid hop
  have HA1 := Lib.hid hat1'
  have HQ4 := Lib.hid (show w.heap.size ≤ q4 ∧ q4 < W1.heap.size from ⟨by have := HWA.out.2.1.size; omega, hat1'.lt⟩)
  have HP1 := Lib.hid (H.out.ext HE1.out)
  have y0 : W1.cell? ⟨q, 0, none⟩ = some (.int .i64 o.kind) := cell_of_heap hop 0
  have y1 : W1.cell? ⟨q, 1, none⟩ = some (.int .i64 o.tag) := cell_of_heap hop 1
  have y2 : W1.cell? ⟨q, 2, none⟩ = some (.slice a0 n0 c0) := cell_of_heap hop 2
  have y3 : W1.cell? ⟨q, 3, none⟩ = some (.int .i64 o.term) := cell_of_heap hop 3
  have y4 : W1.cell? ⟨q, 4, none⟩ = some (.int .i64 o.pos) := cell_of_heap hop 4
  obtain ⟨kd, hkd⟩ : ∃ z, o.kind = z := ⟨_, rfl⟩
  rw [hkd] at y0
  have HKD := Lib.hid hkd
  have hS0 : ∀ k, S k → k < w.heap.size := fun k hk => (H.out.lt hk).2
  have hK0 : ∀ k, K k → k < w.heap.size := fun k hk => (H.out.ltK hk).2
  have HSK := Lib.hid (And.intro hS0 hK0)
  clear hbx hE1 hq4 hat1 hE1' hq4' hat1' hop hkd hS0 hK0
  have hmade : ∀ (p' : Quo.Pr) (u : Value) (em : Ent.E) (er : Int) (w2 w5 : World), p.doN o = p' → p.doE o = em → p.doErr o = er → (∃ a n c, u = .slice a n c) → RowN W1.heap.size w2 u em.cut → LeavesPr B S K x W1 p' w2 → But q4 w2 w5 → ∀ e, e = .returned (.tuple #[.agg (entCells12 u em), .int .i64 er]) → GivesDoes12 B S K x w p o e w5 := fun p' u em er w2 w5 h1 h2 h3 h4 h5 h6 h7 e he => by
    unfold GivesDoes12
    rw [h1, h2, h3]
    exact ⟨u, he, (h5.blocks fun k hk => h7.block k (h5.lt k hk).2 (by have := (h5.lt k hk).1; have := HQ4.out.2; omega)).lower HE1.out.size, h6.fill HE1.out HQ4.out.1 HQ4.out.2 HSK.out.1 HSK.out.2 h7⟩
  have HMADE := Lib.hid hmade
  clear hmade
  by_cases e0 : kd = 0
  · subst e0
    have HD := Lib.hid (show p.doN o = p.next (Quo.cutE o.v) (p.mayCut p.z o.v) ∧ p.doE o = p.made (Quo.cutE o.v) (p.mayCut p.z o.v) ∧ p.doErr o = p.err (Quo.cutE o.v) (p.mayCut p.z o.v) from ⟨by simp [Quo.Pr.doN, HKD.out], by simp [Quo.Pr.doE, HKD.out], by simp [Quo.Pr.doErr, HKD.out]⟩)
    go_wp2_with fail
    refine (cut12_any HP1.out _ o.v (HV.out.hvv.below HE1.out)).mono ?_
    rintro e w2 ⟨u, rfl, hu, hl⟩
    obtain ⟨ua, un, uc, rfl⟩ := intsSlice hu.row.ints
    rw [← HD.out.1] at hl
    rw [← HD.out.2.1] at hu
    rw [← HD.out.2.1, ← HD.out.2.2]
    obtain ⟨em, hem⟩ : ∃ z, p.doE o = z := ⟨_, rfl⟩
    obtain ⟨er, her⟩ : ∃ z, p.doErr o = z := ⟨_, rfl⟩
    rw [hem] at hu
    rw [hem, her]
    have ha2 : EAtR12 w2 q4 (.slice none 0 0) Msg.ent0 := by
      obtain ⟨S', K', _, ht, _⟩ := hl
      exact HA1.out.block (ht.block q4 HQ4.out.2 (fun hs => by have := HSK.out.1 _ hs; have := HQ4.out.1; omega))
    have HU := Lib.hid hu
    have HL := Lib.hid hl
    have HEM := Lib.hid (And.intro hem her)
    have HA2 := Lib.hid ha2
    clear hu hl hem her ha2 y0 y1 y2 y3 y4
    go_wp2_with (first
      | (refine allocE12 (by rfl) rfl ?_; intro W3 q3 hat3 hE3 hq3)
      | (refine putE12 (t2 := .slice ua un uc) (e2 := em) (by rfl) _ _ rfl rfl rfl hat3.out ⟨_, _, _, rfl⟩ ?_; intro W4 hat4 hB4; have hle := hat4.out.ld ⟨_, _, _, rfl⟩; have hE4 := Lib.hid (Ext.newQ11 hE3.out (Nat.le_of_eq hq3.out.symm) hB4.out); have hA4 := Lib.hid (HA2.out.ext hE4.out))
      | (refine ldAny (by rfl) _ rfl rfl hle ?_)
      | (refine putER12 (t2 := .slice ua un uc) (e2 := em) (by rfl) _ _ rfl rfl rfl hA4.out ⟨_, _, _, rfl⟩ ?_; intro W5 hat5 hB5))
    have hld := hat5.out.ldVar ⟨_, _, _, rfl⟩
    refine bodyPost_ret (v := .tuple #[.agg (entCells12 (.slice ua un uc) em), .int .i64 er]) (by simp [results, Try.results24, hld, asAddr, Act.put]) rfl ?_
    exact HMADE.out _ _ _ _ _ _ rfl HEM.out.1 HEM.out.2 ⟨_, _, _, rfl⟩ (HU.out.ext hE4.out) (HL.out.ext hE4.out) hB5.out _ rfl
  by_cases e1 : kd = 1
  · subst e1
    have HD := Lib.hid (show p.doN o = p.next (Quo.trimE o.tag o.term o.pos) (p.mayTrim o.term) ∧ p.doE o = p.made (Quo.trimE o.tag o.term o.pos) (p.mayTrim o.term) ∧ p.doErr o = p.err (Quo.trimE o.tag o.term o.pos) (p.mayTrim o.term) from ⟨by simp [Quo.Pr.doN, HKD.out], by simp [Quo.Pr.doE, HKD.out], by simp [Quo.Pr.doErr, HKD.out]⟩)
    go_wp2_with fail
    refine (trim12_any HP1.out o.tag o.term o.pos).mono ?_
    rintro e w2 ⟨u, rfl, hu, hl⟩
    obtain ⟨ua, un, uc, rfl⟩ := intsSlice hu.row.ints
    rw [← HD.out.1] at hl
    rw [← HD.out.2.1] at hu
    rw [← HD.out.2.1, ← HD.out.2.2]
    obtain ⟨em, hem⟩ : ∃ z, p.doE o = z := ⟨_, rfl⟩
    obtain ⟨er, her⟩ : ∃ z, p.doErr o = z := ⟨_, rfl⟩
    rw [hem] at hu
    rw [hem, her]
    have ha2 : EAtR12 w2 q4 (.slice none 0 0) Msg.ent0 := by
      obtain ⟨S', K', _, ht, _⟩ := hl
      exact HA1.out.block (ht.block q4 HQ4.out.2 (fun hs => by have := HSK.out.1 _ hs; have := HQ4.out.1; omega))
    have HU := Lib.hid hu
    have HL := Lib.hid hl
    have HEM := Lib.hid (And.intro hem her)
    have HA2 := Lib.hid ha2
    clear hu hl hem her ha2 y0 y1 y2 y3 y4
    go_wp2_with (first
      | (refine allocE12 (by rfl) rfl ?_; intro W3 q3 hat3 hE3 hq3)
      | (refine putE12 (t2 := .slice ua un uc) (e2 := em) (by rfl) _ _ rfl rfl rfl hat3.out ⟨_, _, _, rfl⟩ ?_; intro W4 hat4 hB4; have hle := hat4.out.ld ⟨_, _, _, rfl⟩; have hE4 := Lib.hid (Ext.newQ11 hE3.out (Nat.le_of_eq hq3.out.symm) hB4.out); have hA4 := Lib.hid (HA2.out.ext hE4.out))
      | (refine ldAny (by rfl) _ rfl rfl hle ?_)
      | (refine putER12 (t2 := .slice ua un uc) (e2 := em) (by rfl) _ _ rfl rfl rfl hA4.out ⟨_, _, _, rfl⟩ ?_; intro W5 hat5 hB5))
    have hld := hat5.out.ldVar ⟨_, _, _, rfl⟩
    refine bodyPost_ret (v := .tuple #[.agg (entCells12 (.slice ua un uc) em), .int .i64 er]) (by simp [results, Try.results24, hld, asAddr, Act.put]) rfl ?_
    exact HMADE.out _ _ _ _ _ _ rfl HEM.out.1 HEM.out.2 ⟨_, _, _, rfl⟩ (HU.out.ext hE4.out) (HL.out.ext hE4.out) hB5.out _ rfl
  have HE := Lib.hid (show p.doE o = Msg.ent0 by simp [Quo.Pr.doE, HKD.out, e0, e1])
  by_cases e2 : kd = 2
  · subst e2
    have hlm := HOP.out.ldMsg
    obtain ⟨mv, hmv⟩ : ∃ z : Value, .agg (msgCells o.m (.slice a1 n1 c1) (.slice a2 n2 c2) (.slice a3 n3 c3) (.slice a4 n4 c4)) = z := ⟨_, rfl⟩
    have HIM := Lib.hid (show ∀ w', Ext w w' → IsMsg w' mv o.m from fun w' ht => by rw [← hmv]; exact (HV.out.below ht).msg)
    rw [hmv] at hlm
    clear hmv
    go_wp2_with (refine ldAny (by rfl) _ rfl rfl hlm ?_)
    refine (own12m_any mv o.m W1 (HIM.out W1 HE1.out)).mono ?_
    rintro e w1 ⟨rfl, hE2⟩
    have HE2 := Lib.hid hE2
    clear hE2 hlm
    go_wp2_with fail
    refine (heard12_any (HP1.out.ext HE2.out) mv o.m (HIM.out w1 (HE1.out.trans HE2.out)) HSRC.out).mono ?_
    rintro e w2 ⟨rfl, hl⟩
    have HL := Lib.hid (LeavesPr.since HE2.out hl)
    have ha2 : EAtR12 w2 q4 (.slice none 0 0) Msg.ent0 := by
      obtain ⟨S', K', _, ht, _⟩ := HL.out
      exact HA1.out.block (ht.block q4 HQ4.out.2 (fun hs => by have := HSK.out.1 _ hs; have := HQ4.out.1; omega))
    have HA2 := Lib.hid ha2
    obtain ⟨b, hb⟩ : ∃ z, p.hears o.m = z := ⟨_, rfl⟩
    rw [hb]
    have HN := Lib.hid (show p.doN o = p.hear o.m ∧ p.doErr o = (if b = true then 0 else 1) from ⟨by simp [Quo.Pr.doN, HKD.out], by simp [Quo.Pr.doErr, HKD.out, hb]⟩)
    clear hl ha2 hb
    cases b with
    | true =>
      go_wp2_with (refine putER12 (t2 := .slice none 0 0) (e2 := Msg.ent0) (by rfl) _ _ rfl rfl rfl HA2.out noSlice ?_; intro W5 hat5 hB5)
      have hld := hat5.out.ldVar noSlice
      refine bodyPost_ret (v := .tuple #[.agg (entCells12 (.slice none 0 0) Msg.ent0), .int .i64 0]) (by simp [results, Try.results24, hld, asAddr, Act.put]) rfl ?_
      exact HMADE.out _ _ _ _ _ _ HN.out.1 HE.out HN.out.2 noSlice (RowN.nil _ _) HL.out hB5.out _ rfl
    | false =>
      go_wp2_with (refine putER12 (t2 := .slice none 0 0) (e2 := Msg.ent0) (by rfl) _ _ rfl rfl rfl HA2.out noSlice ?_; intro W5 hat5 hB5)
      have hld := hat5.out.ldVar noSlice
      refine bodyPost_ret (v := .tuple #[.agg (entCells12 (.slice none 0 0) Msg.ent0), .int .i64 1]) (by simp [results, Try.results24, hld, asAddr, Act.put]) rfl ?_
      exact HMADE.out _ _ _ _ _ _ HN.out.1 HE.out HN.out.2 noSlice (RowN.nil _ _) HL.out hB5.out _ rfl
  have HN := Lib.hid (show p.doN o = p ∧ p.doErr o = 0 from ⟨by simp [Quo.Pr.doN, HKD.out, e0, e1, e2], by simp [Quo.Pr.doErr, HKD.out, e0, e1, e2]⟩)
  go_wp2_with (refine putER12 (t2 := .slice none 0 0) (e2 := Msg.ent0) (by rfl) _ _ rfl rfl rfl HA1.out noSlice ?_; intro W5 hat5 hB5)
  have hld := hat5.out.ldVar noSlice
  refine bodyPost_ret (v := .tuple #[.agg (entCells12 (.slice none 0 0) Msg.ent0), .int .i64 0]) (by simp [results, Try.results24, hld, asAddr, Act.put]) rfl ?_
  exact HMADE.out _ _ _ _ _ _ HN.out.1 HE.out HN.out.2 noSlice (RowN.nil _ _) (LeavesPr.refl HP1.out (Ext.refl _)) hB5.out _ rfl
end Go.Proofs.Ytnoeconcpgdjlaa
