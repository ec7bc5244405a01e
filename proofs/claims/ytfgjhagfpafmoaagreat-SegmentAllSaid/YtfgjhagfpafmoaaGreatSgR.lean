/-
  Merged: Layer 9, the document's answers: what a row of frames says (Read), a segment (Of, Open).
-/
import Derived.Test.YtfgjhagfpafmoaaGreatBsMath
import Derived.Test.YtfgjhagfpafmoaaGreatBsRec
import Derived.Test.YtfgjhagfpafmoaaGreatPgT
import Derived.Test.YtfgjhagfpafmoaaGreatSgJ
import Derived.Test.YtfgjhagfpafmoaaGreatSgM

namespace Go.Proofs.YtfgjhagfpafmoaaGreat
set_option linter.unusedSimpArgs false
set_option linter.unusedVariables false
set_option maxRecDepth 100000
open Go.ChangeShapes Go.WideShapes Go.ChangeAt Go.RowKit
/- Layer 9, the document's answers: what a row of frames says (Read), a segment (Of, Open). -/
def whatV (u : Value) (t : Nat) (b : Bool) : Value := .agg #[u, .int .i64 (t : Nat), .bool b]
theorem fill_what {w : World} {q : Nat} {x0 x1 x2 : Value} (h : w.heap[q]? = some (.cells #[x0, x1, x2] 102 (0, 0))) (y0 y1 y2 : Value) :
    (((w.setCell ⟨q, 0, none⟩ y0).setCell ⟨q, 1, none⟩ y1).setCell ⟨q, 2, none⟩ y2).heap[q]? = some (.cells #[y0, y1, y2] 102 (0, 0)) ∧ But q w (((w.setCell ⟨q, 0, none⟩ y0).setCell ⟨q, 1, none⟩ y1).setCell ⟨q, 2, none⟩ y2) :=
  ⟨heap_setCell (heap_setCell (heap_setCell h 0 y0) 1 y1) 2 y2, (((But.refl q w).setCell 0 none y0).setCell 1 none y1).setCell 2 none y2⟩
/-- What Read has so far: a block for what is told, and one for what it says. -/
structure ReadAt (w0 w : World) (qs : List (Value × Rec.R)) (u : Value) (t : Nat) : Prop where
  res : w.heap[w0.heap.size]? = some (.cells #[.slice none 0 0, .int .i64 0, .bool false] 102 (0, 0))
  say : w.heap[w0.heap.size + 1]? = some (.cells #[u, .int .i64 (t : Nat), .bool false] 102 (0, 0))
  row : w.ownsRow w0.heap.size 44 4 u qs.length (recFlat qs)
  tags : ∀ q ∈ qs, RowI w q.1 q.2.tags
  ext : Ext w0 w
theorem ReadAt.later {w0 w w' : World} {qs : List (Value × Rec.R)} {u : Value} {t : Nat} (h : ReadAt w0 w qs u t) (hE : Ext w w') : ReadAt w0 w' qs u t :=
  ⟨heap_ext h.res hE, heap_ext h.say hE, rowExt h.row hE, fun q hq => (h.tags q hq).ext hE, h.ext.trans hE⟩
theorem ReadAt.recs {w0 w : World} {qs : List (Value × Rec.R)} {u : Value} {t : Nat} (h : ReadAt w0 w qs u t) : Recs w u (qs.map (·.2)) := recs_of_flat (fun q hq => (h.tags q hq).ints) (SlN.ofOwn h.row)
/-- Blocks of a What may be written: the records stay. -/
theorem recs_but {w w' : World} {B p : Nat} {qs : List (Value × Rec.R)} {u : Value} {cs : Array Value} (hr : w.ownsRow B 44 4 u qs.length (recFlat qs)) (ht : ∀ q ∈ qs, RowI w q.1 q.2.tags) (hp : w.heap[p]? = some (.cells cs 102 (0, 0))) (hb : But p w w') :
    w'.ownsRow B 44 4 u qs.length (recFlat qs) ∧ ∀ q ∈ qs, RowI w' q.1 q.2.tags :=
  ⟨rowBut hr (rowBeside hr hp (by decide)) hb, fun q hq => (ht q hq).but hp (by decide) hb⟩
theorem ext_new {w a b : World} {q : Nat} (h : Ext w a) (hq : w.heap.size ≤ q) (hb : But q a b) : Ext w b :=
  ⟨hb.os.trans h.os, hb.tape.trans h.tape, hb.output.trans h.output, Nat.le_trans h.size hb.size, fun k hk => (hb.block k (Nat.lt_of_lt_of_le hk h.size) (by omega)).trans (h.block k hk)⟩
/-- A row of records of the call's own. -/
structure WhatAt (B : Nat) (w : World) (u : Value) (qs : List (Value × Rec.R)) : Prop where
  row : w.ownsRow B 44 4 u qs.length (recFlat qs)
  tags : ∀ q ∈ qs, RowI w q.1 q.2.tags
theorem WhatAt.recs {B : Nat} {w : World} {u : Value} {qs : List (Value × Rec.R)} (h : WhatAt B w u qs) : Recs w u (qs.map (·.2)) := recs_of_flat (fun q hq => (h.tags q hq).ints) (SlN.ofOwn h.row)
theorem WhatAt.ext {B : Nat} {w w' : World} {u : Value} {qs : List (Value × Rec.R)} (h : WhatAt B w u qs) (hE : Ext w w') : WhatAt B w' u qs := ⟨rowExt h.row hE, fun q hq => (h.tags q hq).ext hE⟩
theorem WhatAt.lower {B B' : Nat} {w : World} {u : Value} {qs : List (Value × Rec.R)} (h : WhatAt B w u qs) (hB : B' ≤ B) : WhatAt B' w u qs := ⟨rowLower h.row hB, h.tags⟩
theorem WhatAt.but {B p : Nat} {w w' : World} {u : Value} {qs : List (Value × Rec.R)} {cs : Array Value} {t : TypeId} {fr : Nat × Nat} (h : WhatAt B w u qs) (hp : w.heap[p]? = some (.cells cs t fr)) (h1 : t ≠ 44) (h2 : t ≠ 3) (hb : But p w w') : WhatAt B w' u qs :=
  ⟨rowBut h.row (rowBeside h.row hp h1) hb, fun q hq => (h.tags q hq).but hp h2 hb⟩
theorem ReadAt.fin {w0 w : World} {qs : List (Value × Rec.R)} {u : Value} {t : Nat} (h : ReadAt w0 w qs u t) (b : Bool) : ∃ w2, (((w.setCell ⟨w0.heap.size, 0, none⟩ u).setCell ⟨w0.heap.size, 1, none⟩ (.int .i64 (t : Nat))).setCell ⟨w0.heap.size, 2, none⟩ (.bool b)) = w2 ∧
    w2.heap[w0.heap.size]? = some (.cells #[u, .int .i64 (t : Nat), .bool b] 102 (0, 0)) ∧ WhatAt w0.heap.size w2 u qs ∧ Ext w0 w2 := by
  have hf := fill_what h.res u (.int .i64 (t : Nat)) (.bool b)
  have hr := recs_but h.row h.tags h.res hf.2
  exact ⟨_, rfl, hf.1, ⟨hr.1, hr.2⟩, ext_new h.ext (Nat.le_refl _) hf.2⟩
theorem ReadAt.brk {w0 w : World} {qs : List (Value × Rec.R)} {u : Value} {t : Nat} (h : ReadAt w0 w qs u t) : ∃ w2, ((((w.setCell ⟨w0.heap.size + 1, 2, none⟩ (.bool true)).setCell ⟨w0.heap.size, 0, none⟩ u).setCell ⟨w0.heap.size, 1, none⟩ (.int .i64 (t : Nat))).setCell ⟨w0.heap.size, 2, none⟩ (.bool true)) = w2 ∧
    w2.heap[w0.heap.size]? = some (.cells #[u, .int .i64 (t : Nat), .bool true] 102 (0, 0)) ∧ WhatAt w0.heap.size w2 u qs ∧ Ext w0 w2 := by
  have hb := (But.refl (w0.heap.size + 1) w).setCell 2 none (.bool true)
  have h1 := recs_but h.row h.tags h.say hb
  have hres : (w.setCell ⟨w0.heap.size + 1, 2, none⟩ (.bool true)).heap[w0.heap.size]? = _ := (hb.block _ (Array.getElem?_eq_some_iff.1 h.res).1 (by omega)).trans h.res
  have hf := fill_what hres u (.int .i64 (t : Nat)) (.bool true)
  have hr := recs_but h1.1 h1.2 hres hf.2
  exact ⟨_, rfl, hf.1, ⟨hr.1, hr.2⟩, ext_new (ext_new h.ext (by omega) hb) (Nat.le_refl _) hf.2⟩
theorem ReadAt.setT {w0 w : World} {qs : List (Value × Rec.R)} {u : Value} {t : Nat} (h : ReadAt w0 w qs u t) (m : Nat) : ReadAt w0 (w.setCell ⟨w0.heap.size + 1, 1, none⟩ (.int .i64 (m : Nat))) qs u m := by
  have hb := (But.refl (w0.heap.size + 1) w).setCell 1 none (.int .i64 (m : Nat))
  have h1 := recs_but h.row h.tags h.say hb
  exact ⟨(hb.block _ (Array.getElem?_eq_some_iff.1 h.res).1 (by omega)).trans h.res, heap_setCell h.say 1 _, h1.1, h1.2, ext_new h.ext (by omega) hb⟩
theorem ReadAt.app {w0 w w3 : World} {qs : List (Value × Rec.R)} {u u' t2 : Value} {t : Nat} {r : Rec.R} (h : ReadAt w0 w qs u t) (ht : RowI w t2 r.tags) (hg : w.grownBy w3 u.ownBlock)
    (hr : w3.ownsRow w0.heap.size 44 4 u' (qs.length + 1) (recFlat qs ++ [.int .i64 r.client, .int .i64 r.number, t2, .string ⟨r.data.toArray⟩])) : ReadAt w0 (w3.setCell ⟨w0.heap.size + 1, 0, none⟩ u') (qs ++ [(t2, r)]) u' t := by
  have hk := Keep9.grown hg h.row
  have hs3 := (hg.block _ (Array.getElem?_eq_some_iff.1 h.say).1 (rowBeside h.row h.say (by decide))).trans h.say
  have hz3 := (hg.block _ (Array.getElem?_eq_some_iff.1 h.res).1 (rowBeside h.row h.res (by decide))).trans h.res
  have hb := (But.refl (w0.heap.size + 1) w3).setCell 0 none u'
  have hflat : recFlat (qs ++ [(t2, r)]) = recFlat qs ++ [.int .i64 r.client, .int .i64 r.number, t2, .string ⟨r.data.toArray⟩] := by rw [recFlat_append]; rfl
  have htg : ∀ q ∈ qs ++ [(t2, r)], RowI w3 q.1 q.2.tags := by
    intro q hq
    rcases List.mem_append.1 hq with hq | hq
    · exact (h.tags q hq).keep9 hk
    · obtain rfl := List.mem_singleton.1 hq
      exact ht.keep9 hk
  have hr' : w3.ownsRow w0.heap.size 44 4 u' (qs ++ [(t2, r)]).length (recFlat (qs ++ [(t2, r)])) := by
    rw [hflat, List.length_append]
    exact hr
  have h1 := recs_but hr' htg hs3 hb
  have hE3 : Ext w0 w3 := ⟨hg.os.trans h.ext.os, hg.tape.trans h.ext.tape, hg.output.trans h.ext.output, Nat.le_trans h.ext.size hg.size, fun k hk => (hg.block k (Nat.lt_of_lt_of_le hk h.ext.size) (fun e => by have := (h.row.lt k e.symm).1; omega)).trans (h.ext.block k hk)⟩
  exact ⟨(hb.block _ (Array.getElem?_eq_some_iff.1 hz3).1 (by omega)).trans hz3, heap_setCell hs3 0 _, h1.1, h1.2, ext_new hE3 (by omega) hb⟩
theorem Seg.asRec_none {x : UInt8} {rest : List UInt8} (h : x.toNat ≠ 1 ∨ Rec.dec rest = none) : Seg.asRec (x :: rest) = none := by
  unfold Seg.asRec
  by_cases hx : x = 1
  · subst hx
    rcases h with h | h
    · exact absurd rfl h
    · simp [h]
  · simp [hx]
theorem Seg.step_as1 {l : List Rec.R} {t : Nat} {x : UInt8} {rest : List UInt8} {R : Rec.R} (hx : x.toNat = 1) (hd : Rec.dec rest = some R) : Seg.step ⟨l, t, false⟩ (x :: rest) = ⟨l ++ [R], t, false⟩ := by
  have h1 : x = 1 := UInt8.toNat_inj.1 hx
  subst h1
  simp [Seg.step, Seg.asRec, hd]
theorem Seg.step_bad {l : List Rec.R} {t : Nat} {x : UInt8} {rest : List UInt8} (ha : Seg.asRec (x :: rest) = none) (h : x.toNat ≠ 2 ∨ (Pack.St.num ⟨rest, 0⟩ (l.length : Int)).1.done ≠ 0 ∨ (Pack.St.num ⟨rest, 0⟩ (l.length : Int)).2 < t) : Seg.step ⟨l, t, false⟩ (x :: rest) = ⟨l, t, true⟩ := by
  have hn : Seg.asTrim l.length t (x :: rest) = none := by
    unfold Seg.asTrim
    simp only
    rw [if_neg]
    rintro ⟨h1, h2, h3⟩
    subst h1
    rcases h with h | h | h
    · exact h rfl
    · exact h h2
    · omega
  simp [Seg.step, ha, hn]
theorem Seg.step_set {l : List Rec.R} {t m : Nat} {x : UInt8} {rest : List UInt8} (ha : Seg.asRec (x :: rest) = none) (hx : x.toNat = 2) (hd : (Pack.St.num ⟨rest, 0⟩ (l.length : Int)).1.done = 0) (hm : (Pack.St.num ⟨rest, 0⟩ (l.length : Int)).2 = m) (ht : t ≤ m) : Seg.step ⟨l, t, false⟩ (x :: rest) = ⟨l, m, false⟩ := by
  have h1 : x = 2 := UInt8.toNat_inj.1 hx
  subst h1
  have hn : Seg.asTrim l.length t (2 :: rest) = some m := by
    simp [Seg.asTrim, hd, hm, ht]
  simp [Seg.step, ha, hn]
def GivesWhat (w : World) (W : Seg.What) (e : Ending) (w' : World) : Prop := ∃ u qs, e = .returned (whatV u W.trimmed W.broken) ∧ WhatAt w.heap.size w' u qs ∧ qs.map (·.2) = W.l ∧ Ext w w'
theorem Seg.read_over {l : List (List UInt8)} {k : Nat} {W : Seg.What} (h : Seg.readF (l.take k) = W) (hb : W.broken = true) : Seg.readF l = W := by
  have h1 := Seg.readF_stop (fs := l.take k) (by rw [h]; exact hb) (l.drop k)
  rw [List.take_append_drop, h] at h1
  exact h1
theorem Seg.read_next {l : List (List UInt8)} {k : Nat} (hk : k < l.length) : Seg.readF (l.take (k + 1)) = Seg.step (Seg.readF (l.take k)) l[k] := by
  rw [List.take_succ_eq_append_getElem hk, Seg.readF_snoc]

set_option maxHeartbeats 8000000 in
theorem readRef9_any (v : Value) (l : List (List UInt8)) (w : World) (h : Txts w v l) (hc : l.length ≤ 20000) (hb : ∀ x ∈ l, x.length ≤ 70000) :
    Calls Tryz.prog 40 #[v] w (GivesWhat w (Seg.readF l)) := by
  have HT := Lib.hid h
  have HL := Lib.hid hb
  obtain ⟨a, c, rfl, hcap, hmax, _, _⟩ := h.open
  unfold maxLen at hmax
  obtain ⟨n, hn⟩ : ∃ n, l.length = n := ⟨_, rfl⟩
  have HN := Lib.hid hn
  rw [hn] at hc hcap HT ⊢
  obtain ⟨P, hP⟩ : ∃ P, w.heap.size = P := ⟨_, rfl⟩
  obtain ⟨w1, hw1⟩ : ∃ w1, (w.alloc (.cells #[.slice none 0 0, .int .i64 0, .bool false] 102)).alloc (.cells #[.slice none 0 0, .int .i64 0, .bool false] 102) = w1 := ⟨_, rfl⟩
  have hra : ReadAt w w1 [] (.slice none 0 0) 0 := by
    have h2 := heap_two w (.cells #[.slice none 0 0, .int .i64 0, .bool false] 102) (.cells #[.slice none 0 0, .int .i64 0, .bool false] 102)
    rw [← hw1]
    exact ⟨h2.1, h2.2, World.ownsRow_nil _ _ _ _, fun q hq => absurd hq (by simp), ext_two _ _ _⟩
  have HI := Lib.hid hra
  have HW := Lib.hid (And.intro hw1 hP)
  clear h hb hn hra hw1 hP
  have tr := tR
  go_enter Tryz.func40, Tryz.ntmps40
  go_upto_region 2 with fail
  rw [HW.out.1, HW.out.2]
  go_wp2_with fail
  go_loopw [4] (fun i wr => ∃ (k : Nat) (qs : List (Value × Rec.R)) (u : Value) (t : Nat), k ≤ n ∧ i = .int .i64 k ∧ Hid (ReadAt w wr qs u t ∧ Seg.readF (l.take k) = ⟨qs.map (·.2), t, false⟩)) (fun i _ => n - (intOf i).toNat)
  case atStart => exact ⟨0, _, _, _, by omega, rfl, Lib.hid ⟨HI.out, rfl⟩⟩
  case round =>
    obtain ⟨k, qs, u, t, hk, rfl, hI⟩ := hrel
    have hs := hI.out.1.say
    have hz := hI.out.1.res
    rw [HW.out.2] at hs hz
    obtain ⟨ua, un, uc, rfl⟩ := ownSlice hI.out.1.row
    have u0 : wr.cell? ⟨P + 1, 0, none⟩ = some (.slice ua un uc) := cell_of_heap hs 0
    have u1 : wr.cell? ⟨P + 1, 1, none⟩ = some (.int .i64 (t : Nat)) := cell_of_heap hs 1
    have u2 : wr.cell? ⟨P + 1, 2, none⟩ = some (.bool false) := cell_of_heap hs 2
    have f0 : wr.frozen? ⟨P, 0, none⟩ = false := frozen_of_row wr P 0 _ _ hz
    have f1 : wr.frozen? ⟨P, 1, none⟩ = false := frozen_of_row wr P 1 _ _ hz
    have f2 : wr.frozen? ⟨P, 2, none⟩ = false := frozen_of_row wr P 2 _ _ hz
    have z0 : wr.cell? ⟨P, 0, none⟩ = some (.slice none 0 0) := cell_of_heap hz 0
    have z1 : wr.cell? ⟨P, 1, none⟩ = some (.int .i64 0) := cell_of_heap hz 1
    have z2 : wr.cell? ⟨P, 2, none⟩ = some (.bool false) := cell_of_heap hz 2
    have f3 : wr.frozen? ⟨P + 1, 2, none⟩ = false := frozen_of_row wr (P + 1) 2 _ _ hs
    have f4 : wr.frozen? ⟨P + 1, 1, none⟩ = false := frozen_of_row wr (P + 1) 1 _ _ hs
    have f5 : wr.frozen? ⟨P + 1, 0, none⟩ = false := frozen_of_row wr (P + 1) 0 _ _ hs
    have HZ := Lib.hid (And.intro hs hz)
    by_cases hlt : k < n
    · have hkl : k < l.length := by rw [HN.out]; exact hlt
      obtain ⟨_, _, e1, _, _, _, hcl⟩ := HT.out.open
      obtain ⟨b, off, rfl, p0⟩ := hcl k hkl
      injection e1 with e1 e2 e3
      subst e1
      have hrn := Seg.read_next hkl
      rw [hI.out.2] at hrn
      have hFl := HL.out l[k] (List.getElem_mem hkl)
      obtain ⟨F, hF⟩ : ∃ F, l[k] = F := ⟨_, rfl⟩
      rw [hF] at p0 hrn hFl
      have p0 := cell_below p0 hI.out.1.ext
      clear hcl e2 e3 hF hs hz
      cases F with
      | nil =>
        have hov := Seg.read_over (W := ⟨qs.map (·.2), t, true⟩) hrn rfl
        have HOV := Lib.hid hov
        clear hrn hov hFl
        go_wp2_with fail
        obtain ⟨w2, hw2, hx, hr, hE⟩ := hI.out.1.brk
        rw [HW.out.2] at hw2 hx
        rw [hw2]
        have q0 := cell_of_heap hx 0
        have q1 := cell_of_heap hx 1
        have q2 := cell_of_heap hx 2
        refine bodyPost_ret (v := whatV (.slice ua un uc) t true) ?_ rfl ⟨.slice ua un uc, qs, ?_, hr, ?_, hE⟩
        · simp [results, Tryz.results40, go_sem, q0, q1, q2, whatV]
        · rw [HOV.out]
        · rw [HOV.out]
      | cons x rest =>
        obtain ⟨y, hy⟩ : ∃ y, x.toNat = y := ⟨_, rfl⟩
        obtain ⟨d, hd⟩ : ∃ d : ByteArray, ⟨(x :: rest).toArray⟩ = d := ⟨_, rfl⟩
        have hsl : d.extract 1 (rest.length + 1) = ⟨rest.toArray⟩ := by
          rw [← hd]
          apply ByteArray.ext
          simp
        have hsz : d.size = rest.length + 1 := by rw [← hd]; simp [ByteArray.size]
        have hx0 : ∀ h : 0 < d.size, (d[0]'h).toNat = y := by
          rw [← hd, ← hy]
          intro h
          rfl
        rw [hd] at p0
        have HY := Lib.hid hy
        clear hd hy
        have hl0 : ((rest.length : Int) + 1 == 0) = false := by simp; omega
        have hcv := runConv wr rest
        have hby := bytesOfConv wr rest 5 (by unfold maxLen; simp at hFl; omega)
        have hEc := extConv wr 5 ⟨rest.toArray⟩
        have hrl : rest.length ≤ 70000 := by simp at hFl; omega
        have HB := Lib.hid (And.intro hby (And.intro hEc hrl))
        have HRN := Lib.hid hrn
        clear hby hEc hFl hrn
        go_wp2_with fail
        refine (refDecode4_row _ rest _ HB.out.1 (by have := HB.out.2.2; omega)).mono ?_
        rintro e w2 ⟨v2, rfl, ⟨t2, rfl, hrow2⟩, hE2⟩
        obtain ⟨ta, tn, tc, rfl⟩ : ∃ x y z, t2 = .slice x y z := by
          obtain ⟨b', n', ho⟩ := hrow2
          exact ownSlice ho
        obtain ⟨D, hD⟩ : ∃ D, decErr4 (Crc.cutOf rest) = D := ⟨_, rfl⟩
        obtain ⟨R, hR⟩ : ∃ R, decRec4 (Crc.cutOf rest) = R := ⟨_, rfl⟩
        have hdc := dec_cases rest
        rw [hD, hR] at hdc
        rw [hR] at hrow2
        rw [hD, hR]
        unfold recV
        obtain ⟨q0, hq0⟩ : ∃ q : Int, R.client = q := ⟨_, rfl⟩
        obtain ⟨q1, hq1⟩ : ∃ q : Int, R.number = q := ⟨_, rfl⟩
        obtain ⟨q3, hq3⟩ : ∃ q : ByteArray, (⟨R.data.toArray⟩ : ByteArray) = q := ⟨_, rfl⟩
        rw [hq0, hq1, hq3]
        obtain ⟨w3, hw3⟩ : ∃ w3, w2.alloc (.cells #[.int .i64 q0, .int .i64 q1, .slice ta tn tc, .string q3] 44) = w3 := ⟨_, rfl⟩
        obtain ⟨X, hX⟩ : ∃ X, w2.heap.size = X := ⟨_, rfl⟩
        have hE3 : Ext w2 w3 := by rw [← hw3]; exact Ext.alloc _ _
        have hx3 : w3.heap[X]? = some (.cells #[.int .i64 q0, .int .i64 q1, .slice ta tn tc, .string q3] 44 (0, 0)) := by rw [← hw3, ← hX]; exact heap_alloc_new _ _
        have hE03 : Ext wr w3 := (Ext.trans (show Ext wr _ from HB.out.2.1) hE2).trans hE3
        have hun : un = qs.length := by
          obtain ⟨_, _, e, _⟩ := hI.out.1.recs
          injection e with _ e _
          rw [e, List.length_map]
        have H3 := Lib.hid (And.intro (hI.out.1.later hE03) (And.intro (hrow2.ext hE3) (And.intro hx3 (And.intro hq0 (And.intro hq1 (And.intro hq3 hdc))))))
        have HW3 := Lib.hid (And.intro hw3 hX)
        have hcnt : un ≤ 20000 := by
          have h := Seg.readF_count (l.take k)
          rw [hI.out.2] at h
          simp only [List.length_map, List.length_take] at h
          omega
        have HUN := Lib.hid (And.intro hun hcnt)
        have p3 := cell_below p0 hE03
        have s0 : w3.cell? ⟨P + 1, 0, none⟩ = some (.slice ua un uc) := cell_of_heap (heap_ext HZ.out.1 hE03) 0
        have s1 : w3.cell? ⟨P + 1, 1, none⟩ = some (.int .i64 (t : Nat)) := cell_of_heap (heap_ext HZ.out.1 hE03) 1
        have s2 : w3.cell? ⟨P + 1, 2, none⟩ = some (.bool false) := cell_of_heap (heap_ext HZ.out.1 hE03) 2
        have x0 : w3.cell? ⟨X, 0, none⟩ = some (.int .i64 q0) := cell_of_heap hx3 0
        have x1 : w3.cell? ⟨X, 1, none⟩ = some (.int .i64 q1) := cell_of_heap hx3 1
        have x2 : w3.cell? ⟨X, 2, none⟩ = some (.slice ta tn tc) := cell_of_heap hx3 2
        have x3 : w3.cell? ⟨X, 3, none⟩ = some (.string q3) := cell_of_heap hx3 3
        clear hw3 hX hE3 hx3 hE03 hun hcnt hq0 hq1 hq3 hdc hrow2 hE2 hD hR p0 u0 u1 u2 f0 f1 f2 f3 f4 f5 z0 z1 z2 hsl hcv hl0
        go_upto_region 10 with fail
        rw [HW3.out.1, HW3.out.2]
        by_cases h1 : y = 1
        · by_cases hD0 : D = 0
          · subst hD0
            go_upto_region 11 with fail
            have hdr : Rec.dec rest = some R := by
              rcases H3.out.2.2.2.2.2.2 with ⟨r, h1, _, h2⟩ | ⟨_, h⟩
              · rw [h1, h2]
              · exact absurd rfl h
            have hst := HRN.out.trans (Seg.step_as1 (HY.out.trans h1) hdr)
            obtain ⟨w4, hw4⟩ : ∃ w4, w3.alloc (.cells #[.int .i64 q0, .int .i64 q1, .slice ta tn tc, .string q3] 44) = w4 := ⟨_, rfl⟩
            have hE4 : Ext w3 w4 := by rw [← hw4]; exact Ext.alloc _ _
            have hra := H3.out.1.later hE4
            have hown := hra.row
            rw [← HUN.out.1] at hown
            have hsl4 := slN_one w3 (.int .i64 q0) (.int .i64 q1) (.slice ta tn tc) (.string q3) 44
            rw [hw4] at hsl4
            have hone : ∀ y ∈ [Value.int .i64 q0, .int .i64 q1, .slice ta tn tc, .string q3], y.oneCell' = true := by
              intro y hy
              simp only [List.mem_cons, List.not_mem_nil, or_false] at hy
              rcases hy with rfl | rfl | rfl | rfl <;> rfl
            have hk1 : un + 1 ≤ maxLen := by have := HUN.out.2; unfold maxLen; omega
            have hk2 : (un + 1) * 56 ≤ 140737488355328 := by have := HUN.out.2; omega
            have hbs : w.heap.size ≤ w4.heap.size := hra.ext.size
            have hsy := hra.say
            rw [HW.out.2] at hsy
            have hrt := H3.out.2.1.ext hE4
            subst hw4
            have HRA := Lib.hid (And.intro hra (And.intro hrt hst))
            have HOWN := Lib.hid (And.intro hown (And.intro hsl4 (And.intro hk1 (And.intro hk2 hbs))))
            have HSY := Lib.hid hsy
            clear hE4 hra hrt hsy hown hsl4 hk1 hk2 hbs hst hdr
            go_wp2_with (at_builtin; refine wpList_appN rfl (.tmp 46) (.tmp 48) tr rfl rfl rfl HOWN.out.1 HOWN.out.2.1 hone HOWN.out.2.2.1 HOWN.out.2.2.2.1 HOWN.out.2.2.2.2 ?_; intro v9 w9 hown9 hg9; obtain ⟨a9, n9, c9, rfl⟩ := ownSlice hown9; have hh9 := (hg9.block (P + 1) (Array.getElem?_eq_some_iff.1 HSY.out).1 (rowBeside HOWN.out.1 HSY.out (by decide))).trans HSY.out; have k9 : w9.cell? ⟨P + 1, 0, none⟩ = some (.slice ua un uc) := cell_of_heap hh9 0; have f9 : w9.frozen? ⟨P + 1, 0, none⟩ = false := frozen_of_row w9 (P + 1) 0 _ _ hh9)
            have happ := HRA.out.1.app (r := R) HRA.out.2.1 hg9 (u' := .slice a9 n9 c9) (by
              rw [← HUN.out.1, H3.out.2.2.2.1, H3.out.2.2.2.2.1, H3.out.2.2.2.2.2.1]
              exact hown9)
            rw [HW.out.2] at happ
            exact ⟨⟨k + 1, qs ++ [(.slice ta tn tc, R)], .slice a9 n9 c9, t, by omega, by go_num, Lib.hid ⟨happ, by rw [List.map_append]; exact HRA.out.2.2⟩⟩, by simp [intOf]; omega⟩
          · have HAN := Lib.hid (show Seg.asRec (x :: rest) = none from Seg.asRec_none (.inr (by
              rcases H3.out.2.2.2.2.2.2 with ⟨r, _, h2, _⟩ | ⟨h, _⟩
              · exact absurd h2 hD0
              · exact h)))
            go_wp2_with fail
            refine (readNumRef_any rest (un : Int) ⟨rest, 0⟩ w3 (by constructor <;> simp) (by have := HB.out.2.2; omega)).mono ?_
            rintro e w4 ⟨l', rfl, hsim, hl', hE4⟩
            obtain ⟨Zn, hZn⟩ : ∃ Zn, Pack.St.num ⟨rest, 0⟩ (un : Int) = Zn := ⟨_, rfl⟩
            rw [hZn] at hsim ⊢
            obtain ⟨zs, zn⟩ := Zn
            simp only at hsim ⊢
            unfold refVal
            obtain ⟨ze, hze⟩ : ∃ ze, zs.err = ze := ⟨_, rfl⟩
            rw [hze]
            obtain ⟨w5, hw5⟩ : ∃ w5, w4.alloc (.cells #[.string ⟨l'.toArray⟩, .int .i64 ze] 158) = w5 := ⟨_, rfl⟩
            obtain ⟨Q, hQ⟩ : ∃ Q, w4.heap.size = Q := ⟨_, rfl⟩
            have hE5 : Ext w4 w5 := by rw [← hw5]; exact Ext.alloc _ _
            have hq5 : w5.heap[Q]? = some (.cells #[.string ⟨l'.toArray⟩, .int .i64 ze] 158 (0, 0)) := by rw [← hw5, ← hQ]; exact heap_alloc_new _ _
            have hend := endRef_any l' zs w5 hsim (by have := HB.out.2.2; omega)
            unfold refVal at hend
            rw [hze] at hend
            have hzn : zn ≤ 20000 := by
              have h := numMost ⟨rest, 0⟩ (un : Int) (by omega)
              rw [hZn] at h
              have : un ≤ 20000 := HUN.out.2
              simp only at h
              omega
            have RA := Lib.hid (H3.out.1.later (hE4.trans hE5))
            have HW5 := Lib.hid (And.intro hw5 hQ)
            have HEND := Lib.hid hend
            have p5 := cell_below p3 (hE4.trans hE5)
            have q0 : w5.cell? ⟨Q, 0, none⟩ = some (.string ⟨l'.toArray⟩) := cell_of_heap hq5 0
            have q1 : w5.cell? ⟨Q, 1, none⟩ = some (.int .i64 ze) := cell_of_heap hq5 1
            have HQ5 := Lib.hid hq5
            have HZ5 := Lib.hid (And.intro hZn hze)
            clear hZn hze hw5 hQ hE4 hE5 hq5 hend hsim hl' p3 s0 s1 s2 x0 x1 x2 x3
            have hsy := RA.out.say
            have hrs := RA.out.res
            rw [HW.out.2] at hsy hrs
            have s0 : w5.cell? ⟨P + 1, 0, none⟩ = some (.slice ua un uc) := cell_of_heap hsy 0
            have s1 : w5.cell? ⟨P + 1, 1, none⟩ = some (.int .i64 (t : Nat)) := cell_of_heap hsy 1
            have s2 : w5.cell? ⟨P + 1, 2, none⟩ = some (.bool false) := cell_of_heap hsy 2
            have f0 : w5.frozen? ⟨P, 0, none⟩ = false := frozen_of_row w5 P 0 _ _ hrs
            have g0 : w5.frozen? ⟨P + 1, 0, none⟩ = false := frozen_of_row w5 (P + 1) 0 _ _ hsy
            have f1 : w5.frozen? ⟨P, 1, none⟩ = false := frozen_of_row w5 P 1 _ _ hrs
            have g1 : w5.frozen? ⟨P + 1, 1, none⟩ = false := frozen_of_row w5 (P + 1) 1 _ _ hsy
            have f2 : w5.frozen? ⟨P, 2, none⟩ = false := frozen_of_row w5 P 2 _ _ hrs
            have g2 : w5.frozen? ⟨P + 1, 2, none⟩ = false := frozen_of_row w5 (P + 1) 2 _ _ hsy
            have z0 : w5.cell? ⟨P, 0, none⟩ = some (.slice none 0 0) := cell_of_heap hrs 0
            have z1 : w5.cell? ⟨P, 1, none⟩ = some (.int .i64 0) := cell_of_heap hrs 1
            have z2 : w5.cell? ⟨P, 2, none⟩ = some (.bool false) := cell_of_heap hrs 2
            clear hsy hrs
            go_upto_region 13 with fail
            rw [HW5.out.1, HW5.out.2]
            have h2 : ¬ y = 2 := by omega
            have HOV := Lib.hid (Seg.read_over (W := ⟨qs.map (·.2), t, true⟩) (HRN.out.trans (Seg.step_bad HAN.out (.inl (by rw [HY.out]; exact h2)))) rfl)
            go_wp2_with fail
            obtain ⟨wz, hwz, hx, hr, hE⟩ := RA.out.brk
            rw [HW.out.2] at hwz hx
            rw [hwz]
            have r0 := cell_of_heap hx 0
            have r1 := cell_of_heap hx 1
            have r2 := cell_of_heap hx 2
            refine bodyPost_ret (v := whatV (.slice ua un uc) t true) ?_ rfl ⟨.slice ua un uc, qs, ?_, hr, ?_, hE⟩
            · simp [results, Tryz.results40, go_sem, r0, r1, r2, whatV]
            · rw [HOV.out]
            · rw [HOV.out]
        · have HAN := Lib.hid (show Seg.asRec (x :: rest) = none from Seg.asRec_none (.inl (by rw [HY.out]; exact h1)))
          go_wp2_with fail
          refine (readNumRef_any rest (un : Int) ⟨rest, 0⟩ w3 (by constructor <;> simp) (by have := HB.out.2.2; omega)).mono ?_
          rintro e w4 ⟨l', rfl, hsim, hl', hE4⟩
          obtain ⟨Zn, hZn⟩ : ∃ Zn, Pack.St.num ⟨rest, 0⟩ (un : Int) = Zn := ⟨_, rfl⟩
          rw [hZn] at hsim ⊢
          obtain ⟨zs, zn⟩ := Zn
          simp only at hsim ⊢
          unfold refVal
          obtain ⟨ze, hze⟩ : ∃ ze, zs.err = ze := ⟨_, rfl⟩
          rw [hze]
          obtain ⟨w5, hw5⟩ : ∃ w5, w4.alloc (.cells #[.string ⟨l'.toArray⟩, .int .i64 ze] 158) = w5 := ⟨_, rfl⟩
          obtain ⟨Q, hQ⟩ : ∃ Q, w4.heap.size = Q := ⟨_, rfl⟩
          have hE5 : Ext w4 w5 := by rw [← hw5]; exact Ext.alloc _ _
          have hq5 : w5.heap[Q]? = some (.cells #[.string ⟨l'.toArray⟩, .int .i64 ze] 158 (0, 0)) := by rw [← hw5, ← hQ]; exact heap_alloc_new _ _
          have hend := endRef_any l' zs w5 hsim (by have := HB.out.2.2; omega)
          unfold refVal at hend
          rw [hze] at hend
          have hzn : zn ≤ 20000 := by
            have h := numMost ⟨rest, 0⟩ (un : Int) (by omega)
            rw [hZn] at h
            have : un ≤ 20000 := HUN.out.2
            simp only at h
            omega
          have RA := Lib.hid (H3.out.1.later (hE4.trans hE5))
          have HW5 := Lib.hid (And.intro hw5 hQ)
          have HEND := Lib.hid hend
          have p5 := cell_below p3 (hE4.trans hE5)
          have q0 : w5.cell? ⟨Q, 0, none⟩ = some (.string ⟨l'.toArray⟩) := cell_of_heap hq5 0
          have q1 : w5.cell? ⟨Q, 1, none⟩ = some (.int .i64 ze) := cell_of_heap hq5 1
          have HQ5 := Lib.hid hq5
          have HZ5 := Lib.hid (And.intro hZn hze)
          clear hZn hze hw5 hQ hE4 hE5 hq5 hend hsim hl' p3 s0 s1 s2 x0 x1 x2 x3
          have hsy := RA.out.say
          have hrs := RA.out.res
          rw [HW.out.2] at hsy hrs
          have s0 : w5.cell? ⟨P + 1, 0, none⟩ = some (.slice ua un uc) := cell_of_heap hsy 0
          have s1 : w5.cell? ⟨P + 1, 1, none⟩ = some (.int .i64 (t : Nat)) := cell_of_heap hsy 1
          have s2 : w5.cell? ⟨P + 1, 2, none⟩ = some (.bool false) := cell_of_heap hsy 2
          have f0 : w5.frozen? ⟨P, 0, none⟩ = false := frozen_of_row w5 P 0 _ _ hrs
          have g0 : w5.frozen? ⟨P + 1, 0, none⟩ = false := frozen_of_row w5 (P + 1) 0 _ _ hsy
          have f1 : w5.frozen? ⟨P, 1, none⟩ = false := frozen_of_row w5 P 1 _ _ hrs
          have g1 : w5.frozen? ⟨P + 1, 1, none⟩ = false := frozen_of_row w5 (P + 1) 1 _ _ hsy
          have f2 : w5.frozen? ⟨P, 2, none⟩ = false := frozen_of_row w5 P 2 _ _ hrs
          have g2 : w5.frozen? ⟨P + 1, 2, none⟩ = false := frozen_of_row w5 (P + 1) 2 _ _ hsy
          have z0 : w5.cell? ⟨P, 0, none⟩ = some (.slice none 0 0) := cell_of_heap hrs 0
          have z1 : w5.cell? ⟨P, 1, none⟩ = some (.int .i64 0) := cell_of_heap hrs 1
          have z2 : w5.cell? ⟨P, 2, none⟩ = some (.bool false) := cell_of_heap hrs 2
          clear hsy hrs
          go_upto_region 13 with fail
          rw [HW5.out.1, HW5.out.2]
          by_cases h2 : y = 2
          · subst h2
            go_wp2_with fail
            refine HEND.out.mono ?_
            rintro e w6 ⟨rfl, hE6⟩
            obtain ⟨dn, hdn⟩ : ∃ dn, zs.done = dn := ⟨_, rfl⟩
            rw [hdn]
            have HDN := Lib.hid hdn
            have RA := Lib.hid (RA.out.later hE6)
            clear s0 s1 s2 f0 f1 f2 g0 g1 g2 z0 z1 z2
            have hsy := RA.out.say
            have hrs := RA.out.res
            rw [HW.out.2] at hsy hrs
            have s0 : w6.cell? ⟨P + 1, 0, none⟩ = some (.slice ua un uc) := cell_of_heap hsy 0
            have s1 : w6.cell? ⟨P + 1, 1, none⟩ = some (.int .i64 (t : Nat)) := cell_of_heap hsy 1
            have s2 : w6.cell? ⟨P + 1, 2, none⟩ = some (.bool false) := cell_of_heap hsy 2
            have f0 : w6.frozen? ⟨P, 0, none⟩ = false := frozen_of_row w6 P 0 _ _ hrs
            have g0 : w6.frozen? ⟨P + 1, 0, none⟩ = false := frozen_of_row w6 (P + 1) 0 _ _ hsy
            have f1 : w6.frozen? ⟨P, 1, none⟩ = false := frozen_of_row w6 P 1 _ _ hrs
            have g1 : w6.frozen? ⟨P + 1, 1, none⟩ = false := frozen_of_row w6 (P + 1) 1 _ _ hsy
            have f2 : w6.frozen? ⟨P, 2, none⟩ = false := frozen_of_row w6 P 2 _ _ hrs
            have g2 : w6.frozen? ⟨P + 1, 2, none⟩ = false := frozen_of_row w6 (P + 1) 2 _ _ hsy
            have z0 : w6.cell? ⟨P, 0, none⟩ = some (.slice none 0 0) := cell_of_heap hrs 0
            have z1 : w6.cell? ⟨P, 1, none⟩ = some (.int .i64 0) := cell_of_heap hrs 1
            have z2 : w6.cell? ⟨P, 2, none⟩ = some (.bool false) := cell_of_heap hrs 2
            clear hsy hrs
            clear hdn hE6 p5 q0 q1
            by_cases hd0 : dn = 0
            · subst hd0
              by_cases hzt : zn < t
              · have HOV := Lib.hid (Seg.read_over (W := ⟨qs.map (·.2), t, true⟩) (HRN.out.trans (Seg.step_bad HAN.out (.inr (.inr (by rw [List.length_map, ← HUN.out.1, HZ5.out.1]; exact hzt))))) rfl)
                go_wp2_with fail
                obtain ⟨wz, hwz, hx, hr, hE⟩ := RA.out.brk
                rw [HW.out.2] at hwz hx
                rw [hwz]
                have r0 := cell_of_heap hx 0
                have r1 := cell_of_heap hx 1
                have r2 := cell_of_heap hx 2
                refine bodyPost_ret (v := whatV (.slice ua un uc) t true) ?_ rfl ⟨.slice ua un uc, qs, ?_, hr, ?_, hE⟩
                · simp [results, Tryz.results40, go_sem, r0, r1, r2, whatV]
                · rw [HOV.out]
                · rw [HOV.out]
              · have hzt' : t ≤ zn := by omega
                have hst := HRN.out.trans (Seg.step_set HAN.out HY.out (m := zn) (by rw [List.length_map, ← HUN.out.1, HZ5.out.1]; exact HDN.out) (by rw [List.length_map, ← HUN.out.1, HZ5.out.1]) hzt')
                have hra := RA.out.setT zn
                rw [HW.out.2] at hra
                have HNEW := Lib.hid (And.intro hra hst)
                clear hra hst
                go_wp2_with fail
                go_roundw
                case rel => exact ⟨k + 1, qs, .slice ua un uc, zn, by omega, by go_num, HNEW⟩
                case measure => simp [intOf]; omega
            · have HOV := Lib.hid (Seg.read_over (W := ⟨qs.map (·.2), t, true⟩) (HRN.out.trans (Seg.step_bad HAN.out (.inr (.inl (by rw [List.length_map, ← HUN.out.1, HZ5.out.1]; intro h; exact hd0 (HDN.out.symm.trans h)))))) rfl)
              go_wp2_with fail
              obtain ⟨wz, hwz, hx, hr, hE⟩ := RA.out.brk
              rw [HW.out.2] at hwz hx
              rw [hwz]
              have r0 := cell_of_heap hx 0
              have r1 := cell_of_heap hx 1
              have r2 := cell_of_heap hx 2
              refine bodyPost_ret (v := whatV (.slice ua un uc) t true) ?_ rfl ⟨.slice ua un uc, qs, ?_, hr, ?_, hE⟩
              · simp [results, Tryz.results40, go_sem, r0, r1, r2, whatV]
              · rw [HOV.out]
              · rw [HOV.out]
          · have HOV := Lib.hid (Seg.read_over (W := ⟨qs.map (·.2), t, true⟩) (HRN.out.trans (Seg.step_bad HAN.out (.inl (by rw [HY.out]; exact h2)))) rfl)
            go_wp2_with fail
            obtain ⟨wz, hwz, hx, hr, hE⟩ := RA.out.brk
            rw [HW.out.2] at hwz hx
            rw [hwz]
            have r0 := cell_of_heap hx 0
            have r1 := cell_of_heap hx 1
            have r2 := cell_of_heap hx 2
            refine bodyPost_ret (v := whatV (.slice ua un uc) t true) ?_ rfl ⟨.slice ua un uc, qs, ?_, hr, ?_, hE⟩
            · simp [results, Tryz.results40, go_sem, r0, r1, r2, whatV]
            · rw [HOV.out]
            · rw [HOV.out]
    · have hfull : l.take k = l := List.take_of_length_le (by rw [HN.out]; omega)
      have hov := hI.out.2
      rw [hfull] at hov
      have HOV := Lib.hid hov
      clear hov hfull hs hz
      go_wp2_with fail
      obtain ⟨w2, hw2, hx, hr, hE⟩ := hI.out.1.fin false
      rw [HW.out.2] at hw2 hx
      rw [hw2]
      have q0 := cell_of_heap hx 0
      have q1 := cell_of_heap hx 1
      have q2 := cell_of_heap hx 2
      refine bodyPost_ret (v := whatV (.slice ua un uc) t false) ?_ rfl ⟨.slice ua un uc, qs, ?_, hr, ?_, hE⟩
      · simp [results, Tryz.results40, go_sem, q0, q1, q2, whatV]
      · rw [HOV.out]
      · rw [HOV.out]
end Go.Proofs.YtfgjhagfpafmoaaGreat
