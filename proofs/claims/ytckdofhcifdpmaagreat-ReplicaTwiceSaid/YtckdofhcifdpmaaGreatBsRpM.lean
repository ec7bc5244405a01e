/-
  Merged: Layer 11: a call of a script.
-/
import Derived.Test.YtckdofhcifdpmaaGreatBsRpL

namespace Go.Proofs.YtckdofhcifdpmaaGreat
set_option linter.unusedSimpArgs false
set_option linter.unusedVariables false
set_option maxRecDepth 100000
open Go.RowKit
/- Layer 11: a call of a script. -/
namespace Rep
/-- A call of a script. -/
structure Op where
  kind : Int
  n : Int
  m : Msg.M
  is : Bool
def Rp.doN (r : Rp) (o : Op) : Rp := if o.kind = 0 then (r.take o.m).1 else if o.kind = 1 then r.crash o.n else if o.kind = 2 then r.off o.is else if o.kind = 3 then r.reopen else r
theorem tell_keeps (r : Rp) (k : Int) (m : Msg.M) (err : Int) : (tell r k m err).1.id = r.id ∧ (tell r k m err).1.term = r.term := by
  unfold tell
  split <;> exact ⟨rfl, rfl⟩
theorem take_keeps (r : Rp) (m : Msg.M) : (r.take m).1.id = r.id ∧ (r.take m).1.term = r.term := by
  unfold Rp.take
  split
  · exact ⟨rfl, rfl⟩
  · split
    · have h1 := tell_keeps (r.order m.ent) 4 m (r.orderErr m.ent)
      have h2 := order_keeps r m.ent
      exact ⟨h1.1.trans h2.1, h1.2.trans h2.2⟩
    · split
      · have h1 := tell_keeps r.shut 6 m r.shutErr
        have h2 := shut_keeps r
        exact ⟨h1.1.trans h2.1, h1.2.trans h2.2⟩
      · exact ⟨rfl, rfl⟩
theorem doN_keeps (r : Rp) (o : Op) : (r.doN o).id = r.id ∧ (r.doN o).term = r.term := by
  unfold Rp.doN
  split
  · exact take_keeps r o.m
  · split
    · exact ⟨rfl, rfl⟩
    · split
      · exact ⟨rfl, rfl⟩
      · split <;> exact ⟨rfl, rfl⟩
theorem Calm.doN {r : Rp} (h : Calm r) (o : Op) (hk : o.kind ≠ 2) : Calm (r.doN o) := by
  unfold Rp.doN
  split
  · exact h.take _
  · split
    · rw [h.crash]; exact h
    · split
      · rw [h.reopen]; exact h
      · exact h
end Rep
/-- A replica at a statement that began in the world W. -/
structure Seat11 (W : World) (S : Nat → Prop) (x : Nat) (r : Rep.Rp) (w : World) : Prop where
  rep : IsRep w W.heap.size S x r
  ext : Ext W w
  low : ∀ k, S k → W.heap.size ≤ k ∧ k < w.heap.size
section
variable {W w w' : World} {S : Nat → Prop} {x : Nat} {r r' : Rep.Rp}
theorem Seat11.extend (h : Seat11 W S x r w) (hE : Ext w w') : Seat11 W S x r w' := ⟨h.rep.ext hE, h.ext.trans hE, fun k hk => ⟨(h.low k hk).1, Nat.lt_of_lt_of_le (h.low k hk).2 hE.size⟩⟩
theorem Seat11.but {q : Nat} (h : Seat11 W S x r w) (hb : But q w w') (hq : ¬ S q) (hW : W.heap.size ≤ q) : Seat11 W S x r w' := by
  obtain ⟨p, va, vp, ev, es, hr⟩ := h.rep
  exact ⟨⟨p, va, vp, ev, es, hr.keep fun k hk hs => hb.block k hk (fun e => hq (e ▸ hs))⟩, Ext.newQ11 h.ext hW hb, fun k hk => ⟨(h.low k hk).1, Nat.lt_of_lt_of_le (h.low k hk).2 hb.size⟩⟩
theorem Seat11.new {q : Nat} (h : Seat11 W S x r w) (hq : w.heap.size ≤ q) : ¬ S q ∧ W.heap.size ≤ q := ⟨fun hs => by have := (h.low q hs).2; omega, Nat.le_trans h.ext.size hq⟩
/-- What a call leaves: a replica (perhaps another one), and what the caller has. -/
def Steps11 (W : World) (S : Nat → Prop) (w : World) (x' : Nat) (r' : Rep.Rp) (w' : World) : Prop := ∃ S', Seat11 W S' x' r' w' ∧ TwS S w w' ∧ ∀ k, k < w.heap.size → S' k → S k
theorem Seat11.step (h : Seat11 W S x r w) (hl : LeavesRep W.heap.size S x w r' w') : Steps11 W S w x r' w' := by
  obtain ⟨h1, h2⟩ := hl
  refine ⟨Later S w w', ⟨h1, ⟨h2.os.trans h.ext.os, h2.tape.trans h.ext.tape, h2.output.trans h.ext.output, Nat.le_trans h.ext.size h2.size, fun k hk => (h2.block k (Nat.lt_of_lt_of_le hk h.ext.size) (fun hs => by have := (h.low k hs).1; omega)).trans (h.ext.block k hk)⟩, fun k hk => ?_⟩, h2, fun k hk hs => hs.elim id (fun e => by omega)⟩
  rcases hk with hk | hk
  · exact ⟨(h.low k hk).1, Nat.lt_of_lt_of_le (h.low k hk).2 h2.size⟩
  · exact ⟨Nat.le_trans h.ext.size hk.1, hk.2⟩
theorem Steps11.refl (h : Seat11 W S x r w) (hE : Ext w w') : Steps11 W S w x r w' := ⟨S, h.extend hE, TwS.ext hE, fun _ _ h => h⟩
theorem Steps11.since {w1 : World} {x' : Nat} (h : Steps11 W S w1 x' r' w') (hE : Ext w w1) : Steps11 W S w x' r' w' := by
  obtain ⟨S', h1, h2, h3⟩ := h
  exact ⟨S', h1, (TwS.ext hE).trans h2, fun k hk => h3 k (Nat.lt_of_lt_of_le hk hE.size)⟩
/-- A block of the call's own is written last. -/
theorem Steps11.fill {w1 w9 : World} {q x' : Nat} (h : Steps11 W S w1 x' r' w') (hE : Ext w w1) (hq : w.heap.size ≤ q) (hq1 : q < w1.heap.size) (hW : W.heap.size ≤ q) (hS : ¬ S q) (hb : But q w' w9) : Steps11 W S w x' r' w9 := by
  obtain ⟨S', h1, h2, h3⟩ := h
  exact ⟨S', h1.but hb (fun hs => hS (h3 q hq1 hs)) hW, ((TwS.ext hE).trans h2).andThen (TwS.but (S := fun k => k = q) hb rfl) fun i hi e => by omega, fun k hk => h3 k (Nat.lt_of_lt_of_le hk hE.size)⟩
end
def opCells11 (o : Rep.Op) (rt et sv dv : Value) : Array Value := #[.int .i64 o.kind, .int .i64 o.n, .int .i64 o.m.kind, .int .i64 o.m.src, .int .i64 o.m.dst, .int .i64 o.m.term, .int .i64 o.m.shard, .int .i64 o.m.number, .bool o.m.is, .int .i64 o.m.reco.client, .int .i64 o.m.reco.number, rt, .string ⟨o.m.reco.data.toArray⟩, .int .i64 o.m.ent.number, .int .i64 o.m.ent.kind, et, .int .i64 o.m.ent.tag, .int .i64 o.m.ent.term, .int .i64 o.m.ent.pos, .int .i64 o.m.ballot, .int .i64 o.m.old, .int .i64 o.m.conf.term, sv, dv, .bool o.is]
/-- What a call's values read as. -/
structure IsOp11 (w : World) (o : Rep.Op) (rt et sv dv : Value) : Prop where
  hrt : Ints w rt o.m.reco.tags
  het : Ints w et o.m.ent.cut
  hsv : Ints w sv o.m.conf.seqs
  hdv : IRows w dv o.m.conf.shards
theorem IsOp11.below {w w' : World} {o : Rep.Op} {rt et sv dv : Value} (h : IsOp11 w o rt et sv dv) (hb : Below w.heap.size w w') : IsOp11 w' o rt et sv dv := ⟨h.hrt.below hb, h.het.below hb, h.hsv.below hb, h.hdv.below hb⟩
theorem IsOp11.slices {w : World} {o : Rep.Op} {rt et sv dv : Value} (h : IsOp11 w o rt et sv dv) : (∃ a n c, rt = .slice a n c) ∧ (∃ a n c, et = .slice a n c) ∧ (∃ a n c, sv = .slice a n c) ∧ (∃ a n c, dv = .slice a n c) := ⟨intsSlice h.hrt, intsSlice h.het, intsSlice h.hsv, irowsSlice h.hdv⟩
theorem IsOp11.msg {w : World} {o : Rep.Op} {rt et sv dv : Value} (h : IsOp11 w o rt et sv dv) : IsMsg w (.agg (msgCells o.m rt et sv dv)) o.m := ⟨_, _, _, _, rfl, h.hrt, h.het, h.hsv, h.hdv⟩
theorem box_op11 (w : World) (o : Rep.Op) (rt et sv dv : Value) : (Instr.box 58 (.agg (opCells11 o rt et sv dv))).run Tryz.prog w = .ok (.pointer (some ⟨w.heap.size, 0, none⟩)) (w.alloc (.cells (opCells11 o rt et sv dv) 58)) := by kernel_rfl
/-- A call's block. -/
def OpAt11 (w : World) (b : Nat) (o : Rep.Op) (rt et sv dv : Value) : Prop := w.heap[b]? = some (.cells (opCells11 o rt et sv dv) 58 (0, 0))
theorem opCells11_split (o : Rep.Op) (rt et sv dv : Value) : (opCells11 o rt et sv dv).toList = [.int .i64 o.kind, .int .i64 o.n] ++ ((msgCells o.m rt et sv dv).toList ++ [.bool o.is]) := rfl
theorem OpAt11.range {w : World} {b : Nat} {o : Rep.Op} {rt et sv dv : Value} (h : OpAt11 w b o rt et sv dv) : w.rangeAt b 2 (msgCells o.m rt et sv dv).toList := fun j v hj => by
  rw [cell_of_heap h, ← Array.getElem?_toList, opCells11_split, List.getElem?_append_right (by simp), List.getElem?_append_left (by have := (List.getElem?_eq_some_iff.1 hj).1; simpa using this)]
  simpa using hj
set_option maxHeartbeats 1000000 in
theorem OpAt11.ldMsg {w : World} {b : Nat} {o : Rep.Op} {rt et sv dv : Value} (h : OpAt11 w b o rt et sv dv) : (Instr.loadAt 56 (.pointer (some ⟨b, 2, none⟩))).run Tryz.prog w = .ok (.agg (msgCells o.m rt et sv dv)) w :=
  run_loadAt_mid w b 2 56 (msgCells o.m rt et sv dv).toList _ h.range Tryz.underlying56 rfl (by kernel_rfl)
theorem build_msgR11 (w : World) : (Instr.build 56 #[]).run Tryz.prog w = .ok (.agg (msgCells Msg.none0 (.slice none 0 0) (.slice none 0 0) (.slice none 0 0) (.slice none 0 0))) w := by kernel_rfl
theorem box_seat11 (w : World) (id t : Int) (s d : Value) (hs : ∃ a n c, s = .slice a n c) (hd : ∃ a n c, d = .slice a n c) : (Instr.box 27 (.agg #[.int .i64 id, .int .i64 t, s, d])).run Tryz.prog w = .ok (.pointer (some ⟨w.heap.size, 0, none⟩)) (w.alloc (.cells #[.int .i64 id, .int .i64 t, s, d] 27)) := by
  obtain ⟨a, n, c, rfl⟩ := hs
  obtain ⟨b, m, e, rfl⟩ := hd
  kernel_rfl
theorem Rep.take_plain (r : Rep.Rp) (m : Msg.M) (w : World) : IsMsg w (.agg (msgCells (r.take m).2.1 (.slice none 0 0) (.slice none 0 0) (.slice none 0 0) (.slice none 0 0))) (r.take m).2.1 := by
  have h0 : IsMsg w (.agg (msgCells Msg.none0 (.slice none 0 0) (.slice none 0 0) (.slice none 0 0) (.slice none 0 0))) Msg.none0 := ⟨_, _, _, _, rfl, ints0 w, ints0 w, ints0 w, irows0 w⟩
  have h1 : ∀ q k, IsMsg w (.agg (msgCells (Rep.told q k m) (.slice none 0 0) (.slice none 0 0) (.slice none 0 0) (.slice none 0 0))) (Rep.told q k m) := fun q k => ⟨_, _, _, _, rfl, ints0 w, ints0 w, ints0 w, irows0 w⟩
  have h2 : ∀ q k err, IsMsg w (.agg (msgCells (Rep.tell q k m err).2.1 (.slice none 0 0) (.slice none 0 0) (.slice none 0 0) (.slice none 0 0))) (Rep.tell q k m err).2.1 := fun q k err => by
    unfold Rep.tell
    split
    · exact h1 q k
    · exact h0
  unfold Rep.Rp.take
  split
  · exact h0
  · split
    · exact h2 _ _ _
    · split
      · exact h2 _ _ _
      · exact h0
theorem MsgAt.ldFree11 {w : World} {q : Nat} {m : Msg.M} (h : MsgAt 79 w q m (.slice none 0 0) (.slice none 0 0) (.slice none 0 0) (.slice none 0 0)) : (Instr.loadAt 79 (.pointer (some ⟨q, 0, none⟩))).run Tryz.prog w = .ok (.agg (msgCells m (.slice none 0 0) (.slice none 0 0) (.slice none 0 0) (.slice none 0 0))) w :=
  run_loadAt_mid w q 0 79 _ _ (MsgAt.range h) Tryz.underlying79 rfl (by kernel_rfl)
theorem GivesOwn.bytes11 {w w' : World} {bs : List UInt8} {e : Ending} (h : GivesOwn w.heap.size w bs e w') : ∃ v, e = .returned v ∧ Ext w w' ∧ Bytes w' v bs := by
  obtain ⟨u, he, ho, hE⟩ := h
  exact ⟨u, he, hE, Sl.ofOwn ho⟩
def GivesDoes11 (W : World) (S : Nat → Prop) (w : World) (r' : Rep.Rp) (e : Ending) (w' : World) : Prop := ∃ x' mm er, e = .returned (.tuple #[.pointer (some ⟨x', 0, none⟩), .agg (msgCells mm (.slice none 0 0) (.slice none 0 0) (.slice none 0 0) (.slice none 0 0)), er]) ∧ Steps11 W S w x' r' w'
set_option maxHeartbeats 40000000 in
theorem does11_any {W w : World} {S : Nat → Prop} {x : Nat} {r : Rep.Rp} (h : Seat11 W S x r w) (hcalm : Rep.Calm r) (id : Int) (c : Term.C) (s d : Value) (hc : ∀ w', TwS S w w' → Ints w' s c.seqs ∧ IRows w' d c.shards) (hmay : May11 id c) (hid : r.id = id ∧ r.term = c.term) (o : Rep.Op) (rt et sv dv : Value) (hn : Wf64 o.n) (hk2 : o.kind ≠ 2) (hv : ∀ w', TwS S w w' → IsOp11 w' o rt et sv dv) :
    Calls Tryz.prog 17 #[.agg #[.int .i64 id, .int .i64 c.term, s, d], .pointer (some ⟨x, 0, none⟩), .agg (opCells11 o rt et sv dv)] w (GivesDoes11 W S w (r.doN o)) := by
  have hbx := box_op11
  have hb0 := build_msgR11
  obtain ⟨a1, n1, k1, rfl⟩ := intsSlice (hc w (TwS.ext (Ext.refl w))).1
  obtain ⟨a2, n2, k2, rfl⟩ := irowsSlice (hc w (TwS.ext (Ext.refl w))).2
  have H := Lib.hid h
  have HCALM := Lib.hid hcalm
  have HC := Lib.hid hc
  have HMAY := Lib.hid (And.intro hmay hid)
  have HW := Lib.hid hn
  have HV := Lib.hid hv
  obtain ⟨tc, htc⟩ : ∃ z, c.term = z := ⟨_, rfl⟩
  rw [htc]
  have HTC := Lib.hid htc
  obtain ⟨wa, hwa⟩ : ∃ z, w.alloc (.cells #[.int .i64 id, .int .i64 tc, .slice a1 n1 k1, .slice a2 n2 k2] 27) = z := ⟨_, rfl⟩
  obtain ⟨q, hq⟩ : ∃ z, w.heap.size = z := ⟨_, rfl⟩
  have hEa : Ext w wa := by rw [← hwa]; exact Ext.alloc _ _
  have hza : wa.heap.size = q + 1 := by rw [← hwa, World.size_alloc, hq]
  have hsa : wa.heap[q]? = some (.cells #[.int .i64 id, .int .i64 tc, .slice a1 n1 k1, .slice a2 n2 k2] 27 (0, 0)) := by rw [← hwa, ← hq]; exact heap_alloc_new _ _
  have HWA := Lib.hid (And.intro hwa hq)
  have HEA := Lib.hid (And.intro hEa (And.intro hza hsa))
  clear h hcalm hc hmay hid hn hv htc hwa hq hEa hza hsa
  go_enter Tryz.func17, Tryz.ntmps17
  go_upto_region 1 with (refine allocMR (by rfl) rfl ?_; intro W1 q2 hat1 hE1 hq2)
  have e1 := hE1.out
  have s2 := hq2.out
  rw [HWA.out.1] at e1 s2
  rw [World.size_alloc, HEA.out.2.1] at s2
  have hEw : Ext wa (wa.alloc (.cells (opCells11 o rt et sv dv) 58)) := Ext.alloc _ _
  have ho1 : OpAt11 W1 (q + 1) o rt et sv dv := by
    have h1 := heap_alloc_new wa (.cells (opCells11 o rt et sv dv) 58)
    rw [HEA.out.2.1] at h1
    exact heap_ext h1 e1
  subst s2
  have hE01 := (HEA.out.1.trans hEw).trans e1
  have HE1 := Lib.hid hE01
  have HO := Lib.hid ho1
  have HS1 := Lib.hid (heap_ext HEA.out.2.2 (hEw.trans e1))
  have H1 := Lib.hid (H.out.extend hE01)
  have HAT := Lib.hid hat1.out
  have HV1 := Lib.hid (fun w' (ht : TwS S W1 w') => HV.out w' ((TwS.ext hE01).trans ht))
  have HC1 := Lib.hid (fun w' (ht : TwS S W1 w') => HC.out w' ((TwS.ext hE01).trans ht))
  have HNS := Lib.hid (show ∀ j, q ≤ j → ¬ S j from fun j hj hs => by have := (H.out.low j hs).2; have := HWA.out.2; omega)
  rw [HWA.out.2]
  have g0 := cell_of_heap ho1 0
  have g1 := cell_of_heap ho1 1
  simp [opCells11] at g0 g1
  have HK2 := Lib.hid hk2
  obtain ⟨kd, hkd⟩ : ∃ z, o.kind = z := ⟨_, rfl⟩
  obtain ⟨on, hon⟩ : ∃ z, o.n = z := ⟨_, rfl⟩
  rw [hkd] at g0 hk2
  rw [hon] at g1
  have HKD := Lib.hid (And.intro hkd hon)
  clear e1 hEw ho1 hE01 hE1 hq2 hat1 hbx hkd hon
  obtain ⟨p, va, vp, ev, es, hrep⟩ := H1.out.rep
  have HREP := Lib.hid hrep
  clear hrep
  by_cases e0 : kd = 0
  · subst e0
    have hlm := OpAt11.ldMsg HO.out
    have HP := Lib.hid (Rep.take_plain r o.m)
    obtain ⟨mv, hmv⟩ : ∃ z : Value, .agg (msgCells o.m rt et sv dv) = z := ⟨_, rfl⟩
    have HIM := Lib.hid (show ∀ w', TwS S W1 w' → IsMsg w' mv o.m from fun w' ht => by rw [← hmv]; exact (HV1.out w' ht).msg)
    rw [hmv] at hlm
    clear hmv
    go_wp2_with (refine ldAny (by rfl) _ rfl rfl hlm ?_)
    refine (own11m_any mv o.m W1 (HIM.out W1 (TwS.ext (Ext.refl _)))).mono ?_
    rintro e w1 ⟨rfl, hE2⟩
    have HE2 := Lib.hid hE2
    have H2 := Lib.hid (H1.out.extend hE2)
    clear hE2 hlm
    go_wp2_with fail
    refine (take11_any (HREP.out.ext HE2.out) (fun k hk => (H2.out.low k hk).2) mv o.m (fun w' ht => HIM.out w' ((TwS.ext HE2.out).trans ht))).mono ?_
    unfold GivesTold
    rintro e w2 ⟨rfl, hl2⟩
    obtain ⟨er, her⟩ : ∃ z, (r.take o.m).2.2 = z := ⟨_, rfl⟩
    obtain ⟨mr, hmr⟩ : ∃ z, (r.take o.m).2.1 = z := ⟨_, rfl⟩
    rw [hmr] at HP
    rw [her, hmr]
    have HST := Lib.hid ((H2.out.step hl2).since HE2.out)
    have ha2 : MsgAt 56 w2 (q + 1 + 1) Msg.none0 (.slice none 0 0) (.slice none 0 0) (.slice none 0 0) (.slice none 0 0) := (hl2.2.block (q + 1 + 1) (Nat.lt_of_lt_of_le HAT.out.lt HE2.out.size) (HNS.out _ (by omega))).trans (HAT.out.ext HE2.out)
    have HA2 := Lib.hid ha2
    clear her hmr hl2 ha2
    go_wp2_with (first
      | (refine allocM (by rfl) rfl ?_; intro W3 q3 hat3 hE3 hq3)
      | (refine putM (m2 := mr) (r2 := .slice none 0 0) (e2 := .slice none 0 0) (s2 := .slice none 0 0) (d2 := .slice none 0 0) (by rfl) _ _ rfl rfl rfl hat3.out noSlice noSlice noSlice noSlice ?_; intro W4 hat4 hB4; have hlm4 := MsgAt.ldFree11 hat4.out)
      | (refine ldAny (by rfl) _ rfl rfl hlm4 ?_))
    have hE4 : Ext w2 W4 := Ext.newQ11 hE3.out (Nat.le_of_eq hq3.out.symm) hB4.out
    refine (plain11m_any _ mr W4 (HP.out W4)).mono ?_
    rintro e w5 ⟨rfl, hE5⟩
    have hat2 := Lib.hid (HA2.out.ext (hE4.trans hE5))
    have HST5 := Lib.hid (show Steps11 W S W1 x (r.take o.m).1 w5 by
      obtain ⟨S', h1, h2, h3⟩ := HST.out
      exact ⟨S', h1.extend (hE4.trans hE5), h2.trans (TwS.ext (hE4.trans hE5)), h3⟩)
    clear hE4 hE5
    go_wp2_with (refine putMR (m2 := mr) (r2 := .slice none 0 0) (e2 := .slice none 0 0) (s2 := .slice none 0 0) (d2 := .slice none 0 0) (by rfl) _ _ rfl rfl rfl hat2.out noSlice noSlice noSlice noSlice ?_; intro W9 hat9 hB9)
    have hld := run_loadVar_mid (P := Tryz.prog) W9 (q + 1 + 1) 0 56 _ _ (MsgAt.range hat9.out) Tryz.underlying56 rfl (by kernel_rfl)
    refine bodyPost_ret (v := .tuple #[.pointer (some ⟨x, 0, none⟩), .agg (msgCells mr (.slice none 0 0) (.slice none 0 0) (.slice none 0 0) (.slice none 0 0)), .int .i64 er]) (by simp [results, Tryz.results17, hld, asAddr, Act.put]) rfl ?_
    have hd : r.doN o = (r.take o.m).1 := by simp [Rep.Rp.doN, HKD.out.1]
    rw [hd]
    exact ⟨_, _, _, rfl, HST5.out.fill HE1.out (by have := HWA.out.2; omega) HAT.out.lt (by have := H.out.ext.size; have := HWA.out.2; omega) (HNS.out _ (by omega)) hB9.out⟩
  by_cases e1 : kd = 1
  · subst e1
    go_wp2_with fail
    refine (crash11_any HREP.out on (bounds_i64 (by rw [← HKD.out.2]; exact HW.out))).mono ?_
    rintro e w2 ⟨rfl, hl2⟩
    have HST := Lib.hid (H1.out.step hl2)
    have hat2 := Lib.hid (show MsgAt 56 w2 (q + 1 + 1) Msg.none0 (.slice none 0 0) (.slice none 0 0) (.slice none 0 0) (.slice none 0 0) from (hl2.2.block (q + 1 + 1) HAT.out.lt (HNS.out _ (by omega))).trans HAT.out)
    clear hl2
    go_wp2_with (refine putMR (m2 := Msg.none0) (r2 := .slice none 0 0) (e2 := .slice none 0 0) (s2 := .slice none 0 0) (d2 := .slice none 0 0) (by rfl) _ _ rfl rfl rfl hat2.out noSlice noSlice noSlice noSlice ?_; intro W9 hat9 hB9)
    have hld := run_loadVar_mid (P := Tryz.prog) W9 (q + 1 + 1) 0 56 _ _ (MsgAt.range hat9.out) Tryz.underlying56 rfl (by kernel_rfl)
    refine bodyPost_ret (v := .tuple #[.pointer (some ⟨x, 0, none⟩), .agg (msgCells Msg.none0 (.slice none 0 0) (.slice none 0 0) (.slice none 0 0) (.slice none 0 0)), .int .i64 0]) (by simp [results, Tryz.results17, hld, asAddr, Act.put]) rfl ?_
    have hd : r.doN o = r.crash on := by simp [Rep.Rp.doN, HKD.out.1, HKD.out.2]
    rw [hd]
    exact ⟨_, _, _, rfl, HST.out.fill HE1.out (by have := HWA.out.2; omega) HAT.out.lt (by have := H.out.ext.size; have := HWA.out.2; omega) (HNS.out _ (by omega)) hB9.out⟩
  by_cases e3 : kd = 3
  · subst e3
    obtain ⟨bs, hbs⟩ : ∃ z, Page.bytes (r.s.l.take r.s.k) = z := ⟨_, rfl⟩
    have hfb : Page.fromBytes bs = ⟨r.s.l.take r.s.k, r.s.k, false⟩ := by rw [← hbs]; exact Page.syn_scan HCALM.out.ok.sto
    have hbytes := fun wy (hl : Ext W1 wy) => bytes8_any (HREP.out.sto.ext hl)
    rw [hbs] at hbytes
    have hro : ∀ wy, Ext W1 wy → ∀ va vp p, W1.heap.size ≤ p → IsSto wy p p va vp (Page.fromBytes bs) → Calls Tryz.prog 13 #[.int .i64 id, .agg #[.int .i64 tc, .slice a1 n1 k1, .slice a2 n2 k2], .pointer (some ⟨p, 0, none⟩)] wy fun e w' => ∃ v, e = .returned v ∧ Ext wy w' ∧ ∃ x', v = .tuple #[.pointer (some ⟨x', 0, none⟩), .int .i64 0] ∧ IsRep w' W.heap.size (fun k => W1.heap.size ≤ k) x' r.reopen := by
      intro wy hl va vp p' hp hs
      have hW1 : W.heap.size ≤ W1.heap.size := H1.out.ext.size
      have hsl := hs.lower (base' := W.heap.size) (Nat.le_trans hW1 hp)
      have hcf : IsConf wy (.agg #[.int .i64 tc, .slice a1 n1 k1, .slice a2 n2 k2]) c := ⟨_, _, by rw [← HTC.out]; rfl, (HC1.out wy (TwS.ext hl)).1, (HC1.out wy (TwS.ext hl)).2⟩
      refine (reopen11_any hsl (Nat.le_trans hW1 hl.size) (fun k => W1.heap.size ≤ k) (Nat.le_trans hW1 hp) hp (fun k hk => Nat.le_trans hp (hs.all.lt k hk).1) (fun k hk => Nat.le_trans hp (hs.places.lt k hk).1) id _ c hcf).mono ?_
      rintro e w' ⟨h, hE⟩
      have hrd : Rep.readF (Page.fromBytes bs).l = some r.reopen.w := by
        rw [hfb]
        exact HCALM.out.ok.reopen.is
      rcases h with ⟨V, x', hm, hV, rfl, hx, p2, va2, vp2, ev2, es2, hr⟩ | ⟨hn, rfl⟩
      · refine ⟨_, rfl, hE, x', rfl, p2, va2, vp2, ev2, es2, ?_⟩
        rw [hrd] at hV
        injection hV with hV
        subst hV
        have h1 := hr.wider (S' := fun k => W1.heap.size ≤ k) (fun k _ h => h.elim (fun e => e) (fun e => Nat.le_trans hl.size e.1))
        have hre : r.reopen = ⟨id, c.term, Page.fromBytes bs, r.reopen.w⟩ := by
          rw [hfb, ← HMAY.out.2.1, ← HMAY.out.2.2]
          rfl
        rw [hre]
        exact h1
      · exact absurd ⟨HMAY.out.1, by rw [hrd]; rfl⟩ hn
    have HBY := Lib.hid hbytes
    have HRO := Lib.hid hro
    have HST0 := Lib.hid (store11_any HREP.out.at')
    clear hbs hfb hbytes hro
    go_wp2_with fail
    refine HST0.out.mono ?_
    rintro e w2 ⟨rfl, rfl⟩
    go_wp2_with fail
    refine wp_region_facts (by kernel_rfl) Ext (fun iop v w => match iop with
        | 0 => v = .pointer (some ⟨q, 0, none⟩)
        | 1 => v = .int .i64 id
        | 2 => v = .pointer (some ⟨q, 1, none⟩)
        | 3 => v = .agg #[.int .i64 tc, .slice a1 n1 k1, .slice a2 n2 k2]
        | 4 => v = .pointer (some ⟨p, 0, none⟩)
        | 5 => Bytes w v bs
        | 6 => ∃ va vp p, v = .pointer (some ⟨p, 0, none⟩) ∧ W1.heap.size ≤ p ∧ IsSto w p p va vp (Page.fromBytes bs)
        | 7 => ∃ x', v = .tuple #[.pointer (some ⟨x', 0, none⟩), .int .i64 0] ∧ IsRep w W.heap.size (fun k => W1.heap.size ≤ k) x' r.reopen
        | 8 => ∃ x', v = .tuple #[.pointer (some ⟨x', 0, none⟩), .int .i64 0] ∧ IsRep w W.heap.size (fun k => W1.heap.size ≤ k) x' r.reopen
        | 9 => ∃ x', v = .pointer (some ⟨x', 0, none⟩) ∧ IsRep w W.heap.size (fun k => W1.heap.size ≤ k) x' r.reopen
        | 10 => v = .int .i64 0
        | 11 => ∃ x', v = .pointer (some ⟨x', 0, none⟩) ∧ IsRep w W.heap.size (fun k => W1.heap.size ≤ k) x' r.reopen
        | _ => v = .int .i64 0
        ) (by kernel_rfl) (fun _ _ _ h k => Ext.trans h k) (fun a => Ext.refl a) (Ext.drew _) ?_ ?_ ?_
    · intro iop v wa wb hF hL
      iterate 5 (rcases iop with _ | iop; exact hF)
      iterate 5 (rcases iop with _ | iop; (first | exact hF | (exact Sl.below hF hL) | (obtain ⟨x', h1, h2⟩ := hF; exact ⟨x', h1, h2.ext hL⟩) | (obtain ⟨va, vp, p, h1, h2, h3⟩ := hF; exact ⟨va, vp, p, h1, h2, h3.ext hL⟩)))
      rcases iop with _ | iop; exact hF
      rcases iop with _ | iop; (first | exact hF | (exact Sl.below hF hL) | (obtain ⟨x', h1, h2⟩ := hF; exact ⟨x', h1, h2.ext hL⟩) | (obtain ⟨va, vp, p, h1, h2, h3⟩ := hF; exact ⟨va, vp, p, h1, h2, h3.ext hL⟩))
      exact hF
    · refine Obls.cons ?_ (Obls.cons ?_ (Obls.cons ?_ (Obls.cons ?_ (Obls.cons ?_ (Obls.cons ?_ (Obls.cons ?_ (Obls.cons ?_ (Obls.cons ?_ (Obls.cons ?_ (Obls.cons ?_ (Obls.cons ?_ (Obls.cons ?_ (Obls.nil)))))))))))))
      · intro ev wy hp hl hk hd
        have e3 : ev (.tmp 3) = .pointer (some ⟨q, 0, none⟩) := hk 3 (by decide)
        clear hk hd
        exact Yield.op (v := .pointer (some ⟨q, 0, none⟩)) (w' := wy) (by simp [execOp, go_sem, e3]) ⟨Ext.refl _, rfl⟩
      · intro ev wy hp hl hk hd
        have e56 : ev (.tmp 56) = .pointer (some ⟨q, 0, none⟩) := hk 56 (by decide)
        clear hk hd
        exact Yield.load rfl e56 (by simp [go_sem, cell_of_heap (heap_ext HS1.out hl) 0]) ⟨Ext.refl _, rfl⟩
      · intro ev wy hp hl hk hd
        have e3 : ev (.tmp 3) = .pointer (some ⟨q, 0, none⟩) := hk 3 (by decide)
        clear hk hd
        exact Yield.op (v := .pointer (some ⟨q, 1, none⟩)) (w' := wy) (by simp [execOp, go_sem, e3]) ⟨Ext.refl _, rfl⟩
      · intro ev wy hp hl hk hd
        have e58 : ev (.tmp 58) = .pointer (some ⟨q, 1, none⟩) := hk 58 (by decide)
        clear hk hd
        exact Yield.load rfl e58 (ldConf7 25 (.inr rfl) ⟨_, _, _, rfl⟩ ⟨_, _, _, rfl⟩ (cell_of_heap (heap_ext HS1.out hl) 1) (cell_of_heap (heap_ext HS1.out hl) 2) (cell_of_heap (heap_ext HS1.out hl) 3)) ⟨Ext.refl _, rfl⟩
      · intro ev wy hp hl hk hd
        have e12 : ev (.tmp 12) = .pointer (some ⟨p, 0, none⟩) := hk 12 (by decide)
        clear hk hd
        exact Yield.mv rfl ⟨Ext.refl _, e12⟩
      · intro ev wy hp hl hk hd
        have e60 : ev (.tmp 60) = .pointer (some ⟨p, 0, none⟩) := hk 60 (by decide)
        clear hk hd
        refine Yield.call rfl hp Tryz.func62 rfl (by kernel_rfl) ?_
        simp only [List.map_toArray, List.map_cons, List.map_nil, hp.const, e60]
        exact (HBY.out wy hl).mono fun e w' h => GivesOwn.bytes11 h
      · intro ev wy hp hl hk hd
        have f61 : (fun (v : Value) (w : World) => Bytes w v bs) (ev (.tmp 61)) wy := hk 61 (by decide)
        generalize hx61 : ev (.tmp 61) = x61 at *
        clear hk hd
        refine Yield.call rfl hp Tryz.func10 rfl (by kernel_rfl) ?_
        simp only [List.map_toArray, List.map_cons, List.map_nil, hp.const, hx61]
        exact (new8_any _ bs wy f61).mono fun e w' ⟨va, vp, he, hs, hE⟩ => ⟨_, he, hE, va, vp, _, rfl, hl.size, hs⟩
      · intro ev wy hp hl hk hd
        have e57 : ev (.tmp 57) = .int .i64 id := hk 57 (by decide)
        have e59 : ev (.tmp 59) = .agg #[.int .i64 tc, .slice a1 n1 k1, .slice a2 n2 k2] := hk 59 (by decide)
        have f62 : (fun (v : Value) (w : World) => ∃ va vp p, v = .pointer (some ⟨p, 0, none⟩) ∧ W1.heap.size ≤ p ∧ IsSto w p p va vp (Page.fromBytes bs)) (ev (.tmp 62)) wy := hk 62 (by decide)
        generalize hx62 : ev (.tmp 62) = x62 at *
        clear hk hd
        obtain ⟨va, vp, p', hv62, hp1, hs⟩ := f62
        subst hv62
        refine Yield.call rfl hp Tryz.func13 rfl (by kernel_rfl) ?_
        simp only [List.map_toArray, List.map_cons, List.map_nil, hp.const, e57, e59, hx62]
        exact HRO.out wy hl va vp p' hp1 hs
      · intro ev wy hp hl hk hd
        have f63 : (fun (v : Value) (w : World) => ∃ x', v = .tuple #[.pointer (some ⟨x', 0, none⟩), .int .i64 0] ∧ IsRep w W.heap.size (fun k => W1.heap.size ≤ k) x' r.reopen) (ev (.tmp 63)) wy := hk 63 (by decide)
        generalize hx63 : ev (.tmp 63) = x63 at *
        clear hk hd
        obtain ⟨x', hv63, hr⟩ := f63
        subst hv63
        exact Yield.op (w' := wy) (by simp [execOp, go_sem, hx63]) ⟨Ext.refl _, x', rfl, hr⟩
      · intro ev wy hp hl hk hd
        have f55 : (fun (v : Value) (w : World) => ∃ x', v = .tuple #[.pointer (some ⟨x', 0, none⟩), .int .i64 0] ∧ IsRep w W.heap.size (fun k => W1.heap.size ≤ k) x' r.reopen) (ev (.tmp 55)) wy := hk 55 (by decide)
        generalize hx55 : ev (.tmp 55) = x55 at *
        clear hk hd
        obtain ⟨x', hv55, hr⟩ := f55
        subst hv55
        exact Yield.op (w' := wy) (by simp [execOp, go_sem, hx55]) ⟨Ext.refl _, x', rfl, hr⟩
      · intro ev wy hp hl hk hd
        have f55 : (fun (v : Value) (w : World) => ∃ x', v = .tuple #[.pointer (some ⟨x', 0, none⟩), .int .i64 0] ∧ IsRep w W.heap.size (fun k => W1.heap.size ≤ k) x' r.reopen) (ev (.tmp 55)) wy := hk 55 (by decide)
        generalize hx55 : ev (.tmp 55) = x55 at *
        clear hk hd
        obtain ⟨x', hv55, hr⟩ := f55
        subst hv55
        exact Yield.op (w' := wy) (by simp [execOp, go_sem, hx55]) ⟨Ext.refl _, rfl⟩
      · intro ev wy hp hl hk hd
        have f64 : (fun (v : Value) (w : World) => ∃ x', v = .pointer (some ⟨x', 0, none⟩) ∧ IsRep w W.heap.size (fun k => W1.heap.size ≤ k) x' r.reopen) (ev (.tmp 64)) wy := hk 64 (by decide)
        generalize hx64 : ev (.tmp 64) = x64 at *
        clear hk hd
        obtain ⟨x', hv64, hr⟩ := f64
        subst hv64
        exact Yield.op (w' := wy) (by simp [execOp, go_sem, hx64]) ⟨Ext.refl _, x', rfl, hr⟩
      · intro ev wy hp hl hk hd
        have e65 : ev (.tmp 65) = .int .i64 0 := hk 65 (by decide)
        clear hk hd
        exact Yield.as rfl ⟨Ext.refl _, e65⟩
    · intro vals wz hz hv
      have g56 : vals 0 = .pointer (some ⟨q, 0, none⟩) := hv 0 (by decide)
      have g57 : vals 1 = .int .i64 id := hv 1 (by decide)
      have g58 : vals 2 = .pointer (some ⟨q, 1, none⟩) := hv 2 (by decide)
      have g59 : vals 3 = .agg #[.int .i64 tc, .slice a1 n1 k1, .slice a2 n2 k2] := hv 3 (by decide)
      have g60 : vals 4 = .pointer (some ⟨p, 0, none⟩) := hv 4 (by decide)
      have g61 : (fun (v : Value) (w : World) => Bytes w v bs) (vals 5) wz := hv 5 (by decide)
      have g62 : (fun (v : Value) (w : World) => ∃ va vp p, v = .pointer (some ⟨p, 0, none⟩) ∧ W1.heap.size ≤ p ∧ IsSto w p p va vp (Page.fromBytes bs)) (vals 6) wz := hv 6 (by decide)
      have g63 : (fun (v : Value) (w : World) => ∃ x', v = .tuple #[.pointer (some ⟨x', 0, none⟩), .int .i64 0] ∧ IsRep w W.heap.size (fun k => W1.heap.size ≤ k) x' r.reopen) (vals 7) wz := hv 7 (by decide)
      have g55 : (fun (v : Value) (w : World) => ∃ x', v = .tuple #[.pointer (some ⟨x', 0, none⟩), .int .i64 0] ∧ IsRep w W.heap.size (fun k => W1.heap.size ≤ k) x' r.reopen) (vals 8) wz := hv 8 (by decide)
      have g64 : (fun (v : Value) (w : World) => ∃ x', v = .pointer (some ⟨x', 0, none⟩) ∧ IsRep w W.heap.size (fun k => W1.heap.size ≤ k) x' r.reopen) (vals 9) wz := hv 9 (by decide)
      have g65 : vals 10 = .int .i64 0 := hv 10 (by decide)
      have g13 : (fun (v : Value) (w : World) => ∃ x', v = .pointer (some ⟨x', 0, none⟩) ∧ IsRep w W.heap.size (fun k => W1.heap.size ≤ k) x' r.reopen) (vals 11) wz := hv 11 (by decide)
      have g14 : vals 12 = .int .i64 0 := hv 12 (by decide)
      clear hv
      simp only [putAll, Act.put, List.setIfInBounds_toArray, List.set_cons_zero, List.set_cons_succ, g56, g57, g58, g59, g60, g65, g14]
      clear g56
      clear g57
      clear g58
      clear g59
      clear g60
      generalize vals 5 = v61 at *
      generalize vals 6 = v62 at *
      generalize vals 7 = v63 at *
      generalize vals 8 = v55 at *
      generalize vals 9 = v64 at *
      clear g65
      generalize vals 11 = v13 at *
      clear g14
      obtain ⟨x', rfl, hr⟩ := g13
      have hat2 := Lib.hid (HAT.out.ext hz)
      have HST := Lib.hid (show Steps11 W S W1 x' r.reopen wz by
        obtain ⟨p2, va2, vp2, ev2, es2, hr2⟩ := hr
        exact ⟨fun k => W1.heap.size ≤ k ∧ k < wz.heap.size, ⟨⟨p2, va2, vp2, ev2, es2, hr2.wider fun k h1 h2 => ⟨h2, h1⟩⟩, H1.out.ext.trans hz, fun k hk => ⟨Nat.le_trans H1.out.ext.size hk.1, hk.2⟩⟩, TwS.ext hz, fun k hk h => by omega⟩)
      clear hr hz g61 g62 g63 g55 g64
      go_wp2_with (refine putMR (m2 := Msg.none0) (r2 := .slice none 0 0) (e2 := .slice none 0 0) (s2 := .slice none 0 0) (d2 := .slice none 0 0) (by rfl) _ _ rfl rfl rfl hat2.out noSlice noSlice noSlice noSlice ?_; intro W9 hat9 hB9)
      have hld := run_loadVar_mid (P := Tryz.prog) W9 (q + 1 + 1) 0 56 _ _ (MsgAt.range hat9.out) Tryz.underlying56 rfl (by kernel_rfl)
      refine bodyPost_ret (v := .tuple #[.pointer (some ⟨x', 0, none⟩), .agg (msgCells Msg.none0 (.slice none 0 0) (.slice none 0 0) (.slice none 0 0) (.slice none 0 0)), .int .i64 0]) (by simp [results, Tryz.results17, hld, asAddr, Act.put]) rfl ?_
      have hd : r.doN o = r.reopen := by simp [Rep.Rp.doN, HKD.out.1]
      rw [hd]
      exact ⟨_, _, _, rfl, HST.out.fill HE1.out (by have := HWA.out.2; omega) HAT.out.lt (by have := H.out.ext.size; have := HWA.out.2; omega) (HNS.out _ (by omega)) hB9.out⟩
  have hat2 := HAT
  have HST := Lib.hid (Steps11.refl H1.out (Ext.refl _))
  go_wp2_with (refine putMR (m2 := Msg.none0) (r2 := .slice none 0 0) (e2 := .slice none 0 0) (s2 := .slice none 0 0) (d2 := .slice none 0 0) (by rfl) _ _ rfl rfl rfl hat2.out noSlice noSlice noSlice noSlice ?_; intro W9 hat9 hB9)
  have hld := run_loadVar_mid (P := Tryz.prog) W9 (q + 1 + 1) 0 56 _ _ (MsgAt.range hat9.out) Tryz.underlying56 rfl (by kernel_rfl)
  refine bodyPost_ret (v := .tuple #[.pointer (some ⟨x, 0, none⟩), .agg (msgCells Msg.none0 (.slice none 0 0) (.slice none 0 0) (.slice none 0 0) (.slice none 0 0)), .int .i64 0]) (by simp [results, Tryz.results17, hld, asAddr, Act.put]) rfl ?_
  have hd : r.doN o = r := by simp [Rep.Rp.doN, HKD.out.1, e0, e1, e3, hk2]
  rw [hd]
  exact ⟨_, _, _, rfl, HST.out.fill HE1.out (by have := HWA.out.2; omega) HAT.out.lt (by have := H.out.ext.size; have := HWA.out.2; omega) (HNS.out _ (by omega)) hB9.out⟩
end Go.Proofs.YtckdofhcifdpmaaGreat
