/-
  Merged: Layer 9: a frame's record, or trim, is taken.
-/
import Derived.Test.YtaijgpdlgcgfaaaGreatBsSgC

namespace Go.Proofs.YtaijgpdlgcgfaaaGreat
set_option linter.unusedSimpArgs false
set_option linter.unusedVariables false
set_option maxRecDepth 100000
open Go.RowKit
/- Layer 9: a frame's record, or trim, is taken. -/
/-- append of elements of several cells, in a drawn region. -/
theorem wp_appN {P : Program} {w : World} {o : Oper} {a : Act} {K : Act → World → Prop} {Q : Exit → Act → World → Prop} (s x : Operand) {t e : TypeId} {z : Value} {size bytes : Nat} (E : ElemN P t e z size bytes)
    (ho : o.op = .call { callee := .builtin .append, args := #[s, x], argTypes := #[t, t] }) {base : Nat} {v u : Value} {n m : Nat} {xs ys : List Value} (hs : a.eval s = v) (hx : a.eval x = u)
    (hown : w.ownsRow base e size v n xs) (hu : SlN size w u m ys) (h1 : ∀ y ∈ ys, y.oneCell' = true) (hsz : n + m ≤ maxLen) (hby : (n + m) * bytes ≤ 140737488355328) (hb : base ≤ w.heap.size)
    (h : ∀ v' w', w'.ownsRow base e size v' (n + m) (xs ++ ys) → w.grownBy w' v.ownBlock → K (a.put o.dst v') w') : o.wp P a w K Q := by
  obtain ⟨v', w', hr, h2, h3⟩ := run_appN (P := P) (ty := o.type) E hown hu h1 hsz hby hb
  unfold Oper.wp execOp
  simp only [ho, resolve, invoke, builtin, Sem.run_bind, Sem.run_pure, Result.andThen_ok, List.map_toArray, List.map_cons, List.map_nil, hs, hx, hr]
  exact h v' w' h2 h3
theorem run_appN_at {P : Program} {w : World} {t ty e : TypeId} {z : Value} {size bytes : Nat} (E : ElemN P t e z size bytes) {base : Nat} {v u : Value} {n m : Nat} {xs ys : List Value} (hown : w.ownsRow base e size v n xs) (hu : SlN size w u m ys) (hm : 0 < m) (h1 : ∀ y ∈ ys, y.oneCell' = true) (hsz : n + m ≤ maxLen) (hby : (n + m) * bytes ≤ 140737488355328) (hb : base ≤ w.heap.size) :
    ∃ v' w', (Builtin.append_ #[t, t] ty #[v, u]).run P w = .ok v' w' ∧ w'.ownsRow base e size v' (n + m) (xs ++ ys) ∧ w.grownBy w' v.ownBlock ∧ (v'.ownBlock = v.ownBlock ∨ v'.ownBlock = some w.heap.size) := by
  obtain ⟨i, hi, hz, h2, h3⟩ := info_parts E.info
  obtain ⟨a, cap, rfl, hc, hmx, hn, hlen, hcell⟩ := hu
  obtain ⟨b, off, rfl, _⟩ := hcell 0 (by rw [hlen]; exact Nat.mul_pos hm E.pos)
  obtain ⟨v', w', hr, ho, hg, _, hat⟩ := run_append_own_at (P := P) w base t ty e i z size bytes E.slice hi hz h2 h3 E.cells E.pos v n xs hown ⟨b, off, none⟩ m cap ys hlen
    (fun j y hj => by
      obtain ⟨hj1, rfl⟩ := List.getElem?_eq_some_iff.1 hj
      obtain ⟨b', off', e', hc'⟩ := hcell j hj1
      injection e' with e'
      injection e' with e1 e2
      subst e1 e2
      rw [Addr.add_lit]; exact hc') h1 hsz hby hb
  exact ⟨v', w', hr, ho, hg, hat⟩
theorem wp_appN_at {P : Program} {w : World} {o : Oper} {a : Act} {K : Act → World → Prop} {Q : Exit → Act → World → Prop} (s x : Operand) {t e : TypeId} {z : Value} {size bytes : Nat} (E : ElemN P t e z size bytes)
    (ho : o.op = .call { callee := .builtin .append, args := #[s, x], argTypes := #[t, t] }) {base : Nat} {v u : Value} {n m : Nat} {xs ys : List Value} (hs : a.eval s = v) (hx : a.eval x = u)
    (hown : w.ownsRow base e size v n xs) (hu : SlN size w u m ys) (hm : 0 < m) (h1 : ∀ y ∈ ys, y.oneCell' = true) (hsz : n + m ≤ maxLen) (hby : (n + m) * bytes ≤ 140737488355328) (hb : base ≤ w.heap.size)
    (h : ∀ v' w', w'.ownsRow base e size v' (n + m) (xs ++ ys) → w.grownBy w' v.ownBlock → (v'.ownBlock = v.ownBlock ∨ v'.ownBlock = some w.heap.size) → K (a.put o.dst v') w') : o.wp P a w K Q := by
  obtain ⟨v', w', hr, h2, h3, h4⟩ := run_appN_at (P := P) (ty := o.type) E hown hu hm h1 hsz hby hb
  unfold Oper.wp execOp
  simp only [ho, resolve, invoke, builtin, Sem.run_bind, Sem.run_pure, Result.andThen_ok, List.map_toArray, List.map_cons, List.map_nil, hs, hx, hr]
  exact h v' w' h2 h3 h4
theorem slN_one (w : World) (x0 x1 x2 x3 : Value) (e : TypeId) : SlN 4 (w.alloc (.cells #[x0, x1, x2, x3] e)) (.slice (some ⟨w.heap.size, 0, none⟩) 1 1) 1 [x0, x1, x2, x3] := by
  refine ⟨_, 1, rfl, Nat.le_refl _, by simp [maxLen], fun e => by simp at e, rfl, fun j hj => ⟨w.heap.size, 0, rfl, ?_⟩⟩
  rw [Nat.zero_add, cell_of_heap (heap_alloc_new w (.cells #[x0, x1, x2, x3] e)) j]
  simp only [List.length_cons, List.length_nil] at hj
  match j, hj with
  | 0, _ => rfl
  | 1, _ => rfl
  | 2, _ => rfl
  | 3, _ => rfl
/-- Blocks that are neither a segment's nor of records stay. -/
def Keep9 (a b : World) : Prop := a.heap.size ≤ b.heap.size ∧ ∀ (k : Nat) (cs : Array Value) (t : TypeId) (fr : Nat × Nat), a.heap[k]? = some (.cells cs t fr) → t ≠ 177 → t ≠ 27 → b.heap[k]? = a.heap[k]?
theorem Keep9.ext {a b : World} (h : Ext a b) : Keep9 a b := ⟨h.size, fun k _ _ _ hk _ _ => h.block k (Array.getElem?_eq_some_iff.1 hk).1⟩
theorem Keep9.trans {a b c : World} (h : Keep9 a b) (g : Keep9 b c) : Keep9 a c := ⟨Nat.le_trans h.1 g.1, fun k cs t fr hk h1 h2 => (g.2 k cs t fr ((h.2 k cs t fr hk h1 h2).trans hk) h1 h2).trans (h.2 k cs t fr hk h1 h2)⟩
theorem Keep9.but {a b : World} {g : Nat} {cs : Array Value} {fr : Nat × Nat} (hb : But g a b) (hg : a.heap[g]? = some (.cells cs 177 fr)) : Keep9 a b := ⟨hb.size, fun k cs' t fr' hk h1 _ => hb.block k (Array.getElem?_eq_some_iff.1 hk).1 (fun e => by subst e; rw [hg] at hk; injection hk with hk; injection hk with _ e _; exact h1 e.symm)⟩
theorem Keep9.grown {a b : World} {B size n : Nat} {v : Value} {xs : List Value} (hg : a.grownBy b v.ownBlock) (hr : a.ownsRow B 27 size v n xs) : Keep9 a b := ⟨hg.size, fun k cs t fr hk _ h2 => hg.block k (Array.getElem?_eq_some_iff.1 hk).1 (rowBeside hr hk h2)⟩
theorem Keep9.drop {w w' : World} {B g p : Nat} {vp lv lv' : Value} {ps ps' : List (Value × Rec.R)} {W W' : Seg.What} {safe : Nat} {br : Bool} (h : SegAt w B g p vp lv ps W safe br) (hd : DropAt w w' B g p vp lv' ps' W' safe br lv) : Keep9 w w' :=
  ⟨hd.size, fun k cs t fr hk h1 h2 => hd.block k (Array.getElem?_eq_some_iff.1 hk).1 (fun e => by subst e; rw [h.heap] at hk; injection hk with hk; injection hk with _ e _; exact h1 e.symm) (rowBeside h.row hk h2)⟩
theorem DropAt.below {w w' : World} {B g p : Nat} {vp lv lv' : Value} {ps ps' : List (Value × Rec.R)} {W W' : Seg.What} {safe : Nat} {br : Bool} (h : SegAt w B g p vp lv ps W safe br) (hd : DropAt w w' B g p vp lv' ps' W' safe br lv) (hg : B ≤ g) (hB : B ≤ w.heap.size) : Below B w w' :=
  ⟨hd.os, hd.tape, hd.output, hd.size, fun k hk => hd.block k (by omega) (by omega) (fun e => by have := (h.row.lt k e.symm).1; omega)⟩
theorem RowI.keep9 {a b : World} {v : Value} {l : List Int} (h : RowI a v l) (hk : Keep9 a b) : RowI b v l := h.same fun k e => by
  obtain ⟨cur, hc⟩ := h.at e
  exact hk.2 k _ _ _ hc (by decide) (by decide)
/-- A record more, behind the others. -/
theorem SegAt.grow {w w3 : World} {B g p : Nat} {vp lv lv' t : Value} {ps : List (Value × Rec.R)} {W : Seg.What} {safe : Nat} {br : Bool} {r : Rec.R} (h : SegAt w B g p vp lv ps W safe br) (hW : W.trimmed ≤ W.l.length) (ht : TagI w vp t r.tags) (hlow : ∀ k, t.ownBlock = some k → B ≤ k) (hg : w.grownBy w3 lv.ownBlock)
    (hr : w3.ownsRow B 27 4 lv' (ps.length + 1) (recFlat ps ++ [.int .i64 r.client, .int .i64 r.number, t, .string ⟨r.data.toArray⟩])) :
    SegAt (w3.setCell ⟨g, 2, none⟩ lv') B g p vp lv' (ps ++ [(t, r)]) ⟨W.l ++ [r], W.trimmed, W.broken⟩ safe br ∧ Keep9 w (w3.setCell ⟨g, 2, none⟩ lv') ∧ (B ≤ g → B ≤ w.heap.size → Below B w (w3.setCell ⟨g, 2, none⟩ lv')) := by
  have hh3 := (hg.block g h.lt (rowBeside h.row h.heap (by decide))).trans h.heap
  have hb := butSet w3 g 2 lv'
  have hk : Keep9 w (w3.setCell ⟨g, 2, none⟩ lv') := (Keep9.grown hg h.row).trans (Keep9.but hb hh3)
  have hflat : recFlat (ps ++ [(t, r)]) = recFlat ps ++ [.int .i64 r.client, .int .i64 r.number, t, .string ⟨r.data.toArray⟩] := by rw [recFlat_append]; rfl
  refine ⟨⟨heap_setCell hh3 2 lv', ?_, ?_, ?_, fun q hq => (List.mem_append.1 hq).elim (h.low q) (fun e => by obtain rfl := List.mem_singleton.1 e; exact hlow)⟩, hk, fun h1 h2 => ⟨hb.os.trans hg.os, hb.tape.trans hg.tape, hb.output.trans hg.output, Nat.le_trans hg.size hb.size, fun k hkB => ?_⟩⟩
  · rw [hflat, List.length_append]
    exact rowBut hr (rowBeside hr hh3 (by decide)) hb
  · rw [List.map_append, h.recs, List.drop_append_of_le_length hW]
    rfl
  · intro q hq
    rcases List.mem_append.1 hq with hq | hq
    · exact ⟨(h.tags q hq).1.keep9 hk, (h.tags q hq).2⟩
    · obtain rfl := List.mem_singleton.1 hq
      exact ⟨ht.1.keep9 hk, ht.2⟩
  · rw [hb.block k (Nat.lt_of_lt_of_le (Nat.lt_of_lt_of_le hkB h2) hg.size) (by omega)]
    exact hg.block k (by omega) (fun e => by have := (h.row.lt k e.symm).1; omega)
def Seg.addRec (o : Option Rec.R) (W : Seg.What) : Seg.What := ⟨W.l ++ o.toList, W.trimmed, W.broken⟩
theorem dec_cases (l : List UInt8) : (∃ r, Rec.dec l = some r ∧ decErr4 (Crc.cutOf l) = 0 ∧ decRec4 (Crc.cutOf l) = r) ∨ (Rec.dec l = none ∧ decErr4 (Crc.cutOf l) ≠ 0) := by
  unfold Rec.dec
  cases Crc.cutOf l with
  | none => exact .inr ⟨rfl, by simp [decErr4]⟩
  | some t =>
    cases hr : Rec.readOk t with
    | true => exact .inl ⟨Rec.read t, by simp [hr], by simp [decErr4, hr], by simp [decRec4, hr, orRec]⟩
    | false => exact .inr ⟨by simp [hr], by simp [decErr4, hr]⟩

set_option maxHeartbeats 4000000 in
theorem takeRec9_any {w : World} {B g p : Nat} {vp lv : Value} {ps : List (Value × Rec.R)} {W : Seg.What} {safe : Nat} {br : Bool} (h : SegAt w B g p vp lv ps W safe br) (hW : W.trimmed ≤ W.l.length) (hl : W.l.length ≤ 100000) (hB : B ≤ w.heap.size) (hg : B ≤ g) (hvp : ∀ k, vp.ownBlock = some k → k < w.heap.size)
    (v : Value) (b : List UInt8) (hv : Bytes w v b) (hb : b.length ≤ 200000) :
    Calls Tryz.prog 145 #[.pointer (some ⟨g, 0, none⟩), v] w fun e w' => e = .returned (.bool (Rec.dec b).isSome) ∧ ∃ lv' ps', SegAt w' B g p vp lv' ps' (Seg.addRec (Rec.dec b) W) safe br ∧ Below B w w' ∧ Keep9 w w' := by
  have H := Lib.hid h
  have hlen := h.len
  have HV := Lib.hid hv
  obtain ⟨va, vn, vc, rfl⟩ := hv.isSlice
  obtain ⟨a, c, rfl, hnc, hcm, _⟩ := h.open
  have hone := ownRec_one h.tags
  obtain ⟨N, hN⟩ : ∃ N, ps.length = N := ⟨_, rfl⟩
  have HN := Lib.hid hN
  have hN1 : N + 1 ≤ maxLen := by unfold maxLen; omega
  have hN2 : (N + 1) * 56 ≤ 140737488355328 := by omega
  rw [hN] at hnc
  have tr := tR
  clear hv h hN hlen
  go_enter Tryz.func145, Tryz.ntmps145
  go_wp2_with fail
  refine (decode4_fresh _ b w HV.out hb).mono ?_
  rintro e w1 ⟨u, rfl, ⟨t, rfl, hf1⟩, hE1⟩
  obtain ⟨ta, tn, tc, rfl⟩ : ∃ ta tn tc, t = .slice ta tn tc := by
    obtain ⟨b', n', _, ho⟩ := hf1
    exact ownSlice ho
  have HF1 := Lib.hid (And.intro hf1 hE1)
  clear hf1 hE1
  rcases dec_cases b with ⟨r, hd, he, hr⟩ | ⟨hd, he⟩
  · rw [hr] at HF1
    simp only [he, hr, recV]
    have HD := Lib.hid hd
    clear hd he hr
    obtain ⟨w2, hw2⟩ : ∃ w2, w1.alloc (.cells #[.int .i64 r.client, .int .i64 r.number, .slice ta tn tc, .string ⟨r.data.toArray⟩] 27) = w2 := ⟨_, rfl⟩
    have hE2 : Ext w w2 := by rw [← hw2]; exact HF1.out.2.trans (Ext.alloc _ _)
    have hx2 : w2.heap[w1.heap.size]? = some (.cells #[.int .i64 r.client, .int .i64 r.number, .slice ta tn tc, .string ⟨r.data.toArray⟩] 27 (0, 0)) := by rw [← hw2]; exact heap_alloc_new _ _
    have hf2 : RowF w.heap.size w2 (.slice ta tn tc) r.tags := by
      obtain ⟨b', n', hb', ho⟩ := HF1.out.1
      exact ⟨b', n', hb', rowExt ho (by rw [← hw2]; exact Ext.alloc _ _)⟩
    have HW2 := Lib.hid hw2
    have HX2 := Lib.hid (And.intro hE2 hf2)
    obtain ⟨X, hX⟩ : ∃ X, w1.heap.size = X := ⟨_, rfl⟩
    have HXX := Lib.hid hX
    rw [hX] at hx2
    clear hw2 hf2 hX
    go_upto_region 4 with fail
    rw [HW2.out, HXX.out]
    obtain ⟨q0, hq0⟩ : ∃ q : Int, r.client = q := ⟨_, rfl⟩
    obtain ⟨q1, hq1⟩ : ∃ q : Int, r.number = q := ⟨_, rfl⟩
    obtain ⟨q3, hq3⟩ : ∃ q : ByteArray, (⟨r.data.toArray⟩ : ByteArray) = q := ⟨_, rfl⟩
    rw [hq0, hq1, hq3] at hx2
    have HQ := Lib.hid (And.intro hq0 (And.intro hq1 hq3))
    obtain ⟨O, hO⟩ : ∃ O : Obj, Obj.cells #[.int .i64 q0, .int .i64 q1, .slice ta tn tc, .string q3] 27 = O := ⟨_, rfl⟩
    have hE3 : Ext w2 w2.drew := Ext.drew w2
    have hE4 : Ext w2 (w2.drew.alloc (.cells #[.int .i64 q0, .int .i64 q1, .slice ta tn tc, .string q3] 27)) := hE3.trans (Ext.alloc _ _)
    have hg2 : w2.heap[g]? = _ := heap_ext H.out.heap hE2
    have c2a : w2.drew.cell? ⟨g, 2, none⟩ = some (.slice a N c) := by rw [← HN.out]; exact cell_of_heap (heap_ext hg2 hE3) 2
    have c2b : (w2.alloc (.cells #[.int .i64 q0, .int .i64 q1, .slice ta tn tc, .string q3] 27)).cell? ⟨g, 2, none⟩ = some (.slice a N c) := by rw [← HN.out]; exact cell_of_heap (heap_ext hg2 (Ext.alloc _ _)) 2
    have x0 : w2.drew.cell? ⟨X, 0, none⟩ = some (.int .i64 q0) := cell_of_heap (heap_ext hx2 hE3) 0
    have x1 : w2.drew.cell? ⟨X, 1, none⟩ = some (.int .i64 q1) := cell_of_heap (heap_ext hx2 hE3) 1
    have x2 : w2.drew.cell? ⟨X, 2, none⟩ = some (.slice ta tn tc) := cell_of_heap (heap_ext hx2 hE3) 2
    have x3 : w2.drew.cell? ⟨X, 3, none⟩ = some (.string q3) := cell_of_heap (heap_ext hx2 hE3) 3
    have hown : (w2.drew.alloc (.cells #[.int .i64 q0, .int .i64 q1, .slice ta tn tc, .string q3] 27)).ownsRow B 27 4 (.slice a N c) N (recFlat ps) := by rw [← HN.out]; exact rowExt (rowExt H.out.row hE2) hE4
    have hsl := slN_one w2.drew (.int .i64 q0) (.int .i64 q1) (.slice ta tn tc) (.string q3) 27
    have hb0 : B ≤ (w2.drew.alloc (.cells #[.int .i64 q0, .int .i64 q1, .slice ta tn tc, .string q3] 27)).heap.size := Nat.le_trans hB (Nat.le_trans hE2.size hE4.size)
    have h1y : ∀ y ∈ [Value.int .i64 q0, .int .i64 q1, .slice ta tn tc, .string q3], y.oneCell' = true := by simp [Value.oneCell']
    have HG4 := Lib.hid (heap_ext hg2 hE4)
    have HO := Lib.hid (And.intro hown hE4)
    have HONE := Lib.hid h1y
    have HSL := Lib.hid hsl
    clear hO hq0 hq1 hq3 hE3 hE4 hx2 hown hsl h1y hg2 hone
    go_region_law (rw [if_pos (by rfl)]; refine wp_appN (.tmp 18) (.tmp 20) tr rfl rfl rfl HO.out.1 HSL.out HONE.out hN1 hN2 hb0 ?_; intro v3 w3 hown3 hg3; obtain ⟨a3, n3, c3, rfl⟩ := ownSlice hown3; have hh3 := (hg3.block g (Array.getElem?_eq_some_iff.1 HG4.out).1 (rowBeside HO.out.1 HG4.out (by decide))).trans HG4.out; have k3 := cell_of_heap hh3 2; have f3 := frozen_of_heap hh3 2)
    all_goals
      have hS5 := (H.out.ext hE2).ext HO.out.2
      rw [← HN.out] at hown3 hg3
      rw [← HQ.out.1, ← HQ.out.2.1, ← HQ.out.2.2] at hown3 hg3 hS5
      have hE5 := hE2.trans HO.out.2
      rw [← HQ.out.1, ← HQ.out.2.1, ← HQ.out.2.2] at hE5
      have hft : RowF w.heap.size _ (.slice ta tn tc) r.tags := HX2.out.2
      have htag := (hft.tag hvp).ext HO.out.2
      rw [← HQ.out.1, ← HQ.out.2.1, ← HQ.out.2.2] at htag
      obtain ⟨hs6, hk6, hb6⟩ := SegAt.grow (r := r) hS5 hW htag (hft.low hB) hg3 hown3
      have HS6 := Lib.hid hs6
      have HK6 := Lib.hid ((Keep9.ext hE5).trans hk6)
      have HB6 := Lib.hid (Below.trans (B := B) (hE5.mono hB) (hb6 hg (Nat.le_trans hB hE5.size)))
      clear hs6 hk6 hb6 hS5 htag hft hown3 hg3 hE5 k3 f3 hh3
      go_wp2_with fail
      go_ret
      rw [HD.out]
      exact ⟨rfl, _, _, HS6.out, HB6.out, HK6.out⟩
  · obtain ⟨R, hR⟩ : ∃ R, decRec4 (Crc.cutOf b) = R := ⟨_, rfl⟩
    have hne : ¬ decErr4 (Crc.cutOf b) = 0 := he
    obtain ⟨E, hE⟩ : ∃ E, decErr4 (Crc.cutOf b) = E := ⟨_, rfl⟩
    simp only [hE, hR, recV]
    rw [hE] at hne
    have hne2 : (E != 0) = true := by simpa using hne
    have HD := Lib.hid hd
    clear hd he hE hR
    go_wp2_with fail
    go_ret
    have e0 : Seg.addRec none W = W := by unfold Seg.addRec; simp
    rw [HD.out, e0]
    have hE2 := HF1.out.2.trans (Ext.alloc w1 (.cells #[.int .i64 R.client, .int .i64 R.number, .slice ta tn tc, .string ⟨R.data.toArray⟩] 27))
    exact ⟨rfl, _, ps, H.out.ext hE2, hE2.mono hB, Keep9.ext hE2⟩
end Go.Proofs.YtaijgpdlgcgfaaaGreat
