/-
  Layer 8, the statements' few and does.
-/
import Derived.Test.YtpefengjpedifaaPgO
import Derived.Test.YtpefengjpedifaaPgY
namespace Go.Proofs.Ytpefengjpedifaa
set_option linter.unusedSimpArgs false
set_option linter.unusedVariables false
set_option maxRecDepth 100000
open Go.RowKit

set_option maxHeartbeats 4000000 in
theorem few8_any (v : Value) (l : List Page.Op) (w : World) (hv : Ops w v l) (hf : ∀ o ∈ l, o.Fits) :
    Calls Try.prog 9 #[v] w fun e w' => e = .returned (.bool (Page.few l)) ∧ Ext w w' := by
  have HV := Lib.hid hv
  have HF := Lib.hid hf
  obtain ⟨a, cap, rfl, hcap, hmax, _, _⟩ := hv
  unfold maxLen at hmax
  obtain ⟨n, hn⟩ : ∃ n, l.length = n := ⟨_, rfl⟩
  have HN := Lib.hid hn
  rw [hn] at HV hcap ⊢
  clear hf hn
  by_cases h60 : n ≤ 60
  · go_enter Try.func9, Try.ntmps9
    go_wp2_with fail
    go_loopw [3, 8] (fun s i wr => ∃ (k M : Nat), k ≤ n ∧ s = .int .i64 M ∧ i = .int .i64 k ∧ Hid (Page.mass (l.take k) = M) ∧ Ext w wr) (fun _ i _ => n - (intOf i).toNat)
    case atStart => exact ⟨0, 0, by omega, rfl, rfl, Lib.hid (by rw [List.take_zero]; rfl), Ext.refl _⟩
    case round =>
      obtain ⟨k, M, hk, rfl, rfl, hM, hE⟩ := hrel
      by_cases hlt : k < n
      · have hkl : k < l.length := by rw [HN.out]; exact hlt
        obtain ⟨a', cap', e', _, _, _, hc⟩ := HV.out.below hE
        obtain ⟨b, off, rfl, t, p0, p1, p2, p3, ht⟩ := hc k hkl
        injection e' with e1 e2 e3
        subst e1
        obtain ⟨at', nt, ct, rfl⟩ := ht.isSlice
        obtain ⟨hnt, hnt2, hnt3⟩ := ht.len
        have hfk := (HF.out l[k] (List.getElem_mem _)).2
        have hms := Page.mass_take hkl
        rw [hM.out, ← hnt] at hms
        rw [← hnt] at hfk
        have hMl := Page.mass_take_le HF.out k
        rw [hM.out] at hMl
        have hMl2 : M ≤ 8444249301074280 := Nat.le_trans hMl (Nat.le_trans (Nat.mul_le_mul_right _ (show k ≤ 60 by omega)) (by decide))
        have HMS := Lib.hid hms
        obtain ⟨o0, ho0⟩ : ∃ o, l[k].kind = o := ⟨_, rfl⟩
        obtain ⟨o1, ho1⟩ : ∃ o, l[k].n = o := ⟨_, rfl⟩
        obtain ⟨o3, ho3⟩ : ∃ o, l[k].is = o := ⟨_, rfl⟩
        rw [ho0] at p0
        rw [ho1] at p1
        rw [ho3] at p3
        clear hc e2 e3 ht hnt hms hMl ho0 ho1 ho3
        go_wp2_with fail
        exact ⟨⟨k + 1, M + (nt + 6), by omega, by simp, by simp, Lib.hid HMS.out, hE.trans (Ext.alloc _ _)⟩, by simp [intOf]; omega⟩
      · obtain rfl : k = n := by omega
        have hfull : l.take k = l := List.take_of_length_le (by rw [HN.out]; exact Nat.le_refl _)
        rw [hfull] at hM
        clear hfull
        by_cases h20 : M ≤ 20000
        · go_wp2_with fail
          go_ret
          refine ⟨?_, hE⟩
          unfold Page.few
          rw [HN.out, hM.out, decide_eq_true h60, decide_eq_true h20]
          show Ending.returned (Value.bool (decide ((M : Int) ≤ 20000))) = _
          rw [decide_eq_true (by omega)]
          rfl
        · go_wp2_with fail
          go_ret
          refine ⟨?_, hE⟩
          unfold Page.few
          rw [HN.out, hM.out, decide_eq_true h60, decide_eq_false h20]
          show Ending.returned (Value.bool (decide ((M : Int) ≤ 20000))) = _
          rw [decide_eq_false (by omega)]
          rfl
  · go_enter Try.func9, Try.ntmps9
    go_wp2_with fail
    go_loopw [3, 8] (fun s i wr => ∃ (k : Nat) (x : Int), k ≤ n ∧ s = .int .i64 x ∧ i = .int .i64 k ∧ Ext w wr) (fun _ i _ => n - (intOf i).toNat)
    case atStart => exact ⟨0, 0, by omega, rfl, rfl, Ext.refl _⟩
    case round =>
      obtain ⟨k, x, hk, rfl, rfl, hE⟩ := hrel
      by_cases hlt : k < n
      · have hkl : k < l.length := by rw [HN.out]; exact hlt
        obtain ⟨a', cap', e', _, _, _, hc⟩ := HV.out.below hE
        obtain ⟨b, off, rfl, t, p0, p1, p2, p3, ht⟩ := hc k hkl
        injection e' with e1 e2 e3
        subst e1
        obtain ⟨at', nt, ct, rfl⟩ := ht.isSlice
        obtain ⟨hnt, hnt2, hnt3⟩ := ht.len
        have hfk := (HF.out l[k] (List.getElem_mem _)).2
        rw [← hnt] at hfk
        obtain ⟨o0, ho0⟩ : ∃ o, l[k].kind = o := ⟨_, rfl⟩
        obtain ⟨o1, ho1⟩ : ∃ o, l[k].n = o := ⟨_, rfl⟩
        obtain ⟨o3, ho3⟩ : ∃ o, l[k].is = o := ⟨_, rfl⟩
        rw [ho0] at p0
        rw [ho1] at p1
        rw [ho3] at p3
        clear hc e2 e3 ht hnt ho0 ho1 ho3
        go_wp2_with fail
        exact ⟨⟨k + 1, _, by omega, rfl, by simp, hE.trans (Ext.alloc _ _)⟩, by simp [intOf]; omega⟩
      · obtain rfl : k = n := by omega
        go_wp2_with fail
        go_ret
        refine ⟨?_, hE⟩
        unfold Page.few
        rw [HN.out, decide_eq_false h60]
        rfl

/-- What a call tells. -/
structure Page.Ans where
  n : Int
  e : Int
  b : List UInt8
  is : Bool
def Page.zero : Page.Ans := ⟨0, 0, [], false⟩
/-- A call on a store. -/
def Page.step (S : Page.St) (o : Page.Op) : Page.St × Page.Ans :=
  if o.kind = 0 then (S.append o.b, ⟨(S.appendAt o.b : Nat), S.appendErr o.b, [], false⟩)
  else if o.kind = 1 then (S.sync, Page.zero)
  else if o.kind = 2 then (S.crash o.n, Page.zero)
  else if o.kind = 3 then (S, ⟨0, 0, (Page.readAt S.l o.n).getD [], (Page.readAt S.l o.n).isSome⟩)
  else if o.kind = 4 then (⟨S.l, S.k, o.is⟩, Page.zero)
  else if o.kind = 5 then (⟨S.l.take S.k, S.k, false⟩, Page.zero)
  else (S, Page.zero)
def ansCells (r : Page.Ans) : Array Value := #[.int .i64 r.n, .int .i64 r.e, .string ⟨r.b.toArray⟩, .bool r.is]
def ansV (r : Page.Ans) : Value := .agg (ansCells r)
/-- Four stores fill an answer's block. -/
theorem fill_ans {w : World} {q : Nat} {x0 x1 x2 x3 y0 y1 y2 y3 : Value} (h : w.heap[q]? = some (.cells #[x0, x1, x2, x3] 37 (0, 0))) :
    ((((w.setCell ⟨q, 0, none⟩ y0).setCell ⟨q, 1, none⟩ y1).setCell ⟨q, 2, none⟩ y2).setCell ⟨q, 3, none⟩ y3).heap[q]? = some (.cells #[y0, y1, y2, y3] 37 (0, 0)) ∧ But q w ((((w.setCell ⟨q, 0, none⟩ y0).setCell ⟨q, 1, none⟩ y1).setCell ⟨q, 2, none⟩ y2).setCell ⟨q, 3, none⟩ y3) :=
  ⟨heap_setCell (heap_setCell (heap_setCell (heap_setCell h 0 y0) 1 y1) 2 y2) 3 y3, ((((But.refl q w).setCell 0 none y0).setCell 1 none y1).setCell 2 none y2).setCell 3 none y3⟩
theorem IsSto.but {w w' : World} {B p q : Nat} {va vp : Value} {S : Page.St} {cs : Array Value} (h : IsSto w B p va vp S) (hq : w.heap[q]? = some (.cells cs 37 (0, 0))) (hb : But q w w') : IsSto w' B p va vp S :=
  ⟨(hb.block p h.lt (fun e => by subst e; rw [h.heap] at hq; injection hq with hq; injection hq with _ e _; exact absurd e (by decide))).trans h.heap, rowBut h.all (rowBeside h.all hq (by decide)) hb, rowBut h.places (rowBeside h.places hq (by decide)) hb, h.ok⟩
theorem belowBut {w a b : World} {B q : Nat} (h : Below B w a) (hq : B ≤ q) (hw : B ≤ w.heap.size) (hb : But q a b) : Below B w b :=
  h.trans ⟨hb.os, hb.tape, hb.output, hb.size, fun k hk => hb.block k (Nat.lt_of_lt_of_le hk (Nat.le_trans hw h.size)) (by omega)⟩
theorem box_op8 (w : World) (k n : Int) (t : Value) (o : Bool) (ht : t.oneCell' = true) : (Instr.box 34 (.agg #[.int .i64 k, .int .i64 n, t, .bool o])).run Try.prog w = .ok (.pointer (some ⟨w.heap.size, 0, none⟩)) (w.alloc (.cells #[.int .i64 k, .int .i64 n, t, .bool o] 34)) := by
  cases t <;> first | (simp [Value.oneCell'] at ht; done) | kernel_rfl

/-- Blocks of other types than a store's own stay. -/
def K8 (w w' : World) : Prop := w.heap.size ≤ w'.heap.size ∧ ∀ (k : Nat) (cs : Array Value) (t : TypeId) (fr : Nat × Nat), w.heap[k]? = some (.cells cs t fr) → t ≠ 79 → t ≠ 5 → t ≠ 3 → w'.heap[k]? = w.heap[k]?
theorem K8.ext {a b : World} (h : Ext a b) : K8 a b := ⟨h.size, fun k _ _ _ hk _ _ _ => h.block k (Array.getElem?_eq_some_iff.1 hk).1⟩
theorem K8.trans {a b c : World} (h : K8 a b) (g : K8 b c) : K8 a c := ⟨Nat.le_trans h.1 g.1, fun k cs t fr hk h1 h2 h3 => (g.2 k cs t fr ((h.2 k cs t fr hk h1 h2 h3).trans hk) h1 h2 h3).trans (h.2 k cs t fr hk h1 h2 h3)⟩
theorem K8.butNew {w a b : World} {q : Nat} (h : K8 w a) (hb : But q a b) (hq : w.heap.size ≤ q) : K8 w b := ⟨Nat.le_trans h.1 hb.size, fun k cs t fr hk h1 h2 h3 => (hb.block k (Nat.lt_of_lt_of_le (Array.getElem?_eq_some_iff.1 hk).1 h.1) (by have := (Array.getElem?_eq_some_iff.1 hk).1; omega)).trans (h.2 k cs t fr hk h1 h2 h3)⟩
theorem K8.butSto {a b : World} {p : Nat} {cs : Array Value} (hb : But p a b) (hp : a.heap[p]? = some (.cells cs 79 (0, 0))) : K8 a b := ⟨hb.size, fun k cs' t fr hk h1 _ _ => hb.block k (Array.getElem?_eq_some_iff.1 hk).1 (fun e => by subst e; rw [hp] at hk; injection hk with hk; injection hk with _ e _; exact h1 e.symm)⟩
theorem K8.app {w w' : World} {B p : Nat} {va vp va' vp' : Value} {S : Page.St} {b : List UInt8} (hA : Appended w B p va vp S b w' va' vp') (hs : IsSto w B p va vp S) : K8 w w' := ⟨hA.size, fun k cs t fr hk h1 h2 h3 => hA.block k (Array.getElem?_eq_some_iff.1 hk).1 (fun e => by subst e; rw [hs.heap] at hk; injection hk with hk; injection hk with _ e _; exact h1 e.symm) (rowBeside hs.all hk h2) (rowBeside hs.places hk h3)⟩

set_option maxHeartbeats 4000000 in
theorem does8_more {w : World} {B p : Nat} {va vp : Value} {S : Page.St} (h : IsSto w B p va vp S) (hB : B ≤ w.heap.size) (hp : B ≤ p) (o : Page.Op) (t : Value) (ht : Bytes w t o.b) (hf : o.Fits) :
    Calls Try.prog 15 #[.pointer (some ⟨p, 0, none⟩), opV o t] w fun e w' => ∃ (p' : Nat) (va' vp' : Value), e = .returned (.tuple #[.pointer (some ⟨p', 0, none⟩), ansV (Page.step S o).2]) ∧ IsSto w' B p' va' vp' (Page.step S o).1 ∧ B ≤ p' ∧ Below B w w' ∧ K8 w w' := by
  have H := Lib.hid h
  have HT := Lib.hid ht
  obtain ⟨at', nt, ct, rfl⟩ := ht.isSlice
  obtain ⟨kd, kn, kb, ki⟩ := o
  simp only [opV] at *
  have hlt := h.lt
  obtain ⟨w1, hw1⟩ : ∃ w1, ((w.alloc (.cells #[.int .i64 kd, .int .i64 kn, .slice at' nt ct, .bool ki] 34)).alloc (.cells #[.int .i64 0, .int .i64 0, .string ⟨#[]⟩, .bool false] 37)).alloc (.cells #[.int .i64 0, .int .i64 0, .string ⟨#[]⟩, .bool false] 37) = w1 := ⟨_, rfl⟩
  have hE1 : Ext w w1 := by rw [← hw1]; exact ((Ext.alloc _ _).trans (Ext.alloc _ _)).trans (Ext.alloc _ _)
  have hs1 : w1.heap.size = w.heap.size + 3 := by rw [← hw1]; simp
  have ho1 : w1.heap[w.heap.size]? = some (.cells #[.int .i64 kd, .int .i64 kn, .slice at' nt ct, .bool ki] 34 (0, 0)) := by
    rw [← hw1]
    exact (Below.heap_alloc _ _ _ (by simp only [World.size_alloc]; omega)).trans ((Below.heap_alloc _ _ _ (by simp)).trans (heap_alloc_new _ _))
  have hr1 : w1.heap[w.heap.size + 1]? = some (.cells #[.int .i64 0, .int .i64 0, .string ⟨#[]⟩, .bool false] 37 (0, 0)) := by
    rw [← hw1]
    refine (Below.heap_alloc _ _ _ (by simp)).trans ?_
    have := heap_alloc_new (w.alloc (.cells #[.int .i64 kd, .int .i64 kn, .slice at' nt ct, .bool ki] 34)) (.cells #[.int .i64 0, .int .i64 0, .string ⟨#[]⟩, .bool false] 37)
    simpa using this
  have ha1 : w1.heap[w.heap.size + 2]? = some (.cells #[.int .i64 0, .int .i64 0, .string ⟨#[]⟩, .bool false] 37 (0, 0)) := by
    rw [← hw1]
    have := heap_alloc_new ((w.alloc (.cells #[.int .i64 kd, .int .i64 kn, .slice at' nt ct, .bool ki] 34)).alloc (.cells #[.int .i64 0, .int .i64 0, .string ⟨#[]⟩, .bool false] 37)) (.cells #[.int .i64 0, .int .i64 0, .string ⟨#[]⟩, .bool false] 37)
    simpa using this
  have HW1 := Lib.hid hw1
  have f0 : w1.cell? ⟨w.heap.size, 0, none⟩ = some (.int .i64 kd) := cell_of_heap ho1 0
  have f1 : w1.cell? ⟨w.heap.size, 1, none⟩ = some (.int .i64 kn) := cell_of_heap ho1 1
  have f2 : w1.cell? ⟨w.heap.size, 2, none⟩ = some (.slice at' nt ct) := cell_of_heap ho1 2
  have f3 : w1.cell? ⟨w.heap.size, 3, none⟩ = some (.bool ki) := cell_of_heap ho1 3
  have hst1 := h.ext hE1
  have HST := Lib.hid hst1
  clear hw1 h ht hst1
  by_cases hk0 : kd = 0
  · subst hk0
    go_enter Try.func15, Try.ntmps15
    go_wp2_with fail
    rw [HW1.out]
    refine (append8_any HST.out (Nat.le_trans hB hE1.size) _ kb (HT.out.below hE1) (Nat.le_trans hf.2 (by decide))).mono ?_
    rintro e w2 ⟨rfl, va2, vp2, hA⟩
    have hb1 : ∀ g, g < w1.heap.size → w1.heap[g]? = some (.cells #[.int .i64 0, .int .i64 0, .string ⟨#[]⟩, .bool false] 37 (0, 0)) → w2.heap[g]? = some (.cells #[.int .i64 0, .int .i64 0, .string ⟨#[]⟩, .bool false] 37 (0, 0)) := fun g hg hc => (hA.block g hg (fun e => by subst e; rw [HST.out.heap] at hc; injection hc with hc; injection hc with _ e _; exact absurd e (by decide)) (rowBeside HST.out.all hc (by decide)) (rowBeside HST.out.places hc (by decide))).trans hc
    have hr2 := hb1 _ (by omega) hr1
    have ha2 := hb1 _ (by omega) ha1
    have HBEL0 := Lib.hid (Below.trans (B := B) (hE1.mono hB) (hA.below HST.out (Nat.le_refl _) hp (Nat.le_trans hB hE1.size)))
    have HS0 := Lib.hid hA.sto
    have HK80 := Lib.hid ((K8.ext hE1).trans (K8.app hA HST.out))
    obtain ⟨y0, hy0⟩ : ∃ y, ((S.appendAt kb : Nat) : Int) = y := ⟨_, rfl⟩
    obtain ⟨y1, hy1⟩ : ∃ y, S.appendErr kb = y := ⟨_, rfl⟩
    rw [hy0, hy1]
    have HY := Lib.hid (And.intro hy0 hy1)
    have e0 := cell_of_heap ha2 0
    have e1 := cell_of_heap ha2 1
    have e2 := cell_of_heap ha2 2
    have e3 := cell_of_heap ha2 3
    have k0 := frozen_of_heap ha2 0
    have k1 := frozen_of_heap ha2 1
    clear f0 f1 f2 f3 hA hb1 hy0 hy1
    go_wp2_with fail
    have hs9 := heap_setCell (heap_setCell ha2 0 (.int .i64 y0)) 1 (.int .i64 y1)
    have hbt : But (w.heap.size + 2) w2 ((w2.setCell ⟨w.heap.size + 2, 0, none⟩ (.int .i64 y0)).setCell ⟨w.heap.size + 2, 1, none⟩ (.int .i64 y1)) := ((But.refl _ w2).setCell 0 none _).setCell 1 none _
    have HS9 := Lib.hid (IsSto.but HS0.out ha2 hbt)
    have HBEL := Lib.hid (belowBut (B := B) HBEL0.out (by omega) hB hbt)
    have HK8 := Lib.hid (K8.butNew HK80.out hbt (by omega))
    have hr9 := (hbt.block (w.heap.size + 1) (by have := (Array.getElem?_eq_some_iff.1 hr2).1; omega) (by omega)).trans hr2
    clear e0 e1 e2 e3 k0 k1
    generalize (w2.setCell ⟨w.heap.size + 2, 0, none⟩ (.int .i64 y0)).setCell ⟨w.heap.size + 2, 1, none⟩ (.int .i64 y1) = w5 at *
    have r0 : w5.cell? ⟨w.heap.size + 1, 0, none⟩ = some (.int .i64 0) := cell_of_heap hr9 0
    have r1 : w5.cell? ⟨w.heap.size + 1, 1, none⟩ = some (.int .i64 0) := cell_of_heap hr9 1
    have r2 : w5.cell? ⟨w.heap.size + 1, 2, none⟩ = some (.string ⟨#[]⟩) := cell_of_heap hr9 2
    have r3 : w5.cell? ⟨w.heap.size + 1, 3, none⟩ = some (.bool false) := cell_of_heap hr9 3
    have z0 := frozen_of_heap (w := w5) hr9 0
    have z1 := frozen_of_heap (w := w5) hr9 1
    have z2 := frozen_of_heap (w := w5) hr9 2
    have z3 := frozen_of_heap (w := w5) hr9 3
    have g0 : w5.cell? ⟨w.heap.size + 2, 0, none⟩ = some (Value.int .i64 y0) := cell_of_heap hs9 0
    have g1 : w5.cell? ⟨w.heap.size + 2, 1, none⟩ = some (Value.int .i64 y1) := cell_of_heap hs9 1
    have g2 : w5.cell? ⟨w.heap.size + 2, 2, none⟩ = some (Value.string ⟨#[]⟩) := cell_of_heap hs9 2
    have g3 : w5.cell? ⟨w.heap.size + 2, 3, none⟩ = some (Value.bool false) := cell_of_heap hs9 3
    go_wp2_with fail
    go_region
    all_goals
      go_wp2_with fail
      obtain ⟨hf1, hf2⟩ := fill_ans (w := w5) (y0 := Value.int .i64 y0) (y1 := Value.int .i64 y1) (y2 := Value.string ⟨#[]⟩) (y3 := Value.bool false) hr9
      have q0 := cell_of_heap hf1 0
      have q1 := cell_of_heap hf1 1
      have q2 := cell_of_heap hf1 2
      have q3 := cell_of_heap hf1 3
      have hsz := HBEL.out.size
      have hstf := IsSto.but (w := w5) (HS9.out) hr9 hf2
      have hbel := belowBut (B := B) (q := w.heap.size + 1) (HBEL.out) (by omega) hB hf2
      have hk8 := K8.butNew HK8.out hf2 (by omega)
      generalize (w5.setCell ⟨w.heap.size + 1, 0, none⟩ (Value.int .i64 y0)).setCell ⟨w.heap.size + 1, 1, none⟩ (Value.int .i64 y1) = w8 at *
      generalize (w8.setCell ⟨w.heap.size + 1, 2, none⟩ (Value.string ⟨#[]⟩)).setCell ⟨w.heap.size + 1, 3, none⟩ (Value.bool false) = w9 at *
      refine bodyPost_ret (v := .tuple #[.pointer (some ⟨p, 0, none⟩), .agg #[Value.int .i64 y0, Value.int .i64 y1, Value.string ⟨#[]⟩, Value.bool false]]) (by simp [results, Try.results15, go_sem, q0, q1, q2, q3]) rfl ?_
      exact ⟨p, _, _, by rw [← HY.out.1, ← HY.out.2]; rfl, (hstf).ext (Ext.drew _), hp, hbel.trans ((Ext.drew w9).mono (Nat.le_trans hB hbel.size)), hk8.trans (K8.ext (Ext.drew _))⟩
  by_cases hk1 : kd = 1
  · subst hk1
    go_enter Try.func15, Try.ntmps15
    go_wp2_with fail
    rw [HW1.out]
    refine (sync8_any HST.out).mono ?_
    rintro e w2 ⟨rfl, hB2, hs2⟩
    have hr2 : w2.heap[w.heap.size + 1]? = _ := (hB2.block (w.heap.size + 1) (by omega) (by omega)).trans hr1
    have ha2 : w2.heap[w.heap.size + 2]? = _ := (hB2.block (w.heap.size + 2) (by omega) (by omega)).trans ha1
    have HS2 := Lib.hid hs2
    have HBEL := Lib.hid (belowBut (B := B) (hE1.mono hB) hp hB hB2)
    have HK8 := Lib.hid ((K8.ext hE1).trans (K8.butSto hB2 HST.out.heap))
    clear f0 f1 f2 f3 hs2
    have r0 : w2.cell? ⟨w.heap.size + 1, 0, none⟩ = some (.int .i64 0) := cell_of_heap hr2 0
    have r1 : w2.cell? ⟨w.heap.size + 1, 1, none⟩ = some (.int .i64 0) := cell_of_heap hr2 1
    have r2 : w2.cell? ⟨w.heap.size + 1, 2, none⟩ = some (.string ⟨#[]⟩) := cell_of_heap hr2 2
    have r3 : w2.cell? ⟨w.heap.size + 1, 3, none⟩ = some (.bool false) := cell_of_heap hr2 3
    have z0 := frozen_of_heap (w := w2) hr2 0
    have z1 := frozen_of_heap (w := w2) hr2 1
    have z2 := frozen_of_heap (w := w2) hr2 2
    have z3 := frozen_of_heap (w := w2) hr2 3
    have g0 : w2.cell? ⟨w.heap.size + 2, 0, none⟩ = some (Value.int .i64 0) := cell_of_heap ha2 0
    have g1 : w2.cell? ⟨w.heap.size + 2, 1, none⟩ = some (Value.int .i64 0) := cell_of_heap ha2 1
    have g2 : w2.cell? ⟨w.heap.size + 2, 2, none⟩ = some (Value.string ⟨#[]⟩) := cell_of_heap ha2 2
    have g3 : w2.cell? ⟨w.heap.size + 2, 3, none⟩ = some (Value.bool false) := cell_of_heap ha2 3
    go_wp2_with fail
    go_region
    all_goals
      go_wp2_with fail
      obtain ⟨hf1, hf2⟩ := fill_ans (w := w2) (y0 := Value.int .i64 0) (y1 := Value.int .i64 0) (y2 := Value.string ⟨#[]⟩) (y3 := Value.bool false) hr2
      have q0 := cell_of_heap hf1 0
      have q1 := cell_of_heap hf1 1
      have q2 := cell_of_heap hf1 2
      have q3 := cell_of_heap hf1 3
      have hsz := HBEL.out.size
      have hstf := IsSto.but (w := w2) (HS2.out) hr2 hf2
      have hbel := belowBut (B := B) (q := w.heap.size + 1) (HBEL.out) (by omega) hB hf2
      have hk8 := K8.butNew HK8.out hf2 (by omega)
      generalize (w2.setCell ⟨w.heap.size + 1, 0, none⟩ (Value.int .i64 0)).setCell ⟨w.heap.size + 1, 1, none⟩ (Value.int .i64 0) = w8 at *
      generalize (w8.setCell ⟨w.heap.size + 1, 2, none⟩ (Value.string ⟨#[]⟩)).setCell ⟨w.heap.size + 1, 3, none⟩ (Value.bool false) = w9 at *
      refine bodyPost_ret (v := .tuple #[.pointer (some ⟨p, 0, none⟩), .agg #[Value.int .i64 0, Value.int .i64 0, Value.string ⟨#[]⟩, Value.bool false]]) (by simp [results, Try.results15, go_sem, q0, q1, q2, q3]) rfl ?_
      exact ⟨p, _, _, rfl, (hstf).ext (Ext.drew _), hp, hbel.trans ((Ext.drew w9).mono (Nat.le_trans hB hbel.size)), hk8.trans (K8.ext (Ext.drew _))⟩
  by_cases hk2 : kd = 2
  · subst hk2
    go_enter Try.func15, Try.ntmps15
    go_wp2_with fail
    rw [HW1.out]
    refine (crash8_any HST.out kn hf.1).mono ?_
    rintro e w2 ⟨rfl, hB2, va2, vp2, hs20⟩
    have hs2 := hs20.lower (Nat.le_trans hB hE1.size)
    clear hs20
    have hr2 : w2.heap[w.heap.size + 1]? = _ := (hB2.block (w.heap.size + 1) (by omega) (by omega)).trans hr1
    have ha2 : w2.heap[w.heap.size + 2]? = _ := (hB2.block (w.heap.size + 2) (by omega) (by omega)).trans ha1
    have HS2 := Lib.hid hs2
    have HBEL := Lib.hid (belowBut (B := B) (hE1.mono hB) hp hB hB2)
    have HK8 := Lib.hid ((K8.ext hE1).trans (K8.butSto hB2 HST.out.heap))
    clear f0 f1 f2 f3 hs2
    have r0 : w2.cell? ⟨w.heap.size + 1, 0, none⟩ = some (.int .i64 0) := cell_of_heap hr2 0
    have r1 : w2.cell? ⟨w.heap.size + 1, 1, none⟩ = some (.int .i64 0) := cell_of_heap hr2 1
    have r2 : w2.cell? ⟨w.heap.size + 1, 2, none⟩ = some (.string ⟨#[]⟩) := cell_of_heap hr2 2
    have r3 : w2.cell? ⟨w.heap.size + 1, 3, none⟩ = some (.bool false) := cell_of_heap hr2 3
    have z0 := frozen_of_heap (w := w2) hr2 0
    have z1 := frozen_of_heap (w := w2) hr2 1
    have z2 := frozen_of_heap (w := w2) hr2 2
    have z3 := frozen_of_heap (w := w2) hr2 3
    have g0 : w2.cell? ⟨w.heap.size + 2, 0, none⟩ = some (Value.int .i64 0) := cell_of_heap ha2 0
    have g1 : w2.cell? ⟨w.heap.size + 2, 1, none⟩ = some (Value.int .i64 0) := cell_of_heap ha2 1
    have g2 : w2.cell? ⟨w.heap.size + 2, 2, none⟩ = some (Value.string ⟨#[]⟩) := cell_of_heap ha2 2
    have g3 : w2.cell? ⟨w.heap.size + 2, 3, none⟩ = some (Value.bool false) := cell_of_heap ha2 3
    go_wp2_with fail
    go_region
    all_goals
      go_wp2_with fail
      obtain ⟨hf1, hf2⟩ := fill_ans (w := w2) (y0 := Value.int .i64 0) (y1 := Value.int .i64 0) (y2 := Value.string ⟨#[]⟩) (y3 := Value.bool false) hr2
      have q0 := cell_of_heap hf1 0
      have q1 := cell_of_heap hf1 1
      have q2 := cell_of_heap hf1 2
      have q3 := cell_of_heap hf1 3
      have hsz := HBEL.out.size
      have hstf := IsSto.but (w := w2) (HS2.out) hr2 hf2
      have hbel := belowBut (B := B) (q := w.heap.size + 1) (HBEL.out) (by omega) hB hf2
      have hk8 := K8.butNew HK8.out hf2 (by omega)
      generalize (w2.setCell ⟨w.heap.size + 1, 0, none⟩ (Value.int .i64 0)).setCell ⟨w.heap.size + 1, 1, none⟩ (Value.int .i64 0) = w8 at *
      generalize (w8.setCell ⟨w.heap.size + 1, 2, none⟩ (Value.string ⟨#[]⟩)).setCell ⟨w.heap.size + 1, 3, none⟩ (Value.bool false) = w9 at *
      refine bodyPost_ret (v := .tuple #[.pointer (some ⟨p, 0, none⟩), .agg #[Value.int .i64 0, Value.int .i64 0, Value.string ⟨#[]⟩, Value.bool false]]) (by simp [results, Try.results15, go_sem, q0, q1, q2, q3]) rfl ?_
      exact ⟨p, _, _, rfl, (hstf).ext (Ext.drew _), hp, hbel.trans ((Ext.drew w9).mono (Nat.le_trans hB hbel.size)), hk8.trans (K8.ext (Ext.drew _))⟩
  by_cases hk4 : kd = 4
  · subst hk4
    go_enter Try.func15, Try.ntmps15
    go_wp2_with fail
    rw [HW1.out]
    refine (off8_any HST.out ki).mono ?_
    rintro e w2 ⟨rfl, hB2, hs2⟩
    have hr2 : w2.heap[w.heap.size + 1]? = _ := (hB2.block (w.heap.size + 1) (by omega) (by omega)).trans hr1
    have ha2 : w2.heap[w.heap.size + 2]? = _ := (hB2.block (w.heap.size + 2) (by omega) (by omega)).trans ha1
    have HS2 := Lib.hid hs2
    have HBEL := Lib.hid (belowBut (B := B) (hE1.mono hB) hp hB hB2)
    have HK8 := Lib.hid ((K8.ext hE1).trans (K8.butSto hB2 HST.out.heap))
    clear f0 f1 f2 f3 hs2
    have r0 : w2.cell? ⟨w.heap.size + 1, 0, none⟩ = some (.int .i64 0) := cell_of_heap hr2 0
    have r1 : w2.cell? ⟨w.heap.size + 1, 1, none⟩ = some (.int .i64 0) := cell_of_heap hr2 1
    have r2 : w2.cell? ⟨w.heap.size + 1, 2, none⟩ = some (.string ⟨#[]⟩) := cell_of_heap hr2 2
    have r3 : w2.cell? ⟨w.heap.size + 1, 3, none⟩ = some (.bool false) := cell_of_heap hr2 3
    have z0 := frozen_of_heap (w := w2) hr2 0
    have z1 := frozen_of_heap (w := w2) hr2 1
    have z2 := frozen_of_heap (w := w2) hr2 2
    have z3 := frozen_of_heap (w := w2) hr2 3
    have g0 : w2.cell? ⟨w.heap.size + 2, 0, none⟩ = some (Value.int .i64 0) := cell_of_heap ha2 0
    have g1 : w2.cell? ⟨w.heap.size + 2, 1, none⟩ = some (Value.int .i64 0) := cell_of_heap ha2 1
    have g2 : w2.cell? ⟨w.heap.size + 2, 2, none⟩ = some (Value.string ⟨#[]⟩) := cell_of_heap ha2 2
    have g3 : w2.cell? ⟨w.heap.size + 2, 3, none⟩ = some (Value.bool false) := cell_of_heap ha2 3
    go_wp2_with fail
    go_region
    all_goals
      go_wp2_with fail
      obtain ⟨hf1, hf2⟩ := fill_ans (w := w2) (y0 := Value.int .i64 0) (y1 := Value.int .i64 0) (y2 := Value.string ⟨#[]⟩) (y3 := Value.bool false) hr2
      have q0 := cell_of_heap hf1 0
      have q1 := cell_of_heap hf1 1
      have q2 := cell_of_heap hf1 2
      have q3 := cell_of_heap hf1 3
      have hsz := HBEL.out.size
      have hstf := IsSto.but (w := w2) (HS2.out) hr2 hf2
      have hbel := belowBut (B := B) (q := w.heap.size + 1) (HBEL.out) (by omega) hB hf2
      have hk8 := K8.butNew HK8.out hf2 (by omega)
      generalize (w2.setCell ⟨w.heap.size + 1, 0, none⟩ (Value.int .i64 0)).setCell ⟨w.heap.size + 1, 1, none⟩ (Value.int .i64 0) = w8 at *
      generalize (w8.setCell ⟨w.heap.size + 1, 2, none⟩ (Value.string ⟨#[]⟩)).setCell ⟨w.heap.size + 1, 3, none⟩ (Value.bool false) = w9 at *
      refine bodyPost_ret (v := .tuple #[.pointer (some ⟨p, 0, none⟩), .agg #[Value.int .i64 0, Value.int .i64 0, Value.string ⟨#[]⟩, Value.bool false]]) (by simp [results, Try.results15, go_sem, q0, q1, q2, q3]) rfl ?_
      exact ⟨p, _, _, rfl, (hstf).ext (Ext.drew _), hp, hbel.trans ((Ext.drew w9).mono (Nat.le_trans hB hbel.size)), hk8.trans (K8.ext (Ext.drew _))⟩
  by_cases hk5 : kd = 5
  · subst hk5
    go_enter Try.func15, Try.ntmps15
    go_wp2_with fail
    rw [HW1.out]
    refine (bytes8_any HST.out).mono ?_
    rintro e w20 ⟨u, rfl, ho20, hb20⟩
    have hE20 : Ext w1 w20 := hb20
    have hby := ho20.bytes
    obtain ⟨ua, un, uc, rfl⟩ := ownSlice ho20
    have HBY := Lib.hid hby
    have HE20 := Lib.hid hE20
    have HSC := Lib.hid (Page.syn_scan H.out.ok)
    clear f0 f1 f2 f3 ho20 hb20 hby hE20
    go_wp2_with fail
    refine (new8_any _ _ w20 HBY.out).mono ?_
    rintro e w2 ⟨va2, vp2, rfl, hs2, hE2⟩
    rw [HSC.out] at hs2
    have hr2 := heap_ext hr1 (HE20.out.trans hE2)
    have ha2 := heap_ext ha1 (HE20.out.trans hE2)
    have hBw : B ≤ w20.heap.size := Nat.le_trans hB (Nat.le_trans hE1.size HE20.out.size)
    have HS2 := Lib.hid (hs2.lower hBw)
    have HBEL := Lib.hid ((hE1.trans (HE20.out.trans hE2)).mono hB)
    have HK8 := Lib.hid (K8.ext (hE1.trans (HE20.out.trans hE2)))
    obtain ⟨P5, hP5⟩ : ∃ P5, w20.heap.size = P5 := ⟨_, rfl⟩
    rw [hP5] at HS2 hBw ⊢
    clear hs2 hP5 hE2
    have r0 : w2.cell? ⟨w.heap.size + 1, 0, none⟩ = some (.int .i64 0) := cell_of_heap hr2 0
    have r1 : w2.cell? ⟨w.heap.size + 1, 1, none⟩ = some (.int .i64 0) := cell_of_heap hr2 1
    have r2 : w2.cell? ⟨w.heap.size + 1, 2, none⟩ = some (.string ⟨#[]⟩) := cell_of_heap hr2 2
    have r3 : w2.cell? ⟨w.heap.size + 1, 3, none⟩ = some (.bool false) := cell_of_heap hr2 3
    have z0 := frozen_of_heap (w := w2) hr2 0
    have z1 := frozen_of_heap (w := w2) hr2 1
    have z2 := frozen_of_heap (w := w2) hr2 2
    have z3 := frozen_of_heap (w := w2) hr2 3
    have g0 : w2.cell? ⟨w.heap.size + 2, 0, none⟩ = some (Value.int .i64 0) := cell_of_heap ha2 0
    have g1 : w2.cell? ⟨w.heap.size + 2, 1, none⟩ = some (Value.int .i64 0) := cell_of_heap ha2 1
    have g2 : w2.cell? ⟨w.heap.size + 2, 2, none⟩ = some (Value.string ⟨#[]⟩) := cell_of_heap ha2 2
    have g3 : w2.cell? ⟨w.heap.size + 2, 3, none⟩ = some (Value.bool false) := cell_of_heap ha2 3
    go_wp2_with fail
    go_region
    all_goals
      go_wp2_with fail
      obtain ⟨hf1, hf2⟩ := fill_ans (w := w2) (y0 := Value.int .i64 0) (y1 := Value.int .i64 0) (y2 := Value.string ⟨#[]⟩) (y3 := Value.bool false) hr2
      have q0 := cell_of_heap hf1 0
      have q1 := cell_of_heap hf1 1
      have q2 := cell_of_heap hf1 2
      have q3 := cell_of_heap hf1 3
      have hsz := HBEL.out.size
      have hstf := IsSto.but (w := w2) (HS2.out) hr2 hf2
      have hbel := belowBut (B := B) (q := w.heap.size + 1) (HBEL.out) (by omega) hB hf2
      have hk8 := K8.butNew HK8.out hf2 (by omega)
      generalize (w2.setCell ⟨w.heap.size + 1, 0, none⟩ (Value.int .i64 0)).setCell ⟨w.heap.size + 1, 1, none⟩ (Value.int .i64 0) = w8 at *
      generalize (w8.setCell ⟨w.heap.size + 1, 2, none⟩ (Value.string ⟨#[]⟩)).setCell ⟨w.heap.size + 1, 3, none⟩ (Value.bool false) = w9 at *
      refine bodyPost_ret (v := .tuple #[.pointer (some ⟨P5, 0, none⟩), .agg #[Value.int .i64 0, Value.int .i64 0, Value.string ⟨#[]⟩, Value.bool false]]) (by simp [results, Try.results15, go_sem, q0, q1, q2, q3]) rfl ?_
      exact ⟨P5, _, _, rfl, (hstf).ext (Ext.drew _), hBw, hbel.trans ((Ext.drew w9).mono (Nat.le_trans hB hbel.size)), hk8.trans (K8.ext (Ext.drew _))⟩
  by_cases hk3 : kd = 3
  · subst hk3
    go_enter Try.func15, Try.ntmps15
    go_wp2_with fail
    rw [HW1.out]
    refine (read8_any HST.out kn).mono ?_
    rintro e w2 ⟨hE2, hr⟩
    obtain ⟨x, is, hx, hv⟩ : ∃ (x : List UInt8) (is : Bool), (Page.step S ⟨3, kn, kb, ki⟩).2 = ⟨0, 0, x, is⟩ ∧ ∃ a n c, e = .returned (.tuple #[.slice a n c, .bool is]) ∧ Bytes w2 (.slice a n c) x := by
      have hst : (Page.step S ⟨3, kn, kb, ki⟩).2 = ⟨0, 0, (Page.readAt S.l kn).getD [], (Page.readAt S.l kn).isSome⟩ := rfl
      cases hrd : Page.readAt S.l kn with
      | none => rw [hrd] at hr hst; exact ⟨_, _, hst, _, _, _, hr, bytes_none w2⟩
      | some y => rw [hrd] at hr hst; obtain ⟨a, n, c, e1, e2⟩ := hr; exact ⟨_, _, hst, a, n, c, e1, e2.1⟩
    obtain ⟨ax, nx, cx, rfl, hbx⟩ := hv
    have HX := Lib.hid hx
    have hstr := run_str (P := Try.prog) 22 9 5 Try.underlying22 Try.underlying5 Try.underlying9 hbx
    have hr2 := heap_ext hr1 hE2
    have ha2 := heap_ext ha1 hE2
    have HS0 := Lib.hid (HST.out.ext hE2)
    have HBEL0 := Lib.hid ((hE1.trans hE2).mono hB)
    have HK80 := Lib.hid (K8.ext (hE1.trans hE2))
    have e0 := cell_of_heap ha2 0
    have e1 := cell_of_heap ha2 1
    have e2 := cell_of_heap ha2 2
    have e3 := cell_of_heap ha2 3
    have k2 := frozen_of_heap ha2 2
    have k3 := frozen_of_heap ha2 3
    clear f0 f1 f2 f3 hr hx hbx
    go_wp2_with fail
    have hs9 := heap_setCell (heap_setCell ha2 2 (.string ⟨x.toArray⟩)) 3 (.bool is)
    have hbt : But (w.heap.size + 2) w2 ((w2.setCell ⟨w.heap.size + 2, 2, none⟩ (.string ⟨x.toArray⟩)).setCell ⟨w.heap.size + 2, 3, none⟩ (.bool is)) := ((But.refl _ w2).setCell 2 none _).setCell 3 none _
    have HS9 := Lib.hid (IsSto.but HS0.out ha2 hbt)
    have HBEL := Lib.hid (belowBut (B := B) HBEL0.out (by omega) hB hbt)
    have HK8 := Lib.hid (K8.butNew HK80.out hbt (by omega))
    have hr9 := (hbt.block (w.heap.size + 1) (by have := (Array.getElem?_eq_some_iff.1 hr2).1; omega) (by omega)).trans hr2
    clear e0 e1 e2 e3 k2 k3 hstr
    generalize (w2.setCell ⟨w.heap.size + 2, 2, none⟩ (.string ⟨x.toArray⟩)).setCell ⟨w.heap.size + 2, 3, none⟩ (.bool is) = w5 at *
    have r0 : w5.cell? ⟨w.heap.size + 1, 0, none⟩ = some (.int .i64 0) := cell_of_heap hr9 0
    have r1 : w5.cell? ⟨w.heap.size + 1, 1, none⟩ = some (.int .i64 0) := cell_of_heap hr9 1
    have r2 : w5.cell? ⟨w.heap.size + 1, 2, none⟩ = some (.string ⟨#[]⟩) := cell_of_heap hr9 2
    have r3 : w5.cell? ⟨w.heap.size + 1, 3, none⟩ = some (.bool false) := cell_of_heap hr9 3
    have z0 := frozen_of_heap (w := w5) hr9 0
    have z1 := frozen_of_heap (w := w5) hr9 1
    have z2 := frozen_of_heap (w := w5) hr9 2
    have z3 := frozen_of_heap (w := w5) hr9 3
    have g0 : w5.cell? ⟨w.heap.size + 2, 0, none⟩ = some (Value.int .i64 0) := cell_of_heap hs9 0
    have g1 : w5.cell? ⟨w.heap.size + 2, 1, none⟩ = some (Value.int .i64 0) := cell_of_heap hs9 1
    have g2 : w5.cell? ⟨w.heap.size + 2, 2, none⟩ = some (Value.string ⟨x.toArray⟩) := cell_of_heap hs9 2
    have g3 : w5.cell? ⟨w.heap.size + 2, 3, none⟩ = some (Value.bool is) := cell_of_heap hs9 3
    go_wp2_with fail
    go_region
    all_goals
      go_wp2_with fail
      obtain ⟨hf1, hf2⟩ := fill_ans (w := w5) (y0 := Value.int .i64 0) (y1 := Value.int .i64 0) (y2 := Value.string ⟨x.toArray⟩) (y3 := Value.bool is) hr9
      have q0 := cell_of_heap hf1 0
      have q1 := cell_of_heap hf1 1
      have q2 := cell_of_heap hf1 2
      have q3 := cell_of_heap hf1 3
      have hsz := HBEL.out.size
      have hstf := IsSto.but (w := w5) (HS9.out) hr9 hf2
      have hbel := belowBut (B := B) (q := w.heap.size + 1) (HBEL.out) (by omega) hB hf2
      have hk8 := K8.butNew HK8.out hf2 (by omega)
      generalize (w5.setCell ⟨w.heap.size + 1, 0, none⟩ (Value.int .i64 0)).setCell ⟨w.heap.size + 1, 1, none⟩ (Value.int .i64 0) = w8 at *
      generalize (w8.setCell ⟨w.heap.size + 1, 2, none⟩ (Value.string ⟨x.toArray⟩)).setCell ⟨w.heap.size + 1, 3, none⟩ (Value.bool is) = w9 at *
      refine bodyPost_ret (v := .tuple #[.pointer (some ⟨p, 0, none⟩), .agg #[Value.int .i64 0, Value.int .i64 0, Value.string ⟨x.toArray⟩, Value.bool is]]) (by simp [results, Try.results15, go_sem, q0, q1, q2, q3]) rfl ?_
      exact ⟨p, _, _, by rw [HX.out]; rfl, (hstf).ext (Ext.drew _), hp, hbel.trans ((Ext.drew w9).mono (Nat.le_trans hB hbel.size)), hk8.trans (K8.ext (Ext.drew _))⟩
  have hstep : Page.step S ⟨kd, kn, kb, ki⟩ = (S, Page.zero) := by unfold Page.step; simp [hk0, hk1, hk2, hk3, hk4, hk5]
  have HSTEP := Lib.hid hstep
  have HBEL := Lib.hid (hE1.mono hB)
  have HK8 := Lib.hid (K8.ext hE1)
  clear hstep
  go_enter Try.func15, Try.ntmps15
  go_wp2_with fail
  rw [HW1.out]
  have r0 : w1.cell? ⟨w.heap.size + 1, 0, none⟩ = some (.int .i64 0) := cell_of_heap hr1 0
  have r1 : w1.cell? ⟨w.heap.size + 1, 1, none⟩ = some (.int .i64 0) := cell_of_heap hr1 1
  have r2 : w1.cell? ⟨w.heap.size + 1, 2, none⟩ = some (.string ⟨#[]⟩) := cell_of_heap hr1 2
  have r3 : w1.cell? ⟨w.heap.size + 1, 3, none⟩ = some (.bool false) := cell_of_heap hr1 3
  have z0 := frozen_of_heap (w := w1) hr1 0
  have z1 := frozen_of_heap (w := w1) hr1 1
  have z2 := frozen_of_heap (w := w1) hr1 2
  have z3 := frozen_of_heap (w := w1) hr1 3
  have g0 : w1.cell? ⟨w.heap.size + 2, 0, none⟩ = some (Value.int .i64 0) := cell_of_heap ha1 0
  have g1 : w1.cell? ⟨w.heap.size + 2, 1, none⟩ = some (Value.int .i64 0) := cell_of_heap ha1 1
  have g2 : w1.cell? ⟨w.heap.size + 2, 2, none⟩ = some (Value.string ⟨#[]⟩) := cell_of_heap ha1 2
  have g3 : w1.cell? ⟨w.heap.size + 2, 3, none⟩ = some (Value.bool false) := cell_of_heap ha1 3
  go_region
  all_goals
    go_wp2_with fail
    obtain ⟨hf1, hf2⟩ := fill_ans (w := w1) (y0 := Value.int .i64 0) (y1 := Value.int .i64 0) (y2 := Value.string ⟨#[]⟩) (y3 := Value.bool false) hr1
    have q0 := cell_of_heap hf1 0
    have q1 := cell_of_heap hf1 1
    have q2 := cell_of_heap hf1 2
    have q3 := cell_of_heap hf1 3
    have hsz := HBEL.out.size
    have hstf := IsSto.but (w := w1) (HST.out) hr1 hf2
    have hbel := belowBut (B := B) (q := w.heap.size + 1) (HBEL.out) (by omega) hB hf2
    have hk8 := K8.butNew HK8.out hf2 (by omega)
    generalize (w1.setCell ⟨w.heap.size + 1, 0, none⟩ (Value.int .i64 0)).setCell ⟨w.heap.size + 1, 1, none⟩ (Value.int .i64 0) = w8 at *
    generalize (w8.setCell ⟨w.heap.size + 1, 2, none⟩ (Value.string ⟨#[]⟩)).setCell ⟨w.heap.size + 1, 3, none⟩ (Value.bool false) = w9 at *
    refine bodyPost_ret (v := .tuple #[.pointer (some ⟨p, 0, none⟩), .agg #[Value.int .i64 0, Value.int .i64 0, Value.string ⟨#[]⟩, Value.bool false]]) (by simp [results, Try.results15, go_sem, q0, q1, q2, q3]) rfl ?_
    exact ⟨p, _, _, by rw [HSTEP.out]; rfl, (show IsSto _ _ _ _ _ (Page.step S ⟨kd, kn, kb, ki⟩).1 from by rw [HSTEP.out]; exact hstf).ext (Ext.drew _), hp, hbel.trans ((Ext.drew w9).mono (Nat.le_trans hB hbel.size)), hk8.trans (K8.ext (Ext.drew _))⟩
theorem does8_any {w : World} {B p : Nat} {va vp : Value} {S : Page.St} (h : IsSto w B p va vp S) (hB : B ≤ w.heap.size) (hp : B ≤ p) (o : Page.Op) (t : Value) (ht : Bytes w t o.b) (hf : o.Fits) :
    Calls Try.prog 15 #[.pointer (some ⟨p, 0, none⟩), opV o t] w fun e w' => ∃ (p' : Nat) (va' vp' : Value), e = .returned (.tuple #[.pointer (some ⟨p', 0, none⟩), ansV (Page.step S o).2]) ∧ IsSto w' B p' va' vp' (Page.step S o).1 ∧ B ≤ p' ∧ Below B w w' :=
  (does8_more h hB hp o t ht hf).mono fun e w' ⟨p', va', vp', h1, h2, h3, h4, _⟩ => ⟨p', va', vp', h1, h2, h3, h4⟩
end Go.Proofs.Ytpefengjpedifaa
