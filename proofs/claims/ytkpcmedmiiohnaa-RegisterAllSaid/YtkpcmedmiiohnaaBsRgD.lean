/-
  Merged: Layer 14, the program: New, Start, Row, records.
-/
import Derived.Test.YtkpcmedmiiohnaaBsRgC

namespace Go.Proofs.Ytkpcmedmiiohnaa
set_option linter.unusedSimpArgs false
set_option linter.unusedVariables false
set_option maxRecDepth 100000
open Go.RowKit
/- Layer 14, the program: New, Start, Row, records. -/
section
variable {P : Program} {ops : Array Oper} {Q : Exit → Act → World → Prop} {rest : List Oper} {op : Oper} {a : Act} {w : World}
theorem opAny14 {w' : World} (v : Value) {o : Op} (ho : op.op = o) (hw : Region.wanted op (yielded ops a.tmps) = true) (hr : (execOp a.eval op).run P w = .ok (.value v) w') (hk : wpList P ops Q rest (a.put op.dst v) w') : wpList P ops Q (op :: rest) a w :=
  BigFrame.wpList_want hw fun K hK => by
    unfold Oper.wp
    rw [hr]
    exact hK _ _ hk
end
def GivesNew14 (c : Term.C) (w : World) (e : Ending) (w' : World) : Prop :=
  (Term.right c = false ∧ e = .returned (.tuple #[.pointer none, .int .i64 1]) ∧ Ext w w') ∨
  (∃ p, Term.right c = true ∧ e = .returned (.tuple #[.pointer (some ⟨p, 0, none⟩), .int .i64 0]) ∧ IsReg w' w.heap.size p [⟨c, [], 0⟩] ∧ Ext w w')
theorem Reg.many_nil (c : Term.C) (h : Term.right c = true) : 0 ≤ Reg.many c [] ∧ Reg.many c [] ≤ 8796093022208 := by
  have h1 := rightSmall h
  unfold Reg.many
  rw [Ent.lastOf_nil]
  unfold zeros
  split <;> simp
theorem Reg.ok_new (c : Term.C) (h : Term.right c = true) : Reg.Ok [⟨c, [], 0⟩] := by
  refine ⟨by simp, fun x hx => ?_, fun i hi => ?_, rfl, fun i hi => absurd hi (by simp), fun x hx => ?_, rfl, fun x hx => ?_⟩
  · rw [List.mem_singleton.1 hx]; exact h
  · obtain rfl : i = 0 := by simpa using hi
    simp [Reg.first]
  · rw [List.mem_singleton.1 hx]; exact Reg.many_nil c h
  · rw [List.mem_singleton.1 hx]; rfl
theorem reg_new14 {w : World} {B : Nat} {s d : Value} {c : Term.C} (hs : OwnI w B s c.seqs) (hd : OwnRR w B d c.shards) (hB : B ≤ w.heap.size) (hr : Term.right c = true) :
    IsReg ((w.alloc (.cells #[.int .i64 c.term, s, d, .slice none 0 0, .int .i64 0] 68)).alloc (.cells #[.slice (some ⟨w.heap.size, 0, none⟩) 1 1] 71)) B (w.heap.size + 1) [⟨c, [], 0⟩] := by
  have h1 := World.ownsRow_lit (e := 68) (size := 5) (base := B) w #[.int .i64 c.term, s, d, .slice none 0 0, .int .i64 0] 1 hB (by simp [maxLen]) rfl
  have h2 := heap_alloc_new (w.alloc (.cells #[.int .i64 c.term, s, d, .slice none 0 0, .int .i64 0] 68)) (.cells #[.slice (some ⟨w.heap.size, 0, none⟩) 1 1] 71)
  rw [World.size_alloc] at h2
  have hk : Keeps14 w ((w.alloc (.cells #[.int .i64 c.term, s, d, .slice none 0 0, .int .i64 0] 68)).alloc (.cells #[.slice (some ⟨w.heap.size, 0, none⟩) 1 1] 71)) := Keeps14.ext ((Ext.alloc _ _).trans (Ext.alloc _ _))
  refine ⟨⟨_, [⟨s, d, .slice none 0 0, ⟨c, [], 0⟩⟩], h2, rowExt h1 (Ext.alloc _ _), fun r hr => ?_, rfl⟩, by omega, Reg.ok_new c hr⟩
  rw [List.mem_singleton.1 hr]
  exact ⟨Keeps14.ints hs hk, Keeps14.rows hd hk, OwnT.nil _ _⟩
set_option maxHeartbeats 4000000 in
theorem new14_any (v : Value) (c : Term.C) (w : World) (hv : IsConf w v c) : Calls Try.prog 9 #[v] w (GivesNew14 c w) := by
  have HV := Lib.hid hv
  obtain ⟨s, d, rfl, hs, hd⟩ := hv
  obtain ⟨sa, sn, sc, rfl⟩ := hs.isSlice
  obtain ⟨da, dc, rfl, _⟩ := hd.open
  unfold confV at HV ⊢
  obtain ⟨N, hN⟩ : ∃ z, c.shards.length = z := ⟨_, rfl⟩
  obtain ⟨t, ht⟩ : ∃ z, c.term = z := ⟨_, rfl⟩
  rw [hN, ht] at HV ⊢
  have HT := Lib.hid ht
  obtain ⟨q, hq⟩ : ∃ q, w.heap.size = q := ⟨_, rfl⟩
  obtain ⟨w1, hw1⟩ : ∃ z, w.alloc (.cells #[.int .i64 t, .slice sa sn sc, .slice da N dc] 33) = z := ⟨_, rfl⟩
  have hE1 : Ext w w1 := by rw [← hw1]; exact Ext.alloc _ _
  have HB1 := Lib.hid (show w1.heap[q]? = some (.cells #[.int .i64 t, .slice sa sn sc, .slice da N dc] 33 (0, 0)) by rw [← hw1, ← hq]; exact heap_alloc_new _ _)
  have HW := Lib.hid (And.intro hq (And.intro hw1 hE1))
  clear hs hd hN ht hq hw1 hE1
  go_enter Try.func9, Try.ntmps9
  go_upto_region 1 with fail
  rw [HW.out.1, HW.out.2.1]
  have c0 := cell_of_heap HB1.out 0
  have c1 := cell_of_heap HB1.out 1
  have c2 := cell_of_heap HB1.out 2
  simp only [List.getElem?_toArray, List.getElem?_cons_zero, List.getElem?_cons_succ] at c0 c1 c2
  go_wp2_with fail
  refine (right6_any _ c w1 (HV.out.below HW.out.2.2)).mono ?_
  rintro e w2 ⟨rfl, hE2⟩
  have HB2 := Lib.hid (heap_ext HB1.out hE2)
  have HE2 := Lib.hid (HW.out.2.2.trans hE2)
  have d0 := cell_of_heap HB2.out 0
  have d1 := cell_of_heap HB2.out 1
  have d2 := cell_of_heap HB2.out 2
  simp only [List.getElem?_toArray, List.getElem?_cons_zero, List.getElem?_cons_succ] at d0 d1 d2
  clear c0 c1 c2 hE2
  cases hr : Term.right c with
  | false =>
    have HR := Lib.hid hr
    clear hr
    go_wp2_with fail
    go_ret2
    exact .inl ⟨HR.out, rfl, HE2.out⟩
  | true =>
    have HR := Lib.hid hr
    clear hr
    go_wp2_with fail
    refine (ownConf14_any _ c w2 (HV.out.below HE2.out) HR.out).mono ?_
    rintro e w3 ⟨s, d, rfl, hs, hd, hE3⟩
    obtain ⟨s1, s2, s3, rfl⟩ := ownSlice hs
    obtain ⟨y1, y2, y3, rfl⟩ := hd.slice
    have HS := Lib.hid (And.intro hs (And.intro hd hE3))
    clear hs hd hE3 d0 d1 d2
    have HT2 := HT
    unfold confV
    rw [HT.out]
    obtain ⟨w4, hw4⟩ : ∃ z, w3.alloc (.cells #[.int .i64 t, .slice s1 s2 s3, .slice y1 y2 y3, .slice none 0 0, .int .i64 0] 68) = z := ⟨_, rfl⟩
    have HW4 := Lib.hid hw4
    clear hw4
    go_wp2_with (first
      | (refine opAny14 (.agg #[.int .i64 t, .slice s1 s2 s3, .slice y1 y2 y3, .slice none 0 0, .int .i64 0]) (o := .build 68 _) rfl (by kernel_rfl) (w' := w3) (by kernel_rfl) ?_)
      | (refine opAny14 (.slice (some ⟨w3.heap.size, 0, none⟩) 1 1) (o := .buildSlice 69 _ _) rfl (by kernel_rfl) (w' := w4) (by rw [← HW4.out]; kernel_rfl) ?_))
    go_ret2
    rename_i hjunk
    have hn := reg_new14 (w := w3) (B := w.heap.size) (c := c) (HS.out.1.lower HE2.out.size) (HS.out.2.1.lower HE2.out.size) (Nat.le_trans HE2.out.size HS.out.2.2.size) HR.out
    rw [HT.out, HW4.out, show w3.heap.size + 1 = w4.heap.size by rw [← HW4.out, World.size_alloc]] at hn
    exact .inr ⟨_, HR.out, rfl, hn, (HE2.out.trans (HS.out.2.2.trans (show Ext w3 w4 by rw [← HW4.out]; exact Ext.alloc _ _))).trans (Ext.alloc _ _)⟩
theorem start14_any {w : World} {B p : Nat} {R : List Reg.Row} (t : Int) (h : IsReg w B p R) : Calls Try.prog 21 #[.pointer (some ⟨p, 0, none⟩), .int .i64 t] w fun e w' => e = .returned (match Reg.look R t with | some x => .tuple #[.int .i64 x.start, .int .i64 0] | none => .tuple #[.int .i64 0, .int .i64 141]) ∧ Ext w w' := by
  obtain ⟨g, c, L, h1, h2, h3, h4, hl, hat, hR, hc⟩ := h.open
  have HA := Lib.hid (at14_any t h h1)
  have HO := Lib.hid h.ok
  have HL := Lib.hid (And.intro hl hR)
  have HC := Lib.hid hc
  clear h h1 h2 h3 h4 hl hat hR hc
  by_cases hin : Reg.first R ≤ t ∧ t ≤ Reg.current R
  · obtain ⟨i, hi, hw, hlk, ht⟩ := HO.out.look_some hin.1 hin.2
    have hcell := (HC.out i (by rw [HL.out.1]; exact hi)).2.2.2.2
    have hst : (L[i]'(by rw [HL.out.1]; exact hi)).x.start = R[i].start := by
      have hR := HL.out.2
      subst hR
      simp
    rw [hst] at hcell
    rw [hlk]
    have hp : atPtr14 g R t = some ⟨g, i * 5, none⟩ := by unfold atPtr14; rw [hw]; rfl
    rw [hp] at HA
    obtain ⟨S, hS⟩ : ∃ z, R[i].start = z := ⟨_, rfl⟩
    rw [hS] at hcell
    simp only [hS]
    have HCE := Lib.hid hcell
    clear hcell hst hin hi hw hlk ht hp hS
    go_enter Try.func21, Try.ntmps21
    go_wp2_with fail
    refine HA.out.mono ?_
    rintro e w1 ⟨rfl, hE⟩
    have hc1 := cellExt hE HCE.out
    have HE := Lib.hid hE
    clear hE
    go_wp2_with fail
    go_ret2
    exact ⟨rfl, HE.out⟩
  · obtain ⟨hw, hlk⟩ := Reg.look_none hin
    rw [hlk]
    have hp : atPtr14 g R t = none := by unfold atPtr14; rw [hw]; rfl
    rw [hp] at HA
    clear hin hw hlk hp
    go_enter Try.func21, Try.ntmps21
    go_wp2_with fail
    refine HA.out.mono ?_
    rintro e w1 ⟨rfl, hE⟩
    have HE := Lib.hid hE
    clear hE
    go_wp2_with fail
    go_ret2
    exact ⟨rfl, HE.out⟩

/-- What Row gives of a term that there is. -/
def GivesRow14 (R : List Reg.Row) (t : Int) (w : World) (e : Ending) (w' : World) : Prop :=
  Ext w w' ∧ ((Reg.look R t = none ∧ e = .returned (.tuple #[.agg #[.int .i64 0, .slice none 0 0, .slice none 0 0, .slice none 0 0, .bool false], .int .i64 141])) ∨
    ∃ x s d tl, Reg.look R t = some x ∧ e = .returned (.tuple #[.agg #[.int .i64 x.c.term, s, d, tl, .bool (decide (t < Reg.current R))], .int .i64 0]) ∧ OwnI w' w.heap.size s x.c.seqs ∧ OwnRR w' w.heap.size d x.c.shards ∧ OwnT w' w.heap.size tl x.tail)
theorem build_Row14 (w : World) (n : Int) (a b c : Option Addr) (n1 n2 n3 c1 c2 c3 : Nat) (o : Bool) : (Instr.build 56 #[(0, .agg #[.int .i64 n, .slice a n1 c1, .slice b n2 c2]), (1, .slice c n3 c3), (2, .bool o)]).run Try.prog w = .ok (.agg #[.int .i64 n, .slice a n1 c1, .slice b n2 c2, .slice c n3 c3, .bool o]) w := by cases o <;> kernel_rfl
theorem OwnT.shape {w : World} {B : Nat} {v : Value} {l : List Ent.E} (h : OwnT w B v l) : ∃ a n c, v = .slice a n c := by
  obtain ⟨ps, _, _, h3⟩ := h
  exact ownSlice h3
set_option maxHeartbeats 8000000 in
theorem row14_any {w : World} {B p : Nat} {R : List Reg.Row} (t : Int) (h : IsReg w B p R) (hsm : ∀ x ∈ R, x.tail.length * 64 ≤ 140737488355328 ∧ ∀ e ∈ x.tail, e.cut.length ≤ 1000000) : Calls Try.prog 18 #[.pointer (some ⟨p, 0, none⟩), .int .i64 t] w (GivesRow14 R t w) := by
  obtain ⟨q, hq⟩ : ∃ q, w.heap.size = q := ⟨_, rfl⟩
  obtain ⟨w1, hw1⟩ : ∃ z, w.alloc (.cells #[.int .i64 0, .slice none 0 0, .slice none 0 0, .slice none 0 0, .bool false] 56) = z := ⟨_, rfl⟩
  have hE1 : Ext w w1 := by rw [← hw1]; exact Ext.alloc _ _
  have HB1 := Lib.hid (show w1.heap[q]? = some (.cells #[.int .i64 0, .slice none 0 0, .slice none 0 0, .slice none 0 0, .bool false] 56 (0, 0)) by rw [← hw1, ← hq]; exact heap_alloc_new _ _)
  have HW := Lib.hid (And.intro hq (And.intro hw1 hE1))
  have hs1 : q + 1 = w1.heap.size := by rw [← hw1, World.size_alloc, hq]
  have HS1 := Lib.hid hs1
  have H1 := Lib.hid (h.ext hE1)
  obtain ⟨g, c, L, h1, h2, h3, h4, hl, hat, hR, hc⟩ := H1.out.open
  have HA := Lib.hid (at14_any t H1.out h1)
  have HO := Lib.hid h.ok
  have HL := Lib.hid (And.intro hl hR)
  have HC := Lib.hid hc
  have HAT := Lib.hid hat
  have HSM := Lib.hid hsm
  clear h h1 h2 h3 h4 hl hat hR hc hsm hq hw1 hE1 hs1
  by_cases hin : Reg.first R ≤ t ∧ t ≤ Reg.current R
  · obtain ⟨i, hi, hw, hlk, ht⟩ := HO.out.look_some hin.1 hin.2
    have hiL : i < L.length := by rw [HL.out.1]; exact hi
    have hcell := HC.out i hiL
    have hrow := HAT.out _ (List.getElem_mem hiL)
    have hx : L[i].x = R[i] := by
      have hR := HL.out.2
      subst hR
      simp
    have hsx := HSM.out _ (List.getElem_mem hi)
    have hrx := HO.out.right _ (List.getElem_mem hi)
    have hp : atPtr14 g R t = some ⟨g, i * 5, none⟩ := by unfold atPtr14; rw [hw]; rfl
    rw [hp] at HA
    obtain ⟨⟨s, d, tl, X⟩, hLi⟩ : ∃ z, L[i] = z := ⟨_, rfl⟩
    rw [hLi] at hcell hrow hx
    simp only at hcell hx
    obtain ⟨hr1, hr2, hr3⟩ := hrow
    simp only at hr1 hr2 hr3
    rw [← hx] at hlk hsx hrx
    obtain ⟨s1, s2, s3, rfl⟩ := ownSlice hr1
    obtain ⟨y1, y2, y3, rfl⟩ := hr2.slice
    obtain ⟨z1, z2, z3, rfl⟩ := hr3.shape
    obtain ⟨k0, k1, k2, k3, k4⟩ := hcell
    have HK := Lib.hid (And.intro k0 (And.intro k1 (And.intro k2 k3)))
    have HCF := Lib.hid (fun (wy : World) (hy : Ext w1 wy) => ownConf14_any (confV X.c.term (.slice s1 s2 s3) (.slice y1 y2 y3)) X.c wy ⟨_, _, rfl, hr1.ints.below hy, hr2.rows.below hy⟩ hrx)
    have HTL := Lib.hid (fun (wy : World) (hy : Ext w1 wy) => ownTail14_any (.slice z1 z2 z3) X.tail wy (hr3.ents.below hy) hsx.1 hsx.2)
    have HCU := Lib.hid (fun (wy : World) (hy : Ext w1 wy) => current14_any (H1.out.ext hy))
    unfold confV at HCF
    have HLK := Lib.hid hlk
    obtain ⟨T, hT⟩ : ∃ z, X.c.term = z := ⟨_, rfl⟩
    rw [hT] at HCF HK
    have HTT := Lib.hid hT
    obtain ⟨G, hG⟩ : ∃ z, Reg.current R = z := ⟨_, rfl⟩
    rw [hG] at HCU
    have HG := Lib.hid hG
    clear hin hi hw hlk ht hp hiL hx hsx hrx hLi hr1 hr2 hr3 k0 k1 k2 k3 k4 hT hG
    go_enter Try.func18, Try.ntmps18
    go_upto_region 1 with fail
    rw [HW.out.1, HW.out.2.1]
    go_wp2_with fail
    refine HA.out.mono ?_
    rintro e w2 ⟨rfl, hE2⟩
    have HE2 := Lib.hid hE2
    clear hE2
    go_wp2_with fail
    refine wp_region_tail (by kernel_rfl) 15 Ext (fun iop v w => match iop with
        | 0 => v = .pointer (some ⟨g, i * 5, none⟩)
        | 1 => v = .pointer (some ⟨g, i * 5, none⟩)
        | 2 => v = .pointer (some ⟨g, i * 5, none⟩)
        | 3 => v = .agg #[.int .i64 T, .slice s1 s2 s3, .slice y1 y2 y3]
        | 4 => ∃ a n c a2 n2 c2, v = .agg #[.int .i64 T, .slice a n c, .slice a2 n2 c2] ∧ OwnI w (q + 1) (.slice a n c) X.c.seqs ∧ OwnRR w (q + 1) (.slice a2 n2 c2) X.c.shards
        | 5 => v = .pointer (some ⟨g, i * 5, none⟩)
        | 6 => v = .pointer (some ⟨g, i * 5, none⟩)
        | 7 => v = .pointer (some ⟨g, i * 5 + 3, none⟩)
        | 8 => v = .slice z1 z2 z3
        | 9 => ∃ a n c, v = .slice a n c ∧ OwnT w (q + 1) (.slice a n c) X.tail
        | 10 => v = .int .i64 t
        | 11 => v = .pointer (some ⟨p, 0, none⟩)
        | 12 => v = .int .i64 G
        | 13 => v = .bool (decide (t < G))
        | _ => ∃ a n c a2 n2 c2 a3 n3 c3, v = .agg #[.int .i64 T, .slice a n c, .slice a2 n2 c2, .slice a3 n3 c3, .bool (decide (t < G))] ∧ OwnI w (q + 1) (.slice a n c) X.c.seqs ∧ OwnRR w (q + 1) (.slice a2 n2 c2) X.c.shards ∧ OwnT w (q + 1) (.slice a3 n3 c3) X.tail
        ) (by kernel_rfl) (by kernel_rfl) (by decide) (fun _ _ _ h k => Ext.trans h k) (fun a => Ext.refl a) (Ext.drew _) ?_ ?_ ?_
    · intro iop v wa wb hF hL
      iterate 4 (rcases iop with _ | iop; exact hF)
      rcases iop with _ | iop; (first | exact hF | (obtain ⟨a, n, c, a2, n2, c2, a3, n3, c3, h1, h2, h3, h4⟩ := hF; exact ⟨a, n, c, a2, n2, c2, a3, n3, c3, h1, h2.ext hL, h3.ext hL, h4.keeps (Keeps14.ext hL)⟩) | (obtain ⟨a, n, c, a2, n2, c2, h1, h2, h3⟩ := hF; exact ⟨a, n, c, a2, n2, c2, h1, h2.ext hL, h3.ext hL⟩) | (obtain ⟨a, n, c, h1, h2⟩ := hF; exact ⟨a, n, c, h1, h2.keeps (Keeps14.ext hL)⟩))
      iterate 4 (rcases iop with _ | iop; exact hF)
      rcases iop with _ | iop; (first | exact hF | (obtain ⟨a, n, c, a2, n2, c2, a3, n3, c3, h1, h2, h3, h4⟩ := hF; exact ⟨a, n, c, a2, n2, c2, a3, n3, c3, h1, h2.ext hL, h3.ext hL, h4.keeps (Keeps14.ext hL)⟩) | (obtain ⟨a, n, c, a2, n2, c2, h1, h2, h3⟩ := hF; exact ⟨a, n, c, a2, n2, c2, h1, h2.ext hL, h3.ext hL⟩) | (obtain ⟨a, n, c, h1, h2⟩ := hF; exact ⟨a, n, c, h1, h2.keeps (Keeps14.ext hL)⟩))
      iterate 4 (rcases iop with _ | iop; exact hF)
      (first | exact hF | (obtain ⟨a, n, c, a2, n2, c2, a3, n3, c3, h1, h2, h3, h4⟩ := hF; exact ⟨a, n, c, a2, n2, c2, a3, n3, c3, h1, h2.ext hL, h3.ext hL, h4.keeps (Keeps14.ext hL)⟩) | (obtain ⟨a, n, c, a2, n2, c2, h1, h2, h3⟩ := hF; exact ⟨a, n, c, a2, n2, c2, h1, h2.ext hL, h3.ext hL⟩) | (obtain ⟨a, n, c, h1, h2⟩ := hF; exact ⟨a, n, c, h1, h2.keeps (Keeps14.ext hL)⟩))
    · refine Obls.cons ?_ (Obls.cons ?_ (Obls.cons ?_ (Obls.cons ?_ (Obls.cons ?_ (Obls.cons ?_ (Obls.cons ?_ (Obls.cons ?_ (Obls.cons ?_ (Obls.cons ?_ (Obls.cons ?_ (Obls.cons ?_ (Obls.cons ?_ (Obls.cons ?_ (Obls.cons ?_ (Obls.nil)))))))))))))))
      · intro ev wy hp hl hk hd
        have e6 : ev _ = .pointer (some ⟨g, i * 5, none⟩) := hk 6 (by decide)
        exact Yield.mv rfl ⟨Ext.refl _, e6⟩
      · intro ev wy hp hl hk hd
        have e13 : ev _ = _ := hk 13 (by decide)
        exact Yield.oq (by simp [execOp, go_sem, e13])
      · intro ev wy hp hl hk hd
        have e14 : ev _ = _ := hk 14 (by decide)
        exact Yield.oq (by simp [execOp, go_sem, e14])
      · intro ev wy hp hl hk hd
        have e15 : ev _ = _ := hk 15 (by decide)
        exact Yield.op (v := .agg #[.int .i64 T, .slice s1 s2 s3, .slice y1 y2 y3]) (w' := wy) (by simp [execOp, go_sem, e15, cellExt (HE2.out.trans hl) HK.out.1, cellExt (HE2.out.trans hl) HK.out.2.1, cellExt (HE2.out.trans hl) HK.out.2.2.1]) ⟨Ext.refl _, rfl⟩
      · intro ev wy hp hl hk hd
        have e16 : ev _ = _ := hk 16 (by decide)
        refine Yield.call rfl hp Try.func23 rfl (by kernel_rfl) ?_
        simp only [List.map_toArray, List.map_cons, List.map_nil, e16]
        exact (HCF.out wy (HE2.out.trans hl)).mono fun e w' ⟨s, d, he, hs, hd, hE⟩ => by
          obtain ⟨a, n, c, rfl⟩ := ownSlice hs
          obtain ⟨a2, n2, c2, rfl⟩ := hd.slice
          have hle : q + 1 ≤ wy.heap.size := by rw [HS1.out]; exact (HE2.out.trans hl).size
          exact ⟨_, he, hE, a, n, c, a2, n2, c2, by unfold confV; rw [HTT.out], hs.lower hle, hd.lower hle⟩
      · intro ev wy hp hl hk hd
        have e6 : ev _ = .pointer (some ⟨g, i * 5, none⟩) := hk 6 (by decide)
        exact Yield.mv rfl ⟨Ext.refl _, e6⟩
      · intro ev wy hp hl hk hd
        have e18 : ev _ = _ := hk 18 (by decide)
        exact Yield.oq (by simp [execOp, go_sem, e18])
      · intro ev wy hp hl hk hd
        have e19 : ev _ = _ := hk 19 (by decide)
        exact Yield.oq (by simp [execOp, go_sem, e19])
      · intro ev wy hp hl hk hd
        have e20 : ev _ = _ := hk 20 (by decide)
        exact Yield.op (v := .slice z1 z2 z3) (w' := wy) (by simp [execOp, go_sem, e20, cellExt (HE2.out.trans hl) HK.out.2.2.2]) ⟨Ext.refl _, rfl⟩
      · intro ev wy hp hl hk hd
        have e21 : ev _ = _ := hk 21 (by decide)
        refine Yield.call rfl hp Try.func35 rfl (by kernel_rfl) ?_
        simp only [List.map_toArray, List.map_cons, List.map_nil, e21]
        exact (HTL.out wy (HE2.out.trans hl)).mono fun e w' ⟨u, he, ht, hE⟩ => by
          obtain ⟨a, n, c, rfl⟩ := ht.shape
          have hle : q + 1 ≤ wy.heap.size := by rw [HS1.out]; exact (HE2.out.trans hl).size
          exact ⟨_, he, hE, a, n, c, rfl, ht.lower hle⟩
      · intro ev wy hp hl hk hd
        have e1 : ev _ = .int .i64 t := hk 1 (by decide)
        exact Yield.mv rfl ⟨Ext.refl _, e1⟩
      · intro ev wy hp hl hk hd
        have e0 : ev _ = .pointer (some ⟨p, 0, none⟩) := hk 0 (by decide)
        exact Yield.mv rfl ⟨Ext.refl _, e0⟩
      · intro ev wy hp hl hk hd
        have e24 : ev _ = _ := hk 24 (by decide)
        refine Yield.call rfl hp Try.func17 rfl (by kernel_rfl) ?_
        simp only [List.map_toArray, List.map_cons, List.map_nil, e24]
        exact (HCU.out wy (HE2.out.trans hl)).mono fun _ _ ⟨he, hb⟩ => ⟨_, he, hb, by first | rfl | simp⟩
      · intro ev wy hp hl hk hd
        have e23 : ev _ = _ := hk 23 (by decide)
        have e25 : ev _ = _ := hk 25 (by decide)
        exact Yield.op (v := .bool (decide (t < G))) (w' := wy) (by simp [execOp, go_sem, e23, e25]) ⟨Ext.refl _, rfl⟩
      · intro ev wy hp hl hk hd
        have f17 : (fun (v : Value) (w : World) => ∃ a n c a2 n2 c2, v = .agg #[.int .i64 T, .slice a n c, .slice a2 n2 c2] ∧ OwnI w (q + 1) (.slice a n c) X.c.seqs ∧ OwnRR w (q + 1) (.slice a2 n2 c2) X.c.shards) (ev (.tmp 17)) wy := hk 17 (by decide)
        generalize hx17 : ev (.tmp 17) = x17 at *
        have f22 : (fun (v : Value) (w : World) => ∃ a n c, v = .slice a n c ∧ OwnT w (q + 1) (.slice a n c) X.tail) (ev (.tmp 22)) wy := hk 22 (by decide)
        generalize hx22 : ev (.tmp 22) = x22 at *
        have e26 : ev _ = _ := hk 26 (by decide)
        obtain ⟨a, n, c, a2, n2, c2, hv17, ho1, ho2⟩ := f17
        obtain ⟨a3, n3, c3, hv22, ho3⟩ := f22
        exact Yield.op (v := .agg #[.int .i64 T, .slice a n c, .slice a2 n2 c2, .slice a3 n3 c3, .bool (decide (t < G))]) (w' := wy) (by simp only [execOp, List.map_toArray, List.map_cons, List.map_nil, hx17, hv17, hx22, hv22, e26, Sem.run_bind, build_Row14]; rfl) ⟨Ext.refl _, a, n, c, a2, n2, c2, a3, n3, c3, rfl, ho1, ho2, ho3⟩
    · intro vals wz hz hv
      have g13 : vals 0 = _ := hv 0 (by decide)
      have g14 : vals 1 = _ := hv 1 (by decide)
      have g15 : vals 2 = _ := hv 2 (by decide)
      have g16 : vals 3 = _ := hv 3 (by decide)
      have g17 : (fun (v : Value) (w : World) => ∃ a n c a2 n2 c2, v = .agg #[.int .i64 T, .slice a n c, .slice a2 n2 c2] ∧ OwnI w (q + 1) (.slice a n c) X.c.seqs ∧ OwnRR w (q + 1) (.slice a2 n2 c2) X.c.shards) (vals 4) wz := hv 4 (by decide)
      have g18 : vals 5 = _ := hv 5 (by decide)
      have g19 : vals 6 = _ := hv 6 (by decide)
      have g20 : vals 7 = _ := hv 7 (by decide)
      have g21 : vals 8 = _ := hv 8 (by decide)
      have g22 : (fun (v : Value) (w : World) => ∃ a n c, v = .slice a n c ∧ OwnT w (q + 1) (.slice a n c) X.tail) (vals 9) wz := hv 9 (by decide)
      have g23 : vals 10 = _ := hv 10 (by decide)
      have g24 : vals 11 = _ := hv 11 (by decide)
      have g25 : vals 12 = _ := hv 12 (by decide)
      have g26 : vals 13 = _ := hv 13 (by decide)
      have g27 : (fun (v : Value) (w : World) => ∃ a n c a2 n2 c2 a3 n3 c3, v = .agg #[.int .i64 T, .slice a n c, .slice a2 n2 c2, .slice a3 n3 c3, .bool (decide (t < G))] ∧ OwnI w (q + 1) (.slice a n c) X.c.seqs ∧ OwnRR w (q + 1) (.slice a2 n2 c2) X.c.shards ∧ OwnT w (q + 1) (.slice a3 n3 c3) X.tail) (vals 14) wz := hv 14 (by decide)
      clear hv
      simp only [List.take_succ_cons, List.take_zero, List.drop_succ_cons, List.drop_zero]
      simp only [putAll, Act.put, List.setIfInBounds_toArray, List.set_cons_zero, List.set_cons_succ, g13, g14, g15, g16, g18, g19, g20, g21, g23, g24, g25, g26]
      clear g13 g14 g15 g16 g18 g19 g20 g21 g23 g24 g25 g26
      generalize vals 4 = v17 at *
      generalize vals 9 = v22 at *
      generalize vals 14 = v27 at *
      have hB := heap_ext HB1.out (HE2.out.trans hz)
      have b0 := cell_of_heap hB 0
      have b1 := cell_of_heap hB 1
      have b2 := cell_of_heap hB 2
      have b3 := cell_of_heap hB 3
      have b4 := cell_of_heap hB 4
      have fb := fun i => frozen_of_heap hB i
      simp only [List.getElem?_toArray, List.getElem?_cons_zero, List.getElem?_cons_succ] at b0 b1 b2 b3 b4
      obtain ⟨a, n, c, a2, n2, c2, a3, n3, c3, rfl, ho1, ho2, ho3⟩ := g27
      have HOO := Lib.hid (And.intro ho1 (And.intro ho2 ho3))
      obtain ⟨OV, hOV⟩ : ∃ z, decide (t < G) = z := ⟨_, rfl⟩
      have HOV := Lib.hid hOV
      rw [hOV]
      have HB := Lib.hid hB
      have HZ := Lib.hid ((HW.out.2.2.trans HE2.out).trans hz)
      clear g17 g22 ho1 ho2 ho3 hOV hB hz
      go_wp2_with fail
      obtain ⟨w5, hw5⟩ : ∃ w5, ((((wz.setCell ⟨q, 0, none⟩ (.int .i64 T)).setCell ⟨q, 1, none⟩ (.slice a n c)).setCell ⟨q, 2, none⟩ (.slice a2 n2 c2)).setCell ⟨q, 3, none⟩ (.slice a3 n3 c3)).setCell ⟨q, 4, none⟩ (.bool OV) = w5 := ⟨_, rfl⟩
      have hBt : But q wz w5 := by
        rw [← hw5]
        exact (((((But.refl _ _).setCell 0 none _).setCell 1 none _).setCell 2 none _).setCell 3 none _).setCell 4 none _
      have hB5 : w5.heap[q]? = some (.cells #[.int .i64 T, .slice a n c, .slice a2 n2 c2, .slice a3 n3 c3, .bool OV] 56 (0, 0)) := by
        rw [← hw5]
        exact heap_setCell (heap_setCell (heap_setCell (heap_setCell (heap_setCell HB.out 0 _) 1 _) 2 _) 3 _) 4 _
      have m0 := cell_of_heap hB5 0
      have m1 := cell_of_heap hB5 1
      have m2 := cell_of_heap hB5 2
      have m3 := cell_of_heap hB5 3
      have m4 := cell_of_heap hB5 4
      simp only [List.getElem?_toArray, List.getElem?_cons_zero, List.getElem?_cons_succ] at m0 m1 m2 m3 m4
      rw [hw5]
      have hqw := HW.out.1
      refine bodyPost_ret (v := .tuple #[.agg #[.int .i64 T, .slice a n c, .slice a2 n2 c2, .slice a3 n3 c3, .bool OV], .int .i64 0]) (by simp [results, Try.results18, go_sem, m0, m1, m2, m3, m4]) rfl ?_
      refine ⟨Below.trans (B := w.heap.size) HZ.out (hBt.below (by omega) HZ.out.size), .inr ⟨X, .slice a n c, .slice a2 n2 c2, .slice a3 n3 c3, HLK.out, by rw [HTT.out, HG.out, HOV.out], ?_, ?_, ?_⟩⟩
      · exact (HOO.out.1.but HB.out (by decide) hBt).lower (by omega)
      · exact (HOO.out.2.1.but HB.out (by decide) (by decide) hBt).lower (by omega)
      · obtain ⟨ps, h1, h2, h3⟩ := HOO.out.2.2
        exact OwnT.lower ⟨ps, h1, fun x hx => (h2 x hx).but HB.out (by decide) hBt, rowBut h3 (rowBeside h3 HB.out (by decide)) hBt⟩ (by omega)
  · obtain ⟨hw, hlk⟩ := Reg.look_none hin
    have hp : atPtr14 g R t = none := by unfold atPtr14; rw [hw]; rfl
    rw [hp] at HA
    have HLK := Lib.hid hlk
    clear hin hw hlk hp
    go_enter Try.func18, Try.ntmps18
    go_upto_region 1 with fail
    rw [HW.out.1, HW.out.2.1]
    go_wp2_with fail
    refine HA.out.mono ?_
    rintro e w2 ⟨rfl, hE2⟩
    have HE2 := Lib.hid hE2
    have hB := heap_ext HB1.out hE2
    have HB := Lib.hid hB
    have b0 := cell_of_heap hB 0
    have b1 := cell_of_heap hB 1
    have b2 := cell_of_heap hB 2
    have b3 := cell_of_heap hB 3
    have b4 := cell_of_heap hB 4
    have fb := fun i => frozen_of_heap hB i
    simp only [List.getElem?_toArray, List.getElem?_cons_zero, List.getElem?_cons_succ] at b0 b1 b2 b3 b4
    clear hB hE2
    go_wp2_with fail
    obtain ⟨w5, hw5⟩ : ∃ w5, ((((w2.setCell ⟨q, 0, none⟩ (.int .i64 0)).setCell ⟨q, 1, none⟩ (.slice none 0 0)).setCell ⟨q, 2, none⟩ (.slice none 0 0)).setCell ⟨q, 3, none⟩ (.slice none 0 0)).setCell ⟨q, 4, none⟩ (.bool false) = w5 := ⟨_, rfl⟩
    have hBt : But q w2 w5 := by
      rw [← hw5]
      exact (((((But.refl _ _).setCell 0 none _).setCell 1 none _).setCell 2 none _).setCell 3 none _).setCell 4 none _
    have hB5 : w5.heap[q]? = some (.cells #[.int .i64 0, .slice none 0 0, .slice none 0 0, .slice none 0 0, .bool false] 56 (0, 0)) := by
      rw [← hw5]
      exact heap_setCell (heap_setCell (heap_setCell (heap_setCell (heap_setCell HB.out 0 _) 1 _) 2 _) 3 _) 4 _
    have m0 := cell_of_heap hB5 0
    have m1 := cell_of_heap hB5 1
    have m2 := cell_of_heap hB5 2
    have m3 := cell_of_heap hB5 3
    have m4 := cell_of_heap hB5 4
    simp only [List.getElem?_toArray, List.getElem?_cons_zero, List.getElem?_cons_succ] at m0 m1 m2 m3 m4
    rw [hw5]
    have hqw := HW.out.1
    have hEE := HW.out.2.2.trans HE2.out
    refine bodyPost_ret (v := .tuple #[.agg #[.int .i64 0, .slice none 0 0, .slice none 0 0, .slice none 0 0, .bool false], .int .i64 141]) (by simp [results, Try.results18, go_sem, m0, m1, m2, m3, m4]) rfl ?_
    exact ⟨Below.trans (B := w.heap.size) hEE (hBt.below (by omega) hEE.size), .inl ⟨HLK.out, rfl⟩⟩
end Go.Proofs.Ytkpcmedmiiohnaa
