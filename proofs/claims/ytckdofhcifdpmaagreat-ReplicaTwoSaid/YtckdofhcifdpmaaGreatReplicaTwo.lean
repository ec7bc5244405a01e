/-
  ReplicaTwo: two replicas of one metalog, each of which got some of the same entries, have the same ones as far as both have them: for every input the statement's function returns true, and leaves what came in as it was.
-/
import Derived.Test.YtckdofhcifdpmaaGreatBsEnt
import Derived.Test.YtckdofhcifdpmaaGreatBsEnt2
import Derived.Test.YtckdofhcifdpmaaGreatBsMath2
import Derived.Test.YtckdofhcifdpmaaGreatBsRpO
import Derived.Test.YtckdofhcifdpmaaGreatBsRpQ
import Derived.Test.YtckdofhcifdpmaaGreatBsRpRaw
import Derived.StillTailTactics
namespace Go.Proofs.YtckdofhcifdpmaaGreat
set_option linter.unusedSimpArgs false
set_option linter.unusedVariables false
open Go.ChangeShapes Go.WideShapes Go.ChangeAt Go.RowKit

def updR (r : Nat → Rep.Rp) (j : Nat) (q : Rep.Rp) : Nat → Rep.Rp := fun i => if i = j then q else r i
/-- Two replicas at a statement. -/
structure Two11 (W : World) (S : Nat → Nat → Prop) (x : Nat → Nat) (r : Nat → Rep.Rp) (w : World) : Prop where
  at_ : ∀ i, i < 2 → Seat11 W (S i) (x i) (r i) w
  apart : ∀ i j k, i < 2 → j < 2 → i ≠ j → S i k → ¬ S j k
section
variable {W w w' : World} {S : Nat → Nat → Prop} {x : Nat → Nat} {r : Nat → Rep.Rp}
theorem Two11.extend (h : Two11 W S x r w) (hE : Ext w w') : Two11 W S x r w' := ⟨fun i hi => (h.at_ i hi).extend hE, h.apart⟩
theorem Two11.ext (h : Two11 W S x r w) : Ext W w := (h.at_ 0 (by omega)).ext
theorem Two11.step {j : Nat} (hj : j < 2) {r' : Rep.Rp} (h : Two11 W S x r w) (hl : LeavesRep W.heap.size (S j) (x j) w r' w') : ∃ S', Two11 W S' x (updR r j r') w' ∧ TwS (S j) w w' ∧ ∀ i k, i < 2 → k < w.heap.size → S' i k → S i k := by
  obtain ⟨S1, h1, h2, h3⟩ := (h.at_ j hj).step hl
  refine ⟨fun i => if i = j then S1 else S i, ⟨fun i hi => ?_, fun i i' k hi hi' hne hs => ?_⟩, h2, fun i k hi hk hs => ?_⟩
  · by_cases e : i = j
    · subst e
      have e1 : updR r i r' i = r' := by unfold updR; rw [if_pos rfl]
      rw [e1, if_pos rfl]
      exact h1
    · have e1 : updR r j r' i = r i := by unfold updR; rw [if_neg e]
      rw [e1, if_neg e]
      have hi2 := h.at_ i hi
      obtain ⟨p, va, vp, ev, es, hr⟩ := hi2.rep
      exact ⟨⟨p, va, vp, ev, es, hr.keep fun k hk hs => h2.block k hk (h.apart i j k hi hj e hs)⟩, h1.ext, fun k hk => ⟨(hi2.low k hk).1, Nat.lt_of_lt_of_le (hi2.low k hk).2 h2.size⟩⟩
  · have key : ∀ i', i' < 2 → i' ≠ j → ∀ k, S i' k → ¬ S1 k := fun i' hi' hne k hs hs1 => by
      have hk := ((h.at_ i' hi').low k hs).2
      exact h.apart i' j k hi' hj hne hs (h3 k hk hs1)
    by_cases e : i = j
    · subst e
      have e' : ¬ i' = i := fun e' => hne e'.symm
      simp [e'] at hs ⊢
      exact fun hs' => key i' hi' e' k hs' hs
    · by_cases e' : i' = j
      · subst e'
        simp [e] at hs ⊢
        exact key i hi e k hs
      · simp [e, e'] at hs ⊢
        exact h.apart i i' k hi hi' hne hs
  · by_cases e : i = j
    · subst e
      simp at hs
      exact h3 k hk hs
    · simp [e] at hs
      exact hs
end
theorem Two11.begun {W w w2 : World} {Sa : Nat → Prop} {xa xb : Nat} {ra rb : Rep.Rp} (h : Seat11 W Sa xa ra w) (hR : IsRep w2 w.drew.heap.size (fun k => w.drew.heap.size ≤ k) xb rb) (hE : Ext w.drew w2) :
    Two11 W (fun i k => if i = 0 then Sa k else (w.drew.heap.size ≤ k ∧ k < w2.heap.size)) (fun i => if i = 0 then xa else xb) (fun i => if i = 0 then ra else rb) w2 := by
  have hb := Seat11.begun (h.ext.trans (Ext.drew w)) hR hE
  have ha := h.extend ((Ext.drew w).trans hE)
  have hsz := (Ext.drew w).size
  refine ⟨fun i hi => ?_, fun i j k hi hj hne hs => ?_⟩
  · by_cases e : i = 0
    · simp only [e, if_true]; exact ha
    · simp only [e, if_false]; exact hb
  · by_cases e : i = 0
    · have e' : ¬ j = 0 := by omega
      simp only [e, e', if_true, if_false] at hs ⊢
      have := (h.low k hs).2
      omega
    · have e' : j = 0 := by omega
      simp only [e, e', if_true, if_false] at hs ⊢
      exact fun hk => by have := (h.low k hk).2; omega
def orM (dst t : Int) (e : Ent.E) : Msg.M := ⟨3, 0, dst, t, 0, 0, false, Msg.rec0, e, 0, 0, Msg.conf0⟩
theorem build_or11 (w : World) (dst t : Int) (e0 e1 e3 e4 e5 : Int) (l : List Int) (v : Value) (hv : ∃ a n c, v = .slice a n c) : (Instr.build 79 #[(0, .int .i64 3), (2, .int .i64 dst), (3, .int .i64 t), (8, .agg #[.int .i64 e0, .int .i64 e1, v, .int .i64 e3, .int .i64 e4, .int .i64 e5])]).run Tryz.prog w = .ok (.agg (msgCells (orM dst t ⟨e0, e1, l, e3, e4, e5⟩) (.slice none 0 0) v (.slice none 0 0) (.slice none 0 0))) w := by
  obtain ⟨a, n, c, rfl⟩ := hv
  kernel_rfl
theorem box_picks11 (w : World) (a b : Value) (ha : ∃ x n c, a = .slice x n c) (hb : ∃ x n c, b = .slice x n c) : (Instr.box 88 (.agg #[a, b])).run Tryz.prog w = .ok (.pointer (some ⟨w.heap.size, 0, none⟩)) (w.alloc (.cells #[a, b] 88)) := by
  obtain ⟨x, n, c, rfl⟩ := ha
  obtain ⟨y, m, d, rfl⟩ := hb
  kernel_rfl
theorem From.new (l : List Ent.E) (id t : Int) : Rep.From l (Rep.new id t) := by
  unfold Rep.From
  rfl
theorem Ints.at11 {w : World} {a : Option Addr} {n c : Nat} {l : List Int} (h : Ints w (.slice a n c) l) (i : Nat) (hi : i < l.length) : ∃ b off, a = some ⟨b, off, none⟩ ∧ w.cell? ⟨b, off + i, none⟩ = some (.int .i64 l[i]) := by
  obtain ⟨a', cap, e, _, _, _, hc⟩ := h
  injection e with e1 _ _
  subst e1
  obtain ⟨b, off, e, hcell⟩ := hc i (by simpa using hi)
  exact ⟨b, off, e, by simpa [i64s] using hcell⟩
theorem Ents.at11 {W : World} {a : Option Addr} {n c : Nat} {l : List Ent.E} (h : Ents W (.slice a n c) l) (m : Nat) (hm : m < l.length) : ∃ b off ta tn tc, a = some ⟨b, off, none⟩ ∧ ∀ w', Below W.heap.size W w' →
    w'.cell? ⟨b, off + m * 6, none⟩ = some (.int .i64 l[m].number) ∧ w'.cell? ⟨b, off + m * 6 + 1, none⟩ = some (.int .i64 l[m].kind) ∧ w'.cell? ⟨b, off + m * 6 + 2, none⟩ = some (.slice ta tn tc) ∧ w'.cell? ⟨b, off + m * 6 + 3, none⟩ = some (.int .i64 l[m].tag) ∧ w'.cell? ⟨b, off + m * 6 + 4, none⟩ = some (.int .i64 l[m].term) ∧ w'.cell? ⟨b, off + m * 6 + 5, none⟩ = some (.int .i64 l[m].pos) ∧ Ints w' (.slice ta tn tc) l[m].cut := by
  obtain ⟨a', cap, e, _, _, _, hc⟩ := h
  injection e with e1 _ _
  subst e1
  obtain ⟨b, off, e, t, h0, h1, h2, h3, h4, h5, ht⟩ := hc m hm
  obtain ⟨ta, tn, tc, rfl⟩ := intsSlice ht
  refine ⟨b, off, ta, tn, tc, e, fun w' hb => ?_⟩
  have key : ∀ i, w'.cell? ⟨b, i, none⟩ = W.cell? ⟨b, i, none⟩ := fun i => World.cell?_of_block (w := W) (hb.block b (World.block_lt_of_cell? W _ h0))
  exact ⟨(key _).trans h0, (key _).trans h1, (key _).trans h2, (key _).trans h3, (key _).trans h4, (key _).trans h5, ht.below hb⟩
theorem Ints.len11 {w : World} {a : Option Addr} {n c : Nat} {l : List Int} (h : Ints w (.slice a n c) l) : n = l.length ∧ n ≤ c ∧ c ≤ 9223372036854775807 := by
  obtain ⟨a', cap, e, h1, h2, _, _⟩ := h
  injection e with e1 e2 e3
  unfold maxLen at h2
  subst e2 e3
  simp at h1 ⊢
  exact ⟨h1, h2⟩
theorem hasI_mem {l : List Int} {x : Int} (h : x ∈ l) : hasI l x = true := by
  unfold hasI
  simp
  exact h
theorem new11_yes (w : World) (id : Int) (v : Value) (c : Term.C) (hv : IsConf w v c) (h : May11 id c) :
    Calls Tryz.prog 25 #[.int .i64 id, v] w fun e w' => ∃ x, e = .returned (.tuple #[.pointer (some ⟨x, 0, none⟩), .int .i64 0]) ∧ IsRep w' w.heap.size (fun k => w.heap.size ≤ k) x (Rep.new id c.term) ∧ Ext w w' := by
  refine (new11_any w id v c hv).mono ?_
  rintro e w' ⟨h1, hE⟩
  rcases h1 with ⟨x, _, he, hR⟩ | ⟨hn, _⟩
  · exact ⟨x, he, hR, hE⟩
  · exact absurd h hn
theorem new11_no (w : World) (id : Int) (v : Value) (c : Term.C) (hv : IsConf w v c) (h : ¬ Term.right c = true) :
    Calls Tryz.prog 25 #[.int .i64 id, v] w fun e w' => e = .returned (.tuple #[.pointer none, .int .i64 1]) ∧ Ext w w' := by
  refine (new11_any w id v c hv).mono ?_
  rintro e w' ⟨h1, hE⟩
  rcases h1 with ⟨x, hm, _, _⟩ | ⟨_, he⟩
  · exact absurd hm.1 h
  · exact ⟨he, hE⟩
set_option maxRecDepth 100000 in
set_option maxHeartbeats 40000000 in
theorem replicaTwo_walk (v : Value) (c : Term.C) (a : Option Addr) (n cp : Nat) (l : List Ent.E) (u0 u1 : Value) (k0 k1 : List Int) (W0 : World) (hc : IsConf W0 v c) (h0 : Ents W0 (.slice a n cp) l) (i0 : Ints W0 u0 k0) (i1 : Ints W0 u1 k1) :
    Calls Tryz.prog 6 #[v, .slice a n cp, .agg #[u0, u1]] W0 fun e W' => e = .returned (.bool true) ∧ Below W0.heap.size W0 W' := by
  obtain ⟨_, _, hle, hnc, hc9⟩ := h0.shape
  injection hle with e1 e2 e3
  subst e1 e3
  obtain ⟨s, d, rfl, hs, hd⟩ := hc
  obtain ⟨s1, s2, s3, rfl⟩ := intsSlice hs
  obtain ⟨d1, d2, d3, rfl⟩ := irowsSlice hd
  obtain ⟨p1, p2, p3, rfl⟩ := intsSlice i0
  obtain ⟨q1, q2, q3, rfl⟩ := intsSlice i1
  obtain ⟨hs2, hs3, hs9⟩ := hs.len11
  obtain ⟨hp2, hp3, hp9⟩ := i0.len11
  obtain ⟨hq2, hq3, hq9⟩ := i1.len11
  have hbx := box_confR
  have hbp := fun w => box_picks11 w (.slice p1 p2 p3) (.slice q1 q2 q3) ⟨_, _, _, rfl⟩ ⟨_, _, _, rfl⟩
  obtain ⟨tc, htc⟩ : ∃ z, c.term = z := ⟨_, rfl⟩
  obtain ⟨W, hW⟩ : ∃ W, (W0.alloc (.cells #[.int .i64 c.term, .slice s1 s2 s3, .slice d1 d2 d3] 25)).alloc (.cells #[.slice p1 p2 p3, .slice q1 q2 q3] 88) = W := ⟨_, rfl⟩
  obtain ⟨q, hq⟩ : ∃ q, W0.heap.size = q := ⟨_, rfl⟩
  have hE0 : Ext W0 W := by rw [← hW]; exact (Ext.alloc _ _).trans (Ext.alloc _ _)
  have hsW : W.heap[q]? = some (.cells #[.int .i64 c.term, .slice s1 s2 s3, .slice d1 d2 d3] 25 (0, 0)) := by rw [← hW, ← hq]; exact heap_ext (heap_alloc_new _ _) (Ext.alloc _ _)
  have hpW : W.heap[q + 1]? = some (.cells #[.slice p1 p2 p3, .slice q1 q2 q3] 88 (0, 0)) := by rw [← hW, ← hq, show W0.heap.size + 1 = (W0.alloc (.cells #[.int .i64 c.term, .slice s1 s2 s3, .slice d1 d2 d3] 25)).heap.size from (World.size_alloc _ _).symm]; exact heap_alloc_new _ _
  rw [htc] at hW hsW
  unfold confV
  rw [htc]
  have HW := Lib.hid (And.intro hW hq)
  have HL0 := Lib.hid (show ∀ w', Below W.heap.size W w' → Ents w' (.slice a n cp) l from fun w' h => (h0.below hE0).below h)
  have HS0 := Lib.hid (show ∀ w', Below W.heap.size W w' → Ints w' (.slice s1 s2 s3) c.seqs from fun w' h => (hs.below hE0).below h)
  have HPS := Lib.hid (show ∀ w', Below W.heap.size W w' → Ints w' (.slice p1 p2 p3) k0 ∧ Ints w' (.slice q1 q2 q3) k1 from fun w' h => ⟨(i0.below hE0).below h, (i1.below hE0).below h⟩)
  have HN := Lib.hid e2
  have HN2 := Lib.hid (And.intro hs2 (And.intro hp2 hq2))
  have HE0 := Lib.hid hE0
  have HTC := Lib.hid htc
  have HSAT := Lib.hid (And.intro hsW hpW)
  have HC := Lib.hid (show ∀ w', Ext W w' → IsConf w' (confV tc (.slice s1 s2 s3) (.slice d1 d2 d3)) c from fun w' h => ⟨_, _, by rw [← htc], hs.below (hE0.trans h), hd.below (hE0.trans h)⟩)
  have hc0 : W.cell? ⟨q, 0, none⟩ = some (.int .i64 tc) := cell_of_heap hsW 0
  have hc1 : W.cell? ⟨q, 1, none⟩ = some (.slice s1 s2 s3) := cell_of_heap hsW 1
  have hc2 : W.cell? ⟨q, 2, none⟩ = some (.slice d1 d2 d3) := cell_of_heap hsW 2
  have hp0 : W.cell? ⟨q + 1, 0, none⟩ = some (.slice p1 p2 p3) := cell_of_heap hpW 0
  have hp1 : W.cell? ⟨q + 1, 1, none⟩ = some (.slice q1 q2 q3) := cell_of_heap hpW 1
  rw [← e2] at hnc
  clear e2 h0 hs hd i0 i1 hW hq hE0 htc hsW hpW hs2 hp2 hq2
  go_enter Tryz.func6, Tryz.ntmps6
  go_upto_region 1 with fail
  rw [HW.out.1, HW.out.2]
  clear hbx hbp
  by_cases hA : s2 < 2
  · go_wp2_with fail
    refine (alive11_any W).mono ?_
    rintro e w1 ⟨rfl, hE1⟩
    have HE1 := Lib.hid (HE0.out.trans hE1)
    clear hE1
    go_wp2_with fail
    go_ret
    exact ⟨rfl, HE1.out⟩
  by_cases hB : 40 < n
  · go_wp2_with fail
    refine (alive11_any W).mono ?_
    rintro e w1 ⟨rfl, hE1⟩
    have HE1 := Lib.hid (HE0.out.trans hE1)
    clear hE1
    go_wp2_with fail
    go_ret
    exact ⟨rfl, HE1.out⟩
  obtain ⟨pq, hpq⟩ : ∃ z, wrap64 ((p2 : Int) + (q2 : Int)) = z := ⟨_, rfl⟩
  by_cases hC2 : 200 < pq
  · go_wp2_with fail
    refine (alive11_any W).mono ?_
    rintro e w1 ⟨rfl, hE1⟩
    have HE1 := Lib.hid (HE0.out.trans hE1)
    clear hE1
    go_wp2_with fail
    go_ret
    exact ⟨rfl, HE1.out⟩
  have HB40 := Lib.hid (Nat.le_of_not_lt hB)
  have h2l : 2 ≤ c.seqs.length := by rw [← HN2.out.1]; omega
  obtain ⟨sb, so, hsb, hx0⟩ := (HS0.out W (Below.refl _ _)).at11 0 (by omega)
  subst hsb
  obtain ⟨sb', so', hsb, hx1⟩ := (HS0.out W (Below.refl _ _)).at11 1 (by omega)
  injection hsb with hsb
  injection hsb with e1 e2
  subst e1 e2
  obtain ⟨id0, hid0⟩ : ∃ z, c.seqs[0] = z := ⟨_, rfl⟩
  obtain ⟨id1, hid1⟩ : ∃ z, c.seqs[1] = z := ⟨_, rfl⟩
  have hm0 : hasI c.seqs id0 = true := by rw [← hid0]; exact hasI_mem (List.getElem_mem _)
  have hm1 : hasI c.seqs id1 = true := by rw [← hid1]; exact hasI_mem (List.getElem_mem _)
  have HIDS := Lib.hid (And.intro hm0 hm1)
  rw [hid0] at hx0
  rw [hid1] at hx1
  have HX := Lib.hid (show ∀ w', Below W.heap.size W w' → w'.cell? ⟨sb, so, none⟩ = some (.int .i64 id0) ∧ w'.cell? ⟨sb, so + 1, none⟩ = some (.int .i64 id1) from fun w' h => ⟨(h.cell (p := ⟨sb, so, none⟩) (World.block_lt_of_cell? W _ hx0)).trans hx0, (h.cell (p := ⟨sb, so + 1, none⟩) (World.block_lt_of_cell? W _ hx1)).trans hx1⟩)
  have hs2b : 0 < s2 := by omega
  have hs2c : (1 : Int) < (s2 : Int) := by omega
  have HQC := Lib.hid (show ∀ w', Below W.heap.size W w' → w'.cell? ⟨q, 0, none⟩ = some (.int .i64 tc) ∧ w'.cell? ⟨q, 1, none⟩ = some (.slice (some ⟨sb, so, none⟩) s2 s3) ∧ w'.cell? ⟨q, 2, none⟩ = some (.slice d1 d2 d3) ∧ w'.cell? ⟨q + 1, 0, none⟩ = some (.slice p1 p2 p3) ∧ w'.cell? ⟨q + 1, 1, none⟩ = some (.slice q1 q2 q3) from fun w' h => ⟨cell_of_heap (heap_ext HSAT.out.1 h) 0, cell_of_heap (heap_ext HSAT.out.1 h) 1, cell_of_heap (heap_ext HSAT.out.1 h) 2, cell_of_heap (heap_ext HSAT.out.2 h) 0, cell_of_heap (heap_ext HSAT.out.2 h) 1⟩)
  clear hid0 hid1 hm0 hm1 hx0 hx1 hc0 hc1 hc2 hp0 hp1 h2l
  have hl0 := (HQC.out W (Below.refl _ _))
  obtain ⟨f0, f1, f2, f3, f4⟩ := hl0
  obtain ⟨x0', x1'⟩ := HX.out W (Below.refl _ _)
  go_wp2_with fail
  clear hpq hA hB hC2
  by_cases hr : Term.right c = true
  case neg =>
    go_region_law (go_simp; go_at_call 25; refine (new11_no W.drew id0 _ c (HC.out _ (Ext.drew W)) hr).mono ?_; rintro e w1 ⟨rfl, hE1⟩; have HE1 := Lib.hid ((Ext.drew W).trans hE1); clear hE1)
    all_goals
      obtain ⟨f0, f1, f2, f3, f4⟩ := HQC.out w1 HE1.out
      obtain ⟨x0', x1'⟩ := HX.out w1 HE1.out
      go_wp2_with fail
      go_region_law (go_simp; go_at_call 25; refine (new11_no w1.drew id1 _ c (HC.out _ (HE1.out.trans (Ext.drew w1))) hr).mono ?_; rintro e w2 ⟨rfl, hE2⟩; have HE2 := Lib.hid (HE1.out.trans ((Ext.drew w1).trans hE2)); clear hE2)
      all_goals
        go_wp2_with fail
        refine (alive11_any w2).mono ?_
        rintro e w3 ⟨rfl, hE3⟩
        have HE3 := Lib.hid (HE0.out.trans (HE2.out.trans hE3))
        clear hE3
        go_wp2_with fail
        go_ret
        exact ⟨rfl, HE3.out⟩
  case pos =>
    have HR := Lib.hid hr
    clear hr
    go_cut [7, 8] (fun s7 s8 wx => ∃ (xa : Nat) (Sa : Nat → Prop), s7 = .pointer (some ⟨xa, 0, none⟩) ∧ s8 = .int .i64 0 ∧ Hid (Seat11 W Sa xa (Rep.new id0 c.term) wx))
    case first =>
      go_region_law (go_simp; go_at_call 25; refine (new11_yes W.drew id0 _ c (HC.out _ (Ext.drew W)) ⟨HR.out, HIDS.out.1⟩).mono ?_; rintro e w1 ⟨xa, rfl, hR1, hE1⟩; have HR1 := Lib.hid (Seat11.begun (Ext.drew W) hR1 hE1); clear hE1 hR1)
      all_goals
        go_wp2_with fail
        go_meet
        exact ⟨xa, _, rfl, rfl, HR1⟩
    case rest =>
      obtain ⟨xa, Sa, rfl, rfl, HR1⟩ := hcut
      obtain ⟨wA, hwA⟩ : ∃ z, z = wc := ⟨_, rfl⟩
      subst hwA
      clear f0 f1 f2 f3 f4 x0' x1'
      obtain ⟨f0, f1, f2, f3, f4⟩ := HQC.out wA HR1.out.ext
      obtain ⟨x0', x1'⟩ := HX.out wA HR1.out.ext
      go_upto_region 4 with fail
      go_cut [9, 10] (fun s9 s10 wx => ∃ (xb : Nat) (S : Nat → Nat → Prop), s9 = .pointer (some ⟨xb, 0, none⟩) ∧ s10 = .int .i64 0 ∧ Hid (Two11 W S (fun i => if i = 0 then xa else xb) (fun i => if i = 0 then Rep.new id0 c.term else Rep.new id1 c.term) wx))
      case first =>
        go_region_law (go_simp; go_at_call 25; refine (new11_yes wA.drew id1 _ c (HC.out _ (HR1.out.ext.trans (Ext.drew wA))) ⟨HR.out, HIDS.out.2⟩).mono ?_; rintro e w2 ⟨xb, rfl, hR2, hE2⟩; have HR2 := Lib.hid (Two11.begun HR1.out hR2 hE2); clear hE2 hR2)
        all_goals
          go_wp2_with fail
          go_meet
          exact ⟨xb, _, rfl, rfl, HR2⟩
      case rest =>
        obtain ⟨xb, S0, rfl, rfl, HT0⟩ := hcut
        obtain ⟨wB, hwB⟩ : ∃ z, z = wc := ⟨_, rfl⟩
        subst hwB
        clear f0 f1 f2 f3 f4 x0' x1' HR1
        go_upto_region 8 with fail
        obtain ⟨wD, hwD⟩ : ∃ z, wB.alloc (.cells #[.pointer (some ⟨xa, 0, none⟩), .pointer (some ⟨xb, 0, none⟩)] 34) = z := ⟨_, rfl⟩
        obtain ⟨bq, hbq⟩ : ∃ z, wB.heap.size = z := ⟨_, rfl⟩
        have hED : Ext wB wD := by rw [← hwD]; exact Ext.alloc _ _
        have hbD : wD.heap[bq]? = some (.cells #[.pointer (some ⟨xa, 0, none⟩), .pointer (some ⟨xb, 0, none⟩)] 34 (0, 0)) := by rw [← hwD, ← hbq]; exact heap_alloc_new _ _
        have hSD : ∀ i, i < 2 → ¬ S0 i bq := fun i hi hs => by have := ((HT0.out.at_ i hi).low bq hs).2; omega
        have HTD := Lib.hid (HT0.out.extend hED)
        have HBD := Lib.hid (And.intro hbD hSD)
        rw [hwD, hbq]
        clear hwD hbq hED hbD hSD HT0
        obtain ⟨X, hX⟩ : ∃ X : Nat → Nat, (fun i => if i = 0 then xa else xb) = X := ⟨_, rfl⟩
        have hX0 : X 0 = xa := by rw [← hX]; rfl
        have hX1 : X 1 = xb := by rw [← hX]; rfl
        obtain ⟨R0, hR0⟩ : ∃ R : Nat → Rep.Rp, (fun i => if i = 0 then Rep.new id0 c.term else Rep.new id1 c.term) = R := ⟨_, rfl⟩
        have hF0 : ∀ i, i < 2 → Rep.From l (R0 i) := fun i hi => by
          rw [← hR0]
          show Rep.From l (if i = 0 then _ else _)
          split
          · exact From.new l _ _
          · exact From.new l _ _
        rw [hX, hR0] at HTD
        have HX0 := Lib.hid (And.intro hX0 hX1)
        have HF0 := Lib.hid hF0
        clear hX hR0 hX0 hX1 hF0
        go_loopw [80] (fun i wr => ∃ (j : Nat) (S : Nat → Nat → Prop) (R : Nat → Rep.Rp), j ≤ 2 ∧ i = .int .i64 j ∧ Hid (Two11 W S X R wr ∧ (wr.heap[bq]? = some (.cells #[.pointer (some ⟨xa, 0, none⟩), .pointer (some ⟨xb, 0, none⟩)] 34 (0, 0)) ∧ ∀ i, i < 2 → ¬ S i bq) ∧ (Ent.isChain l → ∀ i, i < 2 → Rep.From l (R i)))) (fun i _ => 2 - (intOf i).toNat)
        case atStart => exact ⟨0, S0, R0, by omega, rfl, Lib.hid ⟨HTD.out, HBD.out, fun _ => HF0.out⟩⟩
        case round =>
          obtain ⟨j, S, R, hj, rfl, hI⟩ := hrel
          by_cases hlt : j < 2
          · obtain ⟨xj, hxj⟩ : ∃ z, X j = z := ⟨_, rfl⟩
            have hcj : wr.cell? ⟨bq, j, none⟩ = some (.pointer (some ⟨xj, 0, none⟩)) := by
              rw [← hxj]
              have h1 := cell_of_heap hI.out.2.1.1 j
              rcases (show j = 0 ∨ j = 1 by omega) with e | e <;> subst e
              · rw [HX0.out.1]; exact h1
              · rw [HX0.out.2]; exact h1
            obtain ⟨pj1, pj2, pj3, kj, hpj, hij⟩ : ∃ a n c k, (∀ w', Below W.heap.size W w' → w'.cell? ⟨q + 1, j, none⟩ = some (.slice a n c)) ∧ (∀ w', Below W.heap.size W w' → Ints w' (.slice a n c) k) := by
              rcases (show j = 0 ∨ j = 1 by omega) with e | e <;> subst e
              · exact ⟨p1, p2, p3, k0, fun w' h => (HQC.out w' h).2.2.2.1, fun w' h => (HPS.out w' h).1⟩
              · exact ⟨q1, q2, q3, k1, fun w' h => (HQC.out w' h).2.2.2.2, fun w' h => (HPS.out w' h).2⟩
            obtain ⟨idj, hidj⟩ : ∃ z, ∀ w', Below W.heap.size W w' → w'.cell? ⟨sb, so + j, none⟩ = some (.int .i64 z) := by
              rcases (show j = 0 ∨ j = 1 by omega) with e | e <;> subst e
              · exact ⟨id0, fun w' h => (HX.out w' h).1⟩
              · exact ⟨id1, fun w' h => (HX.out w' h).2⟩
            have hpc := hpj wr hI.out.1.ext
            obtain ⟨hpl, hpl2, hpl3⟩ := (hij wr hI.out.1.ext).len11
            have HPJ := Lib.hid (And.intro hij hpl)
            have HIDJ := Lib.hid hidj
            have HJ := Lib.hid hxj
            have hj1 : (j : Int) < 2 := by omega
            have hjs : (j : Int) < (s2 : Int) := by omega
            clear hij hidj hpj hpl hxj
            go_upto_region 11 with fail
            clear hcj hpc
            go_loopw [89] (fun i wi => ∃ (k : Nat) (S : Nat → Nat → Prop) (R : Nat → Rep.Rp), k ≤ pj2 ∧ i = .int .i64 k ∧ Hid (Two11 W S X R wi ∧ (wi.heap[bq]? = some (.cells #[.pointer (some ⟨xa, 0, none⟩), .pointer (some ⟨xb, 0, none⟩)] 34 (0, 0)) ∧ ∀ i, i < 2 → ¬ S i bq) ∧ (Ent.isChain l → ∀ i, i < 2 → Rep.From l (R i)))) (fun i _ => pj2 - (intOf i).toNat)
            case atStart => exact ⟨0, S, R, by omega, rfl, hI⟩
            case round =>
              obtain ⟨k, S2, R2, hk, rfl, hI2⟩ := hrel
              obtain ⟨wt, hwt⟩ : ∃ z, z = wr := ⟨_, rfl⟩
              subst hwt
              by_cases hlk : k < pj2
              · have hkk : k < kj.length := by rw [← HPJ.out.2]; exact hlk
                obtain ⟨pb, po, hpe, hpk⟩ := (HPJ.out.1 wt hI2.out.1.ext).at11 k hkk
                subst hpe
                obtain ⟨z, hz⟩ : ∃ z, kj[k] = z := ⟨_, rfl⟩
                rw [hz] at hpk
                clear hz hkk
                have hnk : ∀ w', Ext wt w' → True := fun _ _ => trivial
                by_cases hz0 : 0 ≤ z
                case neg =>
                  go_wp2_with fail
                  go_roundw
                  case rel => exact ⟨k + 1, S2, R2, by omega, by go_num, hI2⟩
                  case measure => simp [intOf]; omega
                case pos =>
                  obtain ⟨m, rfl⟩ := Int.eq_ofNat_of_zero_le hz0
                  by_cases hzn : m < n
                  case neg =>
                    go_wp2_with fail
                    go_roundw
                    case rel => exact ⟨k + 1, S2, R2, by omega, by go_num, hI2⟩
                    case measure => simp [intOf]; omega
                  case pos =>
                    have hml : m < l.length := by rw [← HN.out]; exact hzn
                    obtain ⟨ab, ao, ta, tn, tcc, hae, hen⟩ := (HL0.out W (Below.refl _ _)).at11 m hml
                    subst hae
                    obtain ⟨E, hE⟩ : ∃ E, l[m] = E := ⟨_, rfl⟩
                    rw [hE] at hen
                    have HFT := Lib.hid (show Ent.isChain l → Rep.From l ((R2 j).take (orM idj tc E)).1 from fun hch => Rep.From.take hch (hI2.out.2.2 hch j hlt) (m := orM idj tc E) rfl hml hE.symm)
                    obtain ⟨e0, e1, e2, e3, e4, e5⟩ := E
                    have hEw := hI2.out.1.ext
                    have hEdr := hEw.trans (Ext.drew wt)
                    obtain ⟨g0, g1, g2, g3, g4, g5, _⟩ := hen wt.drew hEdr
                    simp only at g0 g1 g2 g3 g4 g5
                    have HCUT := Lib.hid (show ∀ w', Below W.heap.size W w' → Ints w' (.slice ta tn tcc) e2 from fun w' h => (hen w' h).2.2.2.2.2.2)
                    have hbo := fun w => build_or11 w idj tc e0 e1 e3 e4 e5 e2 (.slice ta tn tcc) ⟨_, _, _, rfl⟩
                    obtain ⟨f0, f1, f2, f3, f4⟩ := HQC.out wt.drew hEdr
                    have hidw := HIDJ.out wt.drew hEdr
                    have HTd := Lib.hid (hI2.out.1.extend (Ext.drew wt))
                    obtain ⟨pr, var, vpr, evr, esr, hrep⟩ := (HTd.out.at_ j hlt).rep
                    rw [HJ.out] at hrep
                    have HREP := Lib.hid hrep
                    have HML := Lib.hid hlt
                    clear hE hen hrep hEw hEdr hml
                    go_wp2_with fail
                    go_still_tail 13, (by kernel_rfl)
                    change wpList _ _ _ _ _ wt.drew
                    go_wp2_with fail
                    refine (take11_any HREP.out (fun k hk => ((HTd.out.at_ j HML.out).low k hk).2) _ (orM idj tc ⟨e0, e1, e2, e3, e4, e5⟩) (fun w' ht => ⟨_, _, _, _, rfl, ints0 w', HCUT.out w' ((HTd.out.at_ j HML.out).since ht), ints0 w', irows0 w'⟩)).mono ?_
                    rintro e w5 ⟨rfl, hl5⟩
                    have HL5 := Lib.hid hl5
                    clear hl5
                    all_goals
                      clear f0 f1 f2 f3 f4 g0 g1 g2 g3 g4 g5 hbo hidw
                      have hl5 := HL5.out
                      rw [← HJ.out] at hl5
                      obtain ⟨S5, hT5, ht5, hk5⟩ := HTd.out.step HML.out hl5
                      have hbd := hI2.out.2.1
                      have hbl : bq < wt.drew.heap.size := (Array.getElem?_eq_some_iff.1 (heap_ext hbd.1 (Ext.drew wt))).1
                      have HN5 := Lib.hid (show Two11 W S5 X (updR R2 j ((R2 j).take (orM idj tc ⟨e0, e1, e2, e3, e4, e5⟩)).1) w5 ∧ (w5.heap[bq]? = some (.cells #[.pointer (some ⟨xa, 0, none⟩), .pointer (some ⟨xb, 0, none⟩)] 34 (0, 0)) ∧ ∀ i, i < 2 → ¬ S5 i bq) ∧ (Ent.isChain l → ∀ i, i < 2 → Rep.From l (updR R2 j ((R2 j).take (orM idj tc ⟨e0, e1, e2, e3, e4, e5⟩)).1 i)) from
                        ⟨hT5, ⟨(ht5.block bq hbl (hbd.2 j HML.out)).trans (heap_ext hbd.1 (Ext.drew wt)), fun i hi hs => hbd.2 i hi (hk5 i bq hi hbl hs)⟩, fun hch i hi => by
                          unfold updR
                          split
                          · exact HFT.out hch
                          · exact hI2.out.2.2 hch i hi⟩)
                      clear hl5 hT5 ht5 hk5 hbd hbl
                      go_wp2_with fail
                      go_roundw
                      case rel => exact ⟨k + 1, _, _, by omega, by go_num, HN5⟩
                      case measure => simp [intOf]; omega
              · obtain rfl : k = pj2 := by omega
                go_wp2_with fail
                go_roundw
                case rel => exact ⟨j + 1, S2, R2, by omega, by go_num, hI2⟩
                case measure => simp [intOf]; omega
          · obtain rfl : j = 2 := by omega
            obtain ⟨wt, hwt⟩ : ∃ z, z = wr := ⟨_, rfl⟩
            subst hwt
            go_wp2_with fail
            refine (refChain5_any _ l wt (HL0.out wt hI.out.1.ext) (by have := HB40.out; rw [← HN.out]; omega)).mono ?_
            obtain ⟨K, hK⟩ : ∃ K, Ent.chain l = K := ⟨_, rfl⟩
            rw [hK]
            rintro e w1 ⟨rfl, hE1⟩
            have HT1 := Lib.hid (hI.out.1.extend hE1)
            have HFR := Lib.hid (show K = n → ∀ i, i < 2 → Rep.From l (R i) from fun e => hI.out.2.2 (show Ent.chain l = l.length by rw [hK, e]; exact HN.out))
            clear hE1 hK
            by_cases hKn : K = n
            case neg =>
              have hKn2 : ¬ (K : Int) = (n : Int) := by omega
              go_wp2_with fail
              refine (alive11_any w1).mono ?_
              rintro e w2 ⟨rfl, hE2⟩
              have HE2 := Lib.hid (HE0.out.trans (HT1.out.ext.trans hE2))
              clear hE2
              go_wp2_with fail
              go_ret
              exact ⟨rfl, HE2.out⟩
            case pos =>
              have HF := Lib.hid (HFR.out hKn)
              subst hKn
              obtain ⟨pa, vaa, vpa, eva, esa, hra⟩ := (HT1.out.at_ 0 (by omega)).rep
              obtain ⟨pb, vab, vpb, evb, esb, hrb⟩ := (HT1.out.at_ 1 (by omega)).rep
              rw [HX0.out.1] at hra
              rw [HX0.out.2] at hrb
              have HRA := Lib.hid hra
              have HRB := Lib.hid hrb
              obtain ⟨na, hna⟩ : ∃ z, (R 0).w.l.length = z := ⟨_, rfl⟩
              obtain ⟨nb, hnb⟩ : ∃ z, (R 1).w.l.length = z := ⟨_, rfl⟩
              have HNA := Lib.hid hna
              have HNB := Lib.hid hnb
              clear hra hrb
              go_wp2_with fail
              refine (len11_any HRA.out.at').mono ?_
              rw [hna]
              rintro e w2 ⟨rfl, rfl⟩
              go_wp2_with fail
              refine (len11_any HRB.out.at').mono ?_
              rw [hnb]
              rintro e w3 ⟨rfl, rfl⟩
              clear hna hnb
              rcases Nat.lt_or_ge nb na with hab | hab
              · have hab2 : (nb : Int) < (na : Int) := by omega
                go_wp2_with fail
                refine (told11_own (show IsRep w1 W.heap.size (S 0) xa (R 0) from ⟨_, _, _, _, _, HRA.out⟩)).mono ?_
                rintro e w4 ht4
                obtain ⟨v4, rfl, hE4, hc4⟩ := shown11_own ht4
                have HC4 := Lib.hid hc4
                have HT4 := Lib.hid (HT1.out.extend hE4)
                have HRB4 := Lib.hid (show IsRep w4 W.heap.size (S 1) xb (R 1) from ⟨_, _, _, _, _, HRB.out.ext hE4⟩)
                clear ht4 hE4 hc4
                go_wp2_with fail
                refine HC4.out.mono ?_
                rintro e w5 ⟨v5, rfl, hE5, ho5⟩
                have HT5 := Lib.hid (HT4.out.extend hE5)
                have HO5 := Lib.hid ho5
                have HRB5 := Lib.hid (HRB4.out.ext hE5)
                obtain ⟨v5a, v5n, v5c, rfl, h5n⟩ := ho5.open
                rw [HNA.out] at h5n
                subst h5n
                clear ho5 hE5
                go_wp2_with fail
                refine (told11_own HRB5.out).mono ?_
                rintro e w6 ht6
                obtain ⟨v6, rfl, hE6, hc6⟩ := shown11_own ht6
                have HC6 := Lib.hid hc6
                have HT6 := Lib.hid (HT5.out.extend hE6)
                have HO6 := Lib.hid (HO5.out.ext hE6)
                clear ht6 hE6 hc6
                go_wp2_with fail
                refine HC6.out.mono ?_
                rintro e w7 ⟨v7, rfl, hE7, ho7⟩
                have HT7 := Lib.hid (HT6.out.extend hE7)
                have HO7 := Lib.hid (HO6.out.ext hE7)
                have HP7 := Lib.hid ho7
                obtain ⟨v7a, v7n, v7c, rfl, h7n⟩ := ho7.open
                rw [HNB.out] at h7n
                subst h7n
                have hfa : (R 0).w.l = l.take v5n := by have := HF.out 0 (by omega); unfold Rep.From at this; rw [HNA.out] at this; exact this
                have hfb : (R 1).w.l = l.take v7n := by have := HF.out 1 (by omega); unfold Rep.From at this; rw [HNB.out] at this; exact this
                have hal : v5n ≤ l.length := by have := congrArg List.length hfa; rw [HNA.out, List.length_take] at this; omega
                have hcp : v5n ≤ cp := by have := HN.out; omega
                have hc5 : v5n ≤ v5c := by
                  obtain ⟨_, _, he, h1, _⟩ := HO7.out.ents.shape
                  injection he with _ e2 e3
                  rw [HNA.out] at h1
                  omega
                have hc7 : v7n ≤ v7c := by
                  obtain ⟨_, _, he, h1, _⟩ := HP7.out.ents.shape
                  injection he with _ e2 e3
                  rw [HNB.out] at h1
                  omega
                have hs5 := fun w : World => runTo (P := Tryz.prog) (w := w) Tryz.underlying63 (by kernel_rfl : (Tryz.prog.info? 54).map (·.size) = some 6) (a := v5a) (n := v5n) (cap := v5c) v7n (by omega) .i64
                have hs7 := fun w : World => runTo (P := Tryz.prog) (w := w) Tryz.underlying63 (by kernel_rfl : (Tryz.prog.info? 54).map (·.size) = some 6) (a := v7a) (n := v7n) (cap := v7c) v7n (by omega) .i64
                have hsl := fun w : World => runTo (P := Tryz.prog) (w := w) Tryz.underlying63 (by kernel_rfl : (Tryz.prog.info? 54).map (·.size) = some 6) (a := a) (n := K) (cap := cp) v5n (by omega) .i64
                have HT1x := Lib.hid (show (R 0).w.l.take v7n = l.take v7n by rw [hfa, List.take_take, Nat.min_eq_left (by omega)])
                have HT2x := Lib.hid (show (R 1).w.l.take v7n = l.take v7n by rw [hfb, List.take_take, Nat.min_eq_left (by omega)])
                have HFA := Lib.hid hfa
                have HAL := Lib.hid (And.intro hal (show v7n ≤ v5n ∧ v7n ≤ v7n by omega))
                have q1 : ¬ v5n < v7n := by omega
                have q2 : ¬ v7n < v7n := by omega
                have q3 : v7n ≤ v5n := by omega
                have q4 : v7n ≤ v7n := by omega
                have HS5 := Lib.hid hs5
                have HS7 := Lib.hid hs7
                have HSL := Lib.hid hsl
                clear ho7 hE7 hfa hfb hal hcp hc5 hc7 hab hab2 q1 q2 q3 q4 hs5 hs7 hsl
                go_wp2_with fail
                refine wp_region_facts (by kernel_rfl) Ext (fun iop v w => match iop with
                    | 0 => v = .bool true
                    | 1 => v = .bool true
                    | 2 => v = .slice v5a v5n v5c
                    | 3 => v = .int .i64 (v5n : Nat)
                    | 4 => v = .int .i64 (v7n : Nat)
                    | 5 => v = .bool true
                    | 6 => v = .bool true
                    | 7 => v = .bool true
                    | 8 => v = .slice v7a v7n v7c
                    | 9 => v = .int .i64 (v7n : Nat)
                    | 10 => v = .int .i64 (v7n : Nat)
                    | 11 => v = .bool true
                    | 12 => v = .bool true
                    | 13 => v = .bool true
                    | 14 => v = .slice v5a v5n v5c
                    | 15 => v = .int .i64 (v7n : Nat)
                    | 16 => v = .slice v5a v7n v5c
                    | 17 => v = .slice v7a v7n v7c
                    | 18 => v = .int .i64 (v7n : Nat)
                    | 19 => v = .slice v7a v7n v7c
                    | 20 => v = .bool true
                    | 21 => v = .bool true
                    | 22 => v = .bool true
                    | 23 => v = .slice v5a v5n v5c
                    | 24 => v = .slice a K cp
                    | 25 => v = .slice v5a v5n v5c
                    | 26 => v = .int .i64 (v5n : Nat)
                    | 27 => v = .slice a v5n cp
                    | 28 => v = .bool true
                    | 29 => v = .bool true
                    | _ => v = .bool true
                    ) (by kernel_rfl) (fun _ _ _ h k => Ext.trans h k) (fun a => Ext.refl a) (Ext.drew _) ?_ ?_ ?_
                · intro iop v wa wb hF hL
                  iterate 30 (rcases iop with _ | iop; exact hF)
                  exact hF
                · refine Obls.cons ?_ (Obls.cons ?_ (Obls.cons ?_ (Obls.cons ?_ (Obls.cons ?_ (Obls.cons ?_ (Obls.cons ?_ (Obls.cons ?_ (Obls.cons ?_ (Obls.cons ?_ (Obls.cons ?_ (Obls.cons ?_ (Obls.cons ?_ (Obls.cons ?_ (Obls.cons ?_ (Obls.cons ?_ (Obls.cons ?_ (Obls.cons ?_ (Obls.cons ?_ (Obls.cons ?_ (Obls.cons ?_ (Obls.cons ?_ (Obls.cons ?_ (Obls.cons ?_ (Obls.cons ?_ (Obls.cons ?_ (Obls.cons ?_ (Obls.cons ?_ (Obls.cons ?_ (Obls.cons ?_ (Obls.cons ?_ (Obls.nil)))))))))))))))))))))))))))))))
                  · intro ev wy hp hl hk hd
                    clear hk hd
                    refine Yield.call rfl hp Tryz.func12 rfl (by kernel_rfl) ?_
                    simp only [List.map_toArray, List.map_nil]
                    exact (alive11_any wy).mono fun _ _ ⟨he, hb⟩ => ⟨_, he, hb, by first | rfl | simp⟩
                  · intro ev wy hp hl hk hd
                    have e134 : ev (.tmp 134) = .bool true := hk 134 (by decide)
                    clear hk hd
                    exact Yield.mv rfl ⟨Ext.refl _, e134⟩
                  · intro ev wy hp hl hk hd
                    have e16 : ev (.tmp 16) = .slice v5a v5n v5c := hk 16 (by decide)
                    clear hk
                    refine ⟨fun _ _ _ => ?_, fun _ hx hne => absurd hx hne⟩
                    clear hd
                    exact Yield.mv rfl ⟨Ext.refl _, e16⟩
                  · intro ev wy hp hl hk hd
                    have e136 : ev (.tmp 136) = .slice v5a v5n v5c := hk 136 (by decide)
                    clear hk
                    refine ⟨fun _ _ _ => ?_, fun _ hx hne => absurd hx hne⟩
                    clear hd
                    exact Yield.op (v := .int .i64 (v5n : Nat)) (w' := wy) (by simp [execOp, go_sem, e136]) ⟨Ext.refl _, rfl⟩
                  · intro ev wy hp hl hk hd
                    have e15 : ev (.tmp 15) = .int .i64 (v7n : Nat) := hk 15 (by decide)
                    clear hk
                    refine ⟨fun _ _ _ => ?_, fun _ hx hne => absurd hx hne⟩
                    clear hd
                    exact Yield.mv rfl ⟨Ext.refl _, e15⟩
                  · intro ev wy hp hl hk hd
                    have e137 : ev (.tmp 137) = .int .i64 (v5n : Nat) := hk 137 (by decide)
                    have e138 : ev (.tmp 138) = .int .i64 (v7n : Nat) := hk 138 (by decide)
                    clear hk
                    refine ⟨fun _ _ _ => ?_, fun _ hx hne => absurd hx hne⟩
                    clear hd
                    exact Yield.op (v := .bool true) (w' := wy) (by have q := HAL.out.2.1; simp [execOp, go_sem, e137, e138, q]) ⟨Ext.refl _, rfl⟩
                  · intro ev wy hp hl hk hd
                    have e135 : ev (.tmp 135) = .bool true := hk 135 (by decide)
                    have e139 : ev (.tmp 139) = .bool true := hk 139 (by decide)
                    clear hk hd
                    exact Yield.pick (t := true) rfl e135 ⟨Ext.refl _, e139⟩
                  · intro ev wy hp hl hk hd
                    have e140 : ev (.tmp 140) = .bool true := hk 140 (by decide)
                    clear hk hd
                    exact Yield.mv rfl ⟨Ext.refl _, e140⟩
                  · intro ev wy hp hl hk hd
                    have e17 : ev (.tmp 17) = .slice v7a v7n v7c := hk 17 (by decide)
                    clear hk
                    refine ⟨fun _ _ _ => ?_, fun _ hx hne => absurd hx hne⟩
                    clear hd
                    exact Yield.mv rfl ⟨Ext.refl _, e17⟩
                  · intro ev wy hp hl hk hd
                    have e142 : ev (.tmp 142) = .slice v7a v7n v7c := hk 142 (by decide)
                    clear hk
                    refine ⟨fun _ _ _ => ?_, fun _ hx hne => absurd hx hne⟩
                    clear hd
                    exact Yield.op (v := .int .i64 (v7n : Nat)) (w' := wy) (by simp [execOp, go_sem, e142]) ⟨Ext.refl _, rfl⟩
                  · intro ev wy hp hl hk hd
                    have e15 : ev (.tmp 15) = .int .i64 (v7n : Nat) := hk 15 (by decide)
                    clear hk
                    refine ⟨fun _ _ _ => ?_, fun _ hx hne => absurd hx hne⟩
                    clear hd
                    exact Yield.mv rfl ⟨Ext.refl _, e15⟩
                  · intro ev wy hp hl hk hd
                    have e143 : ev (.tmp 143) = .int .i64 (v7n : Nat) := hk 143 (by decide)
                    have e144 : ev (.tmp 144) = .int .i64 (v7n : Nat) := hk 144 (by decide)
                    clear hk
                    refine ⟨fun _ _ _ => ?_, fun _ hx hne => absurd hx hne⟩
                    clear hd
                    exact Yield.op (v := .bool true) (w' := wy) (by have q := HAL.out.2.2; simp [execOp, go_sem, e143, e144, q]) ⟨Ext.refl _, rfl⟩
                  · intro ev wy hp hl hk hd
                    have e141 : ev (.tmp 141) = .bool true := hk 141 (by decide)
                    have e145 : ev (.tmp 145) = .bool true := hk 145 (by decide)
                    clear hk hd
                    exact Yield.pick (t := true) rfl e141 ⟨Ext.refl _, e145⟩
                  · intro ev wy hp hl hk hd
                    have e146 : ev (.tmp 146) = .bool true := hk 146 (by decide)
                    clear hk hd
                    exact Yield.mv rfl ⟨Ext.refl _, e146⟩
                  · intro ev wy hp hl hk hd
                    have e16 : ev (.tmp 16) = .slice v5a v5n v5c := hk 16 (by decide)
                    clear hk
                    refine ⟨fun _ _ _ => ?_, fun _ hx hne => absurd hx hne⟩
                    clear hd
                    exact Yield.mv rfl ⟨Ext.refl _, e16⟩
                  · intro ev wy hp hl hk hd
                    have e15 : ev (.tmp 15) = .int .i64 (v7n : Nat) := hk 15 (by decide)
                    clear hk
                    refine ⟨fun _ _ _ => ?_, fun _ hx hne => absurd hx hne⟩
                    clear hd
                    exact Yield.mv rfl ⟨Ext.refl _, e15⟩
                  · intro ev wy hp hl hk hd
                    have e148 : ev (.tmp 148) = .slice v5a v5n v5c := hk 148 (by decide)
                    have e149 : ev (.tmp 149) = .int .i64 (v7n : Nat) := hk 149 (by decide)
                    clear hk
                    refine ⟨fun _ _ _ => ?_, fun _ hx hne => absurd hx hne⟩
                    clear hd
                    exact Yield.op (v := .slice v5a v7n v5c) (w' := wy) (by simp [execOp, e148, e149, HS5.out, Sem.run_bind]) ⟨Ext.refl _, rfl⟩
                  · intro ev wy hp hl hk hd
                    have e17 : ev (.tmp 17) = .slice v7a v7n v7c := hk 17 (by decide)
                    clear hk
                    refine ⟨fun _ _ _ => ?_, fun _ hx hne => absurd hx hne⟩
                    clear hd
                    exact Yield.mv rfl ⟨Ext.refl _, e17⟩
                  · intro ev wy hp hl hk hd
                    have e15 : ev (.tmp 15) = .int .i64 (v7n : Nat) := hk 15 (by decide)
                    clear hk
                    refine ⟨fun _ _ _ => ?_, fun _ hx hne => absurd hx hne⟩
                    clear hd
                    exact Yield.mv rfl ⟨Ext.refl _, e15⟩
                  · intro ev wy hp hl hk hd
                    have e151 : ev (.tmp 151) = .slice v7a v7n v7c := hk 151 (by decide)
                    have e152 : ev (.tmp 152) = .int .i64 (v7n : Nat) := hk 152 (by decide)
                    clear hk
                    refine ⟨fun _ _ _ => ?_, fun _ hx hne => absurd hx hne⟩
                    clear hd
                    exact Yield.op (v := .slice v7a v7n v7c) (w' := wy) (by simp [execOp, e151, e152, HS7.out, Sem.run_bind]) ⟨Ext.refl _, rfl⟩
                  · intro ev wy hp hl hk hd
                    have e150 : ev (.tmp 150) = .slice v5a v7n v5c := hk 150 (by decide)
                    have e153 : ev (.tmp 153) = .slice v7a v7n v7c := hk 153 (by decide)
                    clear hk
                    refine ⟨fun _ _ _ => ?_, fun _ hx hne => absurd hx hne⟩
                    clear hd
                    refine Yield.call rfl hp Tryz.func22 rfl (by kernel_rfl) ?_
                    simp only [List.map_toArray, List.map_cons, List.map_nil, e150, e153]
                    exact (refSameAll11 (.slice v5a v7n v5c) (.slice v7a v7n v7c) (l.take v7n) wy (by have h1 := (HO7.out.ext hl).ents.take v7n (by rw [HNA.out]; exact HAL.out.2.1); rw [HT1x.out] at h1; exact h1) (by have h1 := (HP7.out.ext hl).ents.take v7n (by rw [HNB.out]; exact HAL.out.2.2); rw [HT2x.out] at h1; exact h1)).mono fun _ _ ⟨he, hb⟩ => ⟨_, he, hb, by first | rfl | simp⟩
                  · intro ev wy hp hl hk hd
                    have e147 : ev (.tmp 147) = .bool true := hk 147 (by decide)
                    have e154 : ev (.tmp 154) = .bool true := hk 154 (by decide)
                    clear hk hd
                    exact Yield.pick (t := true) rfl e147 ⟨Ext.refl _, e154⟩
                  · intro ev wy hp hl hk hd
                    have e155 : ev (.tmp 155) = .bool true := hk 155 (by decide)
                    clear hk hd
                    exact Yield.mv rfl ⟨Ext.refl _, e155⟩
                  · intro ev wy hp hl hk hd
                    have e16 : ev (.tmp 16) = .slice v5a v5n v5c := hk 16 (by decide)
                    clear hk
                    refine ⟨fun _ _ _ => ?_, fun _ hx hne => absurd hx hne⟩
                    clear hd
                    exact Yield.mv rfl ⟨Ext.refl _, e16⟩
                  · intro ev wy hp hl hk hd
                    have e1 : ev (.tmp 1) = .slice a K cp := hk 1 (by decide)
                    clear hk
                    refine ⟨fun _ _ _ => ?_, fun _ hx hne => absurd hx hne⟩
                    clear hd
                    exact Yield.mv rfl ⟨Ext.refl _, e1⟩
                  · intro ev wy hp hl hk hd
                    have e16 : ev (.tmp 16) = .slice v5a v5n v5c := hk 16 (by decide)
                    clear hk
                    refine ⟨fun _ _ _ => ?_, fun _ hx hne => absurd hx hne⟩
                    clear hd
                    exact Yield.mv rfl ⟨Ext.refl _, e16⟩
                  · intro ev wy hp hl hk hd
                    have e159 : ev (.tmp 159) = .slice v5a v5n v5c := hk 159 (by decide)
                    clear hk
                    refine ⟨fun _ _ _ => ?_, fun _ hx hne => absurd hx hne⟩
                    clear hd
                    exact Yield.op (v := .int .i64 (v5n : Nat)) (w' := wy) (by simp [execOp, go_sem, e159]) ⟨Ext.refl _, rfl⟩
                  · intro ev wy hp hl hk hd
                    have e158 : ev (.tmp 158) = .slice a K cp := hk 158 (by decide)
                    have e160 : ev (.tmp 160) = .int .i64 (v5n : Nat) := hk 160 (by decide)
                    clear hk
                    refine ⟨fun _ _ _ => ?_, fun _ hx hne => absurd hx hne⟩
                    clear hd
                    exact Yield.op (v := .slice a v5n cp) (w' := wy) (by simp [execOp, e158, e160, HSL.out, Sem.run_bind]) ⟨Ext.refl _, rfl⟩
                  · intro ev wy hp hl hk hd
                    have e157 : ev (.tmp 157) = .slice v5a v5n v5c := hk 157 (by decide)
                    have e161 : ev (.tmp 161) = .slice a v5n cp := hk 161 (by decide)
                    clear hk
                    refine ⟨fun _ _ _ => ?_, fun _ hx hne => absurd hx hne⟩
                    clear hd
                    refine Yield.call rfl hp Tryz.func22 rfl (by kernel_rfl) ?_
                    simp only [List.map_toArray, List.map_cons, List.map_nil, e157, e161]
                    exact (refSameAll11 (.slice v5a v5n v5c) (.slice a v5n cp) (R 0).w.l wy (HO7.out.ext hl).ents (by have h1 := (HL0.out wy (HT7.out.ext.trans hl)).take v5n HAL.out.1; rw [← HFA.out] at h1; exact h1)).mono fun _ _ ⟨he, hb⟩ => ⟨_, he, hb, by first | rfl | simp⟩
                  · intro ev wy hp hl hk hd
                    have e156 : ev (.tmp 156) = .bool true := hk 156 (by decide)
                    have e162 : ev (.tmp 162) = .bool true := hk 162 (by decide)
                    clear hk hd
                    exact Yield.pick (t := true) rfl e156 ⟨Ext.refl _, e162⟩
                  · intro ev wy hp hl hk hd
                    have e163 : ev (.tmp 163) = .bool true := hk 163 (by decide)
                    clear hk hd
                    exact Yield.as rfl ⟨Ext.refl _, e163⟩
                · intro vals wz hz hv
                  have g134 : vals 0 = .bool true := hv 0 (by decide)
                  have g135 : vals 1 = .bool true := hv 1 (by decide)
                  have g136 : vals 2 = .slice v5a v5n v5c := hv 2 (by decide)
                  have g137 : vals 3 = .int .i64 (v5n : Nat) := hv 3 (by decide)
                  have g138 : vals 4 = .int .i64 (v7n : Nat) := hv 4 (by decide)
                  have g139 : vals 5 = .bool true := hv 5 (by decide)
                  have g140 : vals 6 = .bool true := hv 6 (by decide)
                  have g141 : vals 7 = .bool true := hv 7 (by decide)
                  have g142 : vals 8 = .slice v7a v7n v7c := hv 8 (by decide)
                  have g143 : vals 9 = .int .i64 (v7n : Nat) := hv 9 (by decide)
                  have g144 : vals 10 = .int .i64 (v7n : Nat) := hv 10 (by decide)
                  have g145 : vals 11 = .bool true := hv 11 (by decide)
                  have g146 : vals 12 = .bool true := hv 12 (by decide)
                  have g147 : vals 13 = .bool true := hv 13 (by decide)
                  have g148 : vals 14 = .slice v5a v5n v5c := hv 14 (by decide)
                  have g149 : vals 15 = .int .i64 (v7n : Nat) := hv 15 (by decide)
                  have g150 : vals 16 = .slice v5a v7n v5c := hv 16 (by decide)
                  have g151 : vals 17 = .slice v7a v7n v7c := hv 17 (by decide)
                  have g152 : vals 18 = .int .i64 (v7n : Nat) := hv 18 (by decide)
                  have g153 : vals 19 = .slice v7a v7n v7c := hv 19 (by decide)
                  have g154 : vals 20 = .bool true := hv 20 (by decide)
                  have g155 : vals 21 = .bool true := hv 21 (by decide)
                  have g156 : vals 22 = .bool true := hv 22 (by decide)
                  have g157 : vals 23 = .slice v5a v5n v5c := hv 23 (by decide)
                  have g158 : vals 24 = .slice a K cp := hv 24 (by decide)
                  have g159 : vals 25 = .slice v5a v5n v5c := hv 25 (by decide)
                  have g160 : vals 26 = .int .i64 (v5n : Nat) := hv 26 (by decide)
                  have g161 : vals 27 = .slice a v5n cp := hv 27 (by decide)
                  have g162 : vals 28 = .bool true := hv 28 (by decide)
                  have g163 : vals 29 = .bool true := hv 29 (by decide)
                  have g6 : vals 30 = .bool true := hv 30 (by decide)
                  clear hv
                  simp only [putAll, Act.put, List.setIfInBounds_toArray, List.set_cons_zero, List.set_cons_succ, g134, g135, g136, g137, g138, g139, g140, g141, g142, g143, g144, g145, g146, g147, g148, g149, g150, g151, g152, g153, g154, g155, g156, g157, g158, g159, g160, g161, g162, g163, g6]
                  clear g134
                  clear g135
                  clear g136
                  clear g137
                  clear g138
                  clear g139
                  clear g140
                  clear g141
                  clear g142
                  clear g143
                  clear g144
                  clear g145
                  clear g146
                  clear g147
                  clear g148
                  clear g149
                  clear g150
                  clear g151
                  clear g152
                  clear g153
                  clear g154
                  clear g155
                  clear g156
                  clear g157
                  clear g158
                  clear g159
                  clear g160
                  clear g161
                  clear g162
                  clear g163
                  clear g6
                  have HZ := Lib.hid (HT7.out.ext.trans hz)
                  clear hz
                  go_wp2_with fail
                  go_ret
                  exact ⟨rfl, HE0.out.trans HZ.out⟩
              · have hab2 : ¬ (nb : Int) < (na : Int) := by omega
                go_wp2_with fail
                refine (told11_own (show IsRep w1 W.heap.size (S 0) xa (R 0) from ⟨_, _, _, _, _, HRA.out⟩)).mono ?_
                rintro e w4 ht4
                obtain ⟨v4, rfl, hE4, hc4⟩ := shown11_own ht4
                have HC4 := Lib.hid hc4
                have HT4 := Lib.hid (HT1.out.extend hE4)
                have HRB4 := Lib.hid (show IsRep w4 W.heap.size (S 1) xb (R 1) from ⟨_, _, _, _, _, HRB.out.ext hE4⟩)
                clear ht4 hE4 hc4
                go_wp2_with fail
                refine HC4.out.mono ?_
                rintro e w5 ⟨v5, rfl, hE5, ho5⟩
                have HT5 := Lib.hid (HT4.out.extend hE5)
                have HO5 := Lib.hid ho5
                have HRB5 := Lib.hid (HRB4.out.ext hE5)
                obtain ⟨v5a, v5n, v5c, rfl, h5n⟩ := ho5.open
                rw [HNA.out] at h5n
                subst h5n
                clear ho5 hE5
                go_wp2_with fail
                refine (told11_own HRB5.out).mono ?_
                rintro e w6 ht6
                obtain ⟨v6, rfl, hE6, hc6⟩ := shown11_own ht6
                have HC6 := Lib.hid hc6
                have HT6 := Lib.hid (HT5.out.extend hE6)
                have HO6 := Lib.hid (HO5.out.ext hE6)
                clear ht6 hE6 hc6
                go_wp2_with fail
                refine HC6.out.mono ?_
                rintro e w7 ⟨v7, rfl, hE7, ho7⟩
                have HT7 := Lib.hid (HT6.out.extend hE7)
                have HO7 := Lib.hid (HO6.out.ext hE7)
                have HP7 := Lib.hid ho7
                obtain ⟨v7a, v7n, v7c, rfl, h7n⟩ := ho7.open
                rw [HNB.out] at h7n
                subst h7n
                have hfa : (R 0).w.l = l.take v5n := by have := HF.out 0 (by omega); unfold Rep.From at this; rw [HNA.out] at this; exact this
                have hfb : (R 1).w.l = l.take v7n := by have := HF.out 1 (by omega); unfold Rep.From at this; rw [HNB.out] at this; exact this
                have hal : v5n ≤ l.length := by have := congrArg List.length hfa; rw [HNA.out, List.length_take] at this; omega
                have hcp : v5n ≤ cp := by have := HN.out; omega
                have hc5 : v5n ≤ v5c := by
                  obtain ⟨_, _, he, h1, _⟩ := HO7.out.ents.shape
                  injection he with _ e2 e3
                  rw [HNA.out] at h1
                  omega
                have hc7 : v7n ≤ v7c := by
                  obtain ⟨_, _, he, h1, _⟩ := HP7.out.ents.shape
                  injection he with _ e2 e3
                  rw [HNB.out] at h1
                  omega
                have hs5 := fun w : World => runTo (P := Tryz.prog) (w := w) Tryz.underlying63 (by kernel_rfl : (Tryz.prog.info? 54).map (·.size) = some 6) (a := v5a) (n := v5n) (cap := v5c) v5n (by omega) .i64
                have hs7 := fun w : World => runTo (P := Tryz.prog) (w := w) Tryz.underlying63 (by kernel_rfl : (Tryz.prog.info? 54).map (·.size) = some 6) (a := v7a) (n := v7n) (cap := v7c) v5n (by omega) .i64
                have hsl := fun w : World => runTo (P := Tryz.prog) (w := w) Tryz.underlying63 (by kernel_rfl : (Tryz.prog.info? 54).map (·.size) = some 6) (a := a) (n := K) (cap := cp) v5n (by omega) .i64
                have HT1x := Lib.hid (show (R 0).w.l.take v5n = l.take v5n by rw [hfa, List.take_take, Nat.min_eq_left (by omega)])
                have HT2x := Lib.hid (show (R 1).w.l.take v5n = l.take v5n by rw [hfb, List.take_take, Nat.min_eq_left (by omega)])
                have HFA := Lib.hid hfa
                have HAL := Lib.hid (And.intro hal (show v5n ≤ v5n ∧ v5n ≤ v7n by omega))
                have q1 : ¬ v5n < v5n := by omega
                have q2 : ¬ v7n < v5n := by omega
                have q3 : v5n ≤ v5n := by omega
                have q4 : v5n ≤ v7n := by omega
                have HS5 := Lib.hid hs5
                have HS7 := Lib.hid hs7
                have HSL := Lib.hid hsl
                clear ho7 hE7 hfa hfb hal hcp hc5 hc7 hab hab2 q1 q2 q3 q4 hs5 hs7 hsl
                go_wp2_with fail
                refine wp_region_facts (by kernel_rfl) Ext (fun iop v w => match iop with
                    | 0 => v = .bool true
                    | 1 => v = .bool true
                    | 2 => v = .slice v5a v5n v5c
                    | 3 => v = .int .i64 (v5n : Nat)
                    | 4 => v = .int .i64 (v5n : Nat)
                    | 5 => v = .bool true
                    | 6 => v = .bool true
                    | 7 => v = .bool true
                    | 8 => v = .slice v7a v7n v7c
                    | 9 => v = .int .i64 (v7n : Nat)
                    | 10 => v = .int .i64 (v5n : Nat)
                    | 11 => v = .bool true
                    | 12 => v = .bool true
                    | 13 => v = .bool true
                    | 14 => v = .slice v5a v5n v5c
                    | 15 => v = .int .i64 (v5n : Nat)
                    | 16 => v = .slice v5a v5n v5c
                    | 17 => v = .slice v7a v7n v7c
                    | 18 => v = .int .i64 (v5n : Nat)
                    | 19 => v = .slice v7a v5n v7c
                    | 20 => v = .bool true
                    | 21 => v = .bool true
                    | 22 => v = .bool true
                    | 23 => v = .slice v5a v5n v5c
                    | 24 => v = .slice a K cp
                    | 25 => v = .slice v5a v5n v5c
                    | 26 => v = .int .i64 (v5n : Nat)
                    | 27 => v = .slice a v5n cp
                    | 28 => v = .bool true
                    | 29 => v = .bool true
                    | _ => v = .bool true
                    ) (by kernel_rfl) (fun _ _ _ h k => Ext.trans h k) (fun a => Ext.refl a) (Ext.drew _) ?_ ?_ ?_
                · intro iop v wa wb hF hL
                  iterate 30 (rcases iop with _ | iop; exact hF)
                  exact hF
                · refine Obls.cons ?_ (Obls.cons ?_ (Obls.cons ?_ (Obls.cons ?_ (Obls.cons ?_ (Obls.cons ?_ (Obls.cons ?_ (Obls.cons ?_ (Obls.cons ?_ (Obls.cons ?_ (Obls.cons ?_ (Obls.cons ?_ (Obls.cons ?_ (Obls.cons ?_ (Obls.cons ?_ (Obls.cons ?_ (Obls.cons ?_ (Obls.cons ?_ (Obls.cons ?_ (Obls.cons ?_ (Obls.cons ?_ (Obls.cons ?_ (Obls.cons ?_ (Obls.cons ?_ (Obls.cons ?_ (Obls.cons ?_ (Obls.cons ?_ (Obls.cons ?_ (Obls.cons ?_ (Obls.cons ?_ (Obls.cons ?_ (Obls.nil)))))))))))))))))))))))))))))))
                  · intro ev wy hp hl hk hd
                    clear hk hd
                    refine Yield.call rfl hp Tryz.func12 rfl (by kernel_rfl) ?_
                    simp only [List.map_toArray, List.map_nil]
                    exact (alive11_any wy).mono fun _ _ ⟨he, hb⟩ => ⟨_, he, hb, by first | rfl | simp⟩
                  · intro ev wy hp hl hk hd
                    have e134 : ev (.tmp 134) = .bool true := hk 134 (by decide)
                    clear hk hd
                    exact Yield.mv rfl ⟨Ext.refl _, e134⟩
                  · intro ev wy hp hl hk hd
                    have e16 : ev (.tmp 16) = .slice v5a v5n v5c := hk 16 (by decide)
                    clear hk
                    refine ⟨fun _ _ _ => ?_, fun _ hx hne => absurd hx hne⟩
                    clear hd
                    exact Yield.mv rfl ⟨Ext.refl _, e16⟩
                  · intro ev wy hp hl hk hd
                    have e136 : ev (.tmp 136) = .slice v5a v5n v5c := hk 136 (by decide)
                    clear hk
                    refine ⟨fun _ _ _ => ?_, fun _ hx hne => absurd hx hne⟩
                    clear hd
                    exact Yield.op (v := .int .i64 (v5n : Nat)) (w' := wy) (by simp [execOp, go_sem, e136]) ⟨Ext.refl _, rfl⟩
                  · intro ev wy hp hl hk hd
                    have e15 : ev (.tmp 15) = .int .i64 (v5n : Nat) := hk 15 (by decide)
                    clear hk
                    refine ⟨fun _ _ _ => ?_, fun _ hx hne => absurd hx hne⟩
                    clear hd
                    exact Yield.mv rfl ⟨Ext.refl _, e15⟩
                  · intro ev wy hp hl hk hd
                    have e137 : ev (.tmp 137) = .int .i64 (v5n : Nat) := hk 137 (by decide)
                    have e138 : ev (.tmp 138) = .int .i64 (v5n : Nat) := hk 138 (by decide)
                    clear hk
                    refine ⟨fun _ _ _ => ?_, fun _ hx hne => absurd hx hne⟩
                    clear hd
                    exact Yield.op (v := .bool true) (w' := wy) (by have q := HAL.out.2.1; simp [execOp, go_sem, e137, e138, q]) ⟨Ext.refl _, rfl⟩
                  · intro ev wy hp hl hk hd
                    have e135 : ev (.tmp 135) = .bool true := hk 135 (by decide)
                    have e139 : ev (.tmp 139) = .bool true := hk 139 (by decide)
                    clear hk hd
                    exact Yield.pick (t := true) rfl e135 ⟨Ext.refl _, e139⟩
                  · intro ev wy hp hl hk hd
                    have e140 : ev (.tmp 140) = .bool true := hk 140 (by decide)
                    clear hk hd
                    exact Yield.mv rfl ⟨Ext.refl _, e140⟩
                  · intro ev wy hp hl hk hd
                    have e17 : ev (.tmp 17) = .slice v7a v7n v7c := hk 17 (by decide)
                    clear hk
                    refine ⟨fun _ _ _ => ?_, fun _ hx hne => absurd hx hne⟩
                    clear hd
                    exact Yield.mv rfl ⟨Ext.refl _, e17⟩
                  · intro ev wy hp hl hk hd
                    have e142 : ev (.tmp 142) = .slice v7a v7n v7c := hk 142 (by decide)
                    clear hk
                    refine ⟨fun _ _ _ => ?_, fun _ hx hne => absurd hx hne⟩
                    clear hd
                    exact Yield.op (v := .int .i64 (v7n : Nat)) (w' := wy) (by simp [execOp, go_sem, e142]) ⟨Ext.refl _, rfl⟩
                  · intro ev wy hp hl hk hd
                    have e15 : ev (.tmp 15) = .int .i64 (v5n : Nat) := hk 15 (by decide)
                    clear hk
                    refine ⟨fun _ _ _ => ?_, fun _ hx hne => absurd hx hne⟩
                    clear hd
                    exact Yield.mv rfl ⟨Ext.refl _, e15⟩
                  · intro ev wy hp hl hk hd
                    have e143 : ev (.tmp 143) = .int .i64 (v7n : Nat) := hk 143 (by decide)
                    have e144 : ev (.tmp 144) = .int .i64 (v5n : Nat) := hk 144 (by decide)
                    clear hk
                    refine ⟨fun _ _ _ => ?_, fun _ hx hne => absurd hx hne⟩
                    clear hd
                    exact Yield.op (v := .bool true) (w' := wy) (by have q := HAL.out.2.2; simp [execOp, go_sem, e143, e144, q]) ⟨Ext.refl _, rfl⟩
                  · intro ev wy hp hl hk hd
                    have e141 : ev (.tmp 141) = .bool true := hk 141 (by decide)
                    have e145 : ev (.tmp 145) = .bool true := hk 145 (by decide)
                    clear hk hd
                    exact Yield.pick (t := true) rfl e141 ⟨Ext.refl _, e145⟩
                  · intro ev wy hp hl hk hd
                    have e146 : ev (.tmp 146) = .bool true := hk 146 (by decide)
                    clear hk hd
                    exact Yield.mv rfl ⟨Ext.refl _, e146⟩
                  · intro ev wy hp hl hk hd
                    have e16 : ev (.tmp 16) = .slice v5a v5n v5c := hk 16 (by decide)
                    clear hk
                    refine ⟨fun _ _ _ => ?_, fun _ hx hne => absurd hx hne⟩
                    clear hd
                    exact Yield.mv rfl ⟨Ext.refl _, e16⟩
                  · intro ev wy hp hl hk hd
                    have e15 : ev (.tmp 15) = .int .i64 (v5n : Nat) := hk 15 (by decide)
                    clear hk
                    refine ⟨fun _ _ _ => ?_, fun _ hx hne => absurd hx hne⟩
                    clear hd
                    exact Yield.mv rfl ⟨Ext.refl _, e15⟩
                  · intro ev wy hp hl hk hd
                    have e148 : ev (.tmp 148) = .slice v5a v5n v5c := hk 148 (by decide)
                    have e149 : ev (.tmp 149) = .int .i64 (v5n : Nat) := hk 149 (by decide)
                    clear hk
                    refine ⟨fun _ _ _ => ?_, fun _ hx hne => absurd hx hne⟩
                    clear hd
                    exact Yield.op (v := .slice v5a v5n v5c) (w' := wy) (by simp [execOp, e148, e149, HS5.out, Sem.run_bind]) ⟨Ext.refl _, rfl⟩
                  · intro ev wy hp hl hk hd
                    have e17 : ev (.tmp 17) = .slice v7a v7n v7c := hk 17 (by decide)
                    clear hk
                    refine ⟨fun _ _ _ => ?_, fun _ hx hne => absurd hx hne⟩
                    clear hd
                    exact Yield.mv rfl ⟨Ext.refl _, e17⟩
                  · intro ev wy hp hl hk hd
                    have e15 : ev (.tmp 15) = .int .i64 (v5n : Nat) := hk 15 (by decide)
                    clear hk
                    refine ⟨fun _ _ _ => ?_, fun _ hx hne => absurd hx hne⟩
                    clear hd
                    exact Yield.mv rfl ⟨Ext.refl _, e15⟩
                  · intro ev wy hp hl hk hd
                    have e151 : ev (.tmp 151) = .slice v7a v7n v7c := hk 151 (by decide)
                    have e152 : ev (.tmp 152) = .int .i64 (v5n : Nat) := hk 152 (by decide)
                    clear hk
                    refine ⟨fun _ _ _ => ?_, fun _ hx hne => absurd hx hne⟩
                    clear hd
                    exact Yield.op (v := .slice v7a v5n v7c) (w' := wy) (by simp [execOp, e151, e152, HS7.out, Sem.run_bind]) ⟨Ext.refl _, rfl⟩
                  · intro ev wy hp hl hk hd
                    have e150 : ev (.tmp 150) = .slice v5a v5n v5c := hk 150 (by decide)
                    have e153 : ev (.tmp 153) = .slice v7a v5n v7c := hk 153 (by decide)
                    clear hk
                    refine ⟨fun _ _ _ => ?_, fun _ hx hne => absurd hx hne⟩
                    clear hd
                    refine Yield.call rfl hp Tryz.func22 rfl (by kernel_rfl) ?_
                    simp only [List.map_toArray, List.map_cons, List.map_nil, e150, e153]
                    exact (refSameAll11 (.slice v5a v5n v5c) (.slice v7a v5n v7c) (l.take v5n) wy (by have h1 := (HO7.out.ext hl).ents.take v5n (by rw [HNA.out]; exact HAL.out.2.1); rw [HT1x.out] at h1; exact h1) (by have h1 := (HP7.out.ext hl).ents.take v5n (by rw [HNB.out]; exact HAL.out.2.2); rw [HT2x.out] at h1; exact h1)).mono fun _ _ ⟨he, hb⟩ => ⟨_, he, hb, by first | rfl | simp⟩
                  · intro ev wy hp hl hk hd
                    have e147 : ev (.tmp 147) = .bool true := hk 147 (by decide)
                    have e154 : ev (.tmp 154) = .bool true := hk 154 (by decide)
                    clear hk hd
                    exact Yield.pick (t := true) rfl e147 ⟨Ext.refl _, e154⟩
                  · intro ev wy hp hl hk hd
                    have e155 : ev (.tmp 155) = .bool true := hk 155 (by decide)
                    clear hk hd
                    exact Yield.mv rfl ⟨Ext.refl _, e155⟩
                  · intro ev wy hp hl hk hd
                    have e16 : ev (.tmp 16) = .slice v5a v5n v5c := hk 16 (by decide)
                    clear hk
                    refine ⟨fun _ _ _ => ?_, fun _ hx hne => absurd hx hne⟩
                    clear hd
                    exact Yield.mv rfl ⟨Ext.refl _, e16⟩
                  · intro ev wy hp hl hk hd
                    have e1 : ev (.tmp 1) = .slice a K cp := hk 1 (by decide)
                    clear hk
                    refine ⟨fun _ _ _ => ?_, fun _ hx hne => absurd hx hne⟩
                    clear hd
                    exact Yield.mv rfl ⟨Ext.refl _, e1⟩
                  · intro ev wy hp hl hk hd
                    have e16 : ev (.tmp 16) = .slice v5a v5n v5c := hk 16 (by decide)
                    clear hk
                    refine ⟨fun _ _ _ => ?_, fun _ hx hne => absurd hx hne⟩
                    clear hd
                    exact Yield.mv rfl ⟨Ext.refl _, e16⟩
                  · intro ev wy hp hl hk hd
                    have e159 : ev (.tmp 159) = .slice v5a v5n v5c := hk 159 (by decide)
                    clear hk
                    refine ⟨fun _ _ _ => ?_, fun _ hx hne => absurd hx hne⟩
                    clear hd
                    exact Yield.op (v := .int .i64 (v5n : Nat)) (w' := wy) (by simp [execOp, go_sem, e159]) ⟨Ext.refl _, rfl⟩
                  · intro ev wy hp hl hk hd
                    have e158 : ev (.tmp 158) = .slice a K cp := hk 158 (by decide)
                    have e160 : ev (.tmp 160) = .int .i64 (v5n : Nat) := hk 160 (by decide)
                    clear hk
                    refine ⟨fun _ _ _ => ?_, fun _ hx hne => absurd hx hne⟩
                    clear hd
                    exact Yield.op (v := .slice a v5n cp) (w' := wy) (by simp [execOp, e158, e160, HSL.out, Sem.run_bind]) ⟨Ext.refl _, rfl⟩
                  · intro ev wy hp hl hk hd
                    have e157 : ev (.tmp 157) = .slice v5a v5n v5c := hk 157 (by decide)
                    have e161 : ev (.tmp 161) = .slice a v5n cp := hk 161 (by decide)
                    clear hk
                    refine ⟨fun _ _ _ => ?_, fun _ hx hne => absurd hx hne⟩
                    clear hd
                    refine Yield.call rfl hp Tryz.func22 rfl (by kernel_rfl) ?_
                    simp only [List.map_toArray, List.map_cons, List.map_nil, e157, e161]
                    exact (refSameAll11 (.slice v5a v5n v5c) (.slice a v5n cp) (R 0).w.l wy (HO7.out.ext hl).ents (by have h1 := (HL0.out wy (HT7.out.ext.trans hl)).take v5n HAL.out.1; rw [← HFA.out] at h1; exact h1)).mono fun _ _ ⟨he, hb⟩ => ⟨_, he, hb, by first | rfl | simp⟩
                  · intro ev wy hp hl hk hd
                    have e156 : ev (.tmp 156) = .bool true := hk 156 (by decide)
                    have e162 : ev (.tmp 162) = .bool true := hk 162 (by decide)
                    clear hk hd
                    exact Yield.pick (t := true) rfl e156 ⟨Ext.refl _, e162⟩
                  · intro ev wy hp hl hk hd
                    have e163 : ev (.tmp 163) = .bool true := hk 163 (by decide)
                    clear hk hd
                    exact Yield.as rfl ⟨Ext.refl _, e163⟩
                · intro vals wz hz hv
                  have g134 : vals 0 = .bool true := hv 0 (by decide)
                  have g135 : vals 1 = .bool true := hv 1 (by decide)
                  have g136 : vals 2 = .slice v5a v5n v5c := hv 2 (by decide)
                  have g137 : vals 3 = .int .i64 (v5n : Nat) := hv 3 (by decide)
                  have g138 : vals 4 = .int .i64 (v5n : Nat) := hv 4 (by decide)
                  have g139 : vals 5 = .bool true := hv 5 (by decide)
                  have g140 : vals 6 = .bool true := hv 6 (by decide)
                  have g141 : vals 7 = .bool true := hv 7 (by decide)
                  have g142 : vals 8 = .slice v7a v7n v7c := hv 8 (by decide)
                  have g143 : vals 9 = .int .i64 (v7n : Nat) := hv 9 (by decide)
                  have g144 : vals 10 = .int .i64 (v5n : Nat) := hv 10 (by decide)
                  have g145 : vals 11 = .bool true := hv 11 (by decide)
                  have g146 : vals 12 = .bool true := hv 12 (by decide)
                  have g147 : vals 13 = .bool true := hv 13 (by decide)
                  have g148 : vals 14 = .slice v5a v5n v5c := hv 14 (by decide)
                  have g149 : vals 15 = .int .i64 (v5n : Nat) := hv 15 (by decide)
                  have g150 : vals 16 = .slice v5a v5n v5c := hv 16 (by decide)
                  have g151 : vals 17 = .slice v7a v7n v7c := hv 17 (by decide)
                  have g152 : vals 18 = .int .i64 (v5n : Nat) := hv 18 (by decide)
                  have g153 : vals 19 = .slice v7a v5n v7c := hv 19 (by decide)
                  have g154 : vals 20 = .bool true := hv 20 (by decide)
                  have g155 : vals 21 = .bool true := hv 21 (by decide)
                  have g156 : vals 22 = .bool true := hv 22 (by decide)
                  have g157 : vals 23 = .slice v5a v5n v5c := hv 23 (by decide)
                  have g158 : vals 24 = .slice a K cp := hv 24 (by decide)
                  have g159 : vals 25 = .slice v5a v5n v5c := hv 25 (by decide)
                  have g160 : vals 26 = .int .i64 (v5n : Nat) := hv 26 (by decide)
                  have g161 : vals 27 = .slice a v5n cp := hv 27 (by decide)
                  have g162 : vals 28 = .bool true := hv 28 (by decide)
                  have g163 : vals 29 = .bool true := hv 29 (by decide)
                  have g6 : vals 30 = .bool true := hv 30 (by decide)
                  clear hv
                  simp only [putAll, Act.put, List.setIfInBounds_toArray, List.set_cons_zero, List.set_cons_succ, g134, g135, g136, g137, g138, g139, g140, g141, g142, g143, g144, g145, g146, g147, g148, g149, g150, g151, g152, g153, g154, g155, g156, g157, g158, g159, g160, g161, g162, g163, g6]
                  clear g134
                  clear g135
                  clear g136
                  clear g137
                  clear g138
                  clear g139
                  clear g140
                  clear g141
                  clear g142
                  clear g143
                  clear g144
                  clear g145
                  clear g146
                  clear g147
                  clear g148
                  clear g149
                  clear g150
                  clear g151
                  clear g152
                  clear g153
                  clear g154
                  clear g155
                  clear g156
                  clear g157
                  clear g158
                  clear g159
                  clear g160
                  clear g161
                  clear g162
                  clear g163
                  clear g6
                  have HZ := Lib.hid (HT7.out.ext.trans hz)
                  clear hz
                  go_wp2_with fail
                  go_ret
                  exact ⟨rfl, HE0.out.trans HZ.out⟩
namespace replicaTwo
theorem own : ownKnob Tryz.prog.godebug = none := by kernel_rfl
theorem laidOut : laidOutB Tryz.prog = true := by kernel_rfl
set_option linter.unusedVariables false in
set_option maxRecDepth 100000 in
theorem lifted (os : Os) (started : os.Started) (H : Type) (enc : TypeId × Value → H) :
    ReturnsInHanded {} Tryz.checked os 6 .any (Rows.replicaTwoSpec.pre6 enc Tryz.prog Tryz.f6 Rows.replicaTwoRow.domain false) (Rows.replicaTwoSpec.post enc Tryz.prog Tryz.f6 false true false false) := by
  refine returnsInHanded_of_change_sized (C := Tryz.checked) own started (by kernel_rfl) Tryz.func6
    (ChangeSpec.witness6 (enc := enc) (C := Tryz.checked) false ⟨#[], #[.agg #[.int .i64 0, .slice none 0 0, .slice none 0 0], .slice none 0 0, .agg #[.slice none 0 0, .slice none 0 0]], []⟩ 8 (by kernel_rfl) (by kernel_rfl) (by kernel_rfl) (by kernel_rfl)) ?_
  intro W base args ds gs before hval0 hW hcnd hsz _
  have hval : ∀ (j : Nat) t v, Tryz.f6.params[j]? = some t → args[j]? = some v → Value.okWide Tryz.prog W .any base t v := hval0
  have hW' := hW
  obtain ⟨p, q, hA0, hV, rfl, hfz, hnd⟩ := hW'
  have hA : DataW.TrodAll enc Tryz.prog W 0 (fun _ => true) true Tryz.f6.params.toList args.toList ds p := hA0
  rw [Tryz.params6] at hA hval
  obtain ⟨v0, vs0, d0, ds0, p0, q0, hargs, rfl, rfl, h0, r0⟩ := trodAll_cons hA
  obtain ⟨v1, vs1, d1, ds1, p1, q1, rfl, rfl, rfl, h1, r1⟩ := trodAll_cons r0
  obtain ⟨v2, vs2, d2, ds2, p2, q2, rfl, rfl, rfl, h2, r2⟩ := trodAll_cons r1
  obtain ⟨rfl, rfl, rfl⟩ := trodAll_nil r2
  obtain rfl : args = #[v0, v1, v2] := by cases args; simp_all
  obtain ⟨rfl, rfl⟩ := trodVars_none hV
  have k0 := h0
  have lt0 : ∀ x ∈ p0, x.block < W.heap.size := by obtain ⟨m, hm⟩ := k0; exact DataW.trod_lt m _ _ _ hm
  obtain ⟨l0, w0⟩ := conf_arg (hval 0 25 v0 rfl rfl) h0
  have k1 := h1
  have lt1 : ∀ x ∈ p1, x.block < W.heap.size := by obtain ⟨m, hm⟩ := k1; exact DataW.trod_lt m _ _ _ hm
  obtain ⟨a1, len1, cap1, rfl⟩ := okWide_slice Tryz.underlying63 (hval 1 63 v1 rfl rfl)
  obtain ⟨l1, w1⟩ : ∃ l, Ents W (.slice a1 len1 cap1) l := by
    obtain ⟨fuel, hf⟩ := h1
    obtain ⟨v, l, hcs, hb⟩ := ents_of_raw hf
    simp [Value.cells] at hcs
    subst hcs
    exact ⟨l, hb⟩
  have sz1 : len1 * 64 ≤ 140737488351232 := by obtain ⟨fuel, hf⟩ := h1; exact reach_of_raw (P := Tryz.prog) (x := (d1, p1)) (j := 1) hsz (by rw [Tryz.params6]; rfl) rfl Tryz.underlying63 (by kernel_rfl) hf
  have k2 := h2
  have lt2 : ∀ x ∈ p2, x.block < W.heap.size := by obtain ⟨m, hm⟩ := k2; exact DataW.trod_lt m _ _ _ hm
  obtain ⟨u2, x2, l2, m2, rfl, w2, y2⟩ := picks_arg11 (hval 2 88 v2 rfl rfl) h2
  clear hA0 hval0
  refine (replicaTwo_walk v0 l0 a1 len1 cap1 l1 u2 x2 l2 m2 W w0 w1 w2 y2).mono fun e W' ⟨he, bel⟩ => ?_
  subst he
  exact ⟨_, rfl, _, _, _, [], _, [], hW, trodAll_mk1 (shut_bool Tryz.underlying4 _), (trodAll_cons_mk (Below.trod laidOut (by kernel_rfl) (of_decide_eq_true (by kernel_rfl)) k0 bel lt0) (trodAll_cons_mk (Below.trod laidOut (by kernel_rfl) (of_decide_eq_true (by kernel_rfl)) k1 bel lt1) (trodAll_cons_mk (Below.trod laidOut (by kernel_rfl) (of_decide_eq_true (by kernel_rfl)) k2 bel lt2) trodAll_mk0))), rfl, bel.frame _, fun h => by cases h⟩
theorem over : Rows.replicaTwoRow.holds Tryz.pinned (OpenSpec.ofChange Rows.replicaTwoSpec) :=
  OpenClaim.holds_of_wide 6 Tryz.f6 rfl rfl rfl rfl rfl rfl rfl ⟨rfl, rfl, rfl, rfl, rfl⟩ rfl rfl rfl rfl rfl (by kernel_rfl) Tryz.func6 (by kernel_rfl)
    (of_decide_eq_true (by kernel_rfl)) (by unfold Func.isWrapper; first | (rw [if_pos (by decide +kernel)]; kernel_rfl) | (rw [if_neg (by decide +kernel)]; exact ⟨rfl, rfl⟩))
    (fun os started H enc _ => lifted os started H enc)
theorem proved : Rows.ReplicaTwoSaid := over
end replicaTwo
end Go.Proofs.YtckdofhcifdpmaaGreat
