/-
  QuorumSeals: what any sealed replicas had is heard, and the longest of it told, as the document says: for every input the statement's function returns true, and leaves what came in as it was.
-/
import Derived.Test.YtnoeconcpgdjlaaBsCrcLaw
import Derived.Test.YtnoeconcpgdjlaaBsEnt2
import Derived.Test.YtnoeconcpgdjlaaBsLib
import Derived.Test.YtnoeconcpgdjlaaBsQuO
import Derived.Test.YtnoeconcpgdjlaaBsQuU
import Derived.Test.YtnoeconcpgdjlaaBsTerm
namespace Go.Proofs.Ytnoeconcpgdjlaa
set_option linter.unusedSimpArgs false
set_option linter.unusedVariables false
open Go.ChangeShapes Go.WideShapes Go.ChangeAt Go.RowKit

/-- How many entries the first k parts have together. -/
def psum12 (l : List Part12) (k : Nat) : Int := ((l.take k).map fun p => (p.2.2.length : Int)).sum
theorem psum12_succ (l : List Part12) (k : Nat) (hk : k < l.length) : psum12 l (k + 1) = psum12 l k + (l[k].2.2.length : Int) := by
  unfold psum12
  rw [List.take_succ_eq_append_getElem hk, List.map_append, List.sum_append]
  simp
theorem psum12_bound (l : List Part12) (h : ∀ p ∈ l, p.2.2.length ≤ 140737488351232) : ∀ k, 0 ≤ psum12 l k ∧ psum12 l k ≤ (k : Int) * 140737488351232 := by
  intro k
  induction k with
  | zero => simp [psum12]
  | succ k ih =>
    by_cases hk : k < l.length
    · rw [psum12_succ l k hk]
      have := h l[k] (List.getElem_mem hk)
      omega
    · have : psum12 l (k + 1) = psum12 l k := by
        unfold psum12
        rw [List.take_of_length_le (by omega), List.take_of_length_le (by omega)]
      rw [this]
      omega
theorem psum12_each (l : List Part12) : ∀ p ∈ l, (p.2.2.length : Int) ≤ psum12 l l.length := by
  have key : ∀ (l : List Part12) (p : Part12), p ∈ l → (p.2.2.length : Int) ≤ (l.map fun p => (p.2.2.length : Int)).sum ∧ 0 ≤ (l.map fun p => (p.2.2.length : Int)).sum := by
    intro l
    induction l with
    | nil => intro p hp; cases hp
    | cons a l ih =>
      intro p hp
      have h0 : 0 ≤ (l.map fun p => (p.2.2.length : Int)).sum := by
        cases l with
        | nil => simp
        | cons b l => exact (ih b (by simp)).2
      rw [List.map_cons, List.sum_cons]
      rcases List.mem_cons.1 hp with rfl | hp
      · omega
      · have := (ih p hp).1
        omega
  intro p hp
  unfold psum12
  rw [List.take_length]
  exact (key l p hp).1
/-- The parts that the document's sealer heard, in a row of its own, out of the sealer's way. -/
structure Row12s (S : Nat → Prop) (pv : Value) (ps : List Part12) (w : World) : Prop where
  own : ∃ b, w.ownsRow b 29 2 pv ps.length (partFlat ps)
  out : ∀ k, pv.ownBlock = some k → ¬ S k
theorem Row12s.tws {S : Nat → Prop} {pv : Value} {ps : List Part12} {w w' : World} (h : Row12s S pv ps w) (ht : TwS S w w') : Row12s S pv ps w' := by
  obtain ⟨b, ho⟩ := h.own
  exact ⟨⟨b, rowOwn ho fun k hk => ht.block k (ho.lt k hk).2 (h.out k hk)⟩, h.out⟩
theorem Row12s.step {S S' : Nat → Prop} {pv : Value} {ps : List Part12} {w w0 : World} (h : Row12s S pv ps w) (hlt : ∀ k, pv.ownBlock = some k → k < w0.heap.size) (hs : ∀ k, k < w0.heap.size → S' k → S k) : Row12s S' pv ps w := ⟨h.own, fun k hk e => h.out k hk (hs k (hlt k hk) e)⟩
theorem build_seR12 (w : World) (t : Int) (s d : Value) (hs : ∃ a n c, s = .slice a n c) (hd : ∃ a n c, d = .slice a n c) : (Instr.build 39 #[(0, .agg #[.int .i64 t, s, d])]).run Try.prog w = .ok (.agg #[.int .i64 t, s, d, .slice none 0 0]) w := by
  obtain ⟨_, _, _, rfl⟩ := hs
  obtain ⟨_, _, _, rfl⟩ := hd
  kernel_rfl
set_option maxRecDepth 100000 in
set_option maxHeartbeats 40000000 in
theorem quorumSeals_walk (cv : Value) (c : Term.C) (a : Option Addr) (N cp : Nat) (l : List Part12) (W0 : World) (hc : IsConf W0 cv c) (h0 : Pts12 W0 (.slice a N cp) l) (hf : ∀ o ∈ l, Wf64 o.1 ∧ o.2.2.length ≤ 140737488351232) :
    Calls Try.prog 3 #[cv, .slice a N cp] W0 fun e W' => e = .returned (.bool true) ∧ Below W0.heap.size W0 W' := by
  have hbx := box_confR
  obtain ⟨s, d, rfl, hs, hd⟩ := hc
  obtain ⟨s1, s2, s3, rfl⟩ := intsSlice hs
  obtain ⟨d1, d2, d3, rfl⟩ := irowsSlice hd
  obtain ⟨tc, htc⟩ : ∃ z, c.term = z := ⟨_, rfl⟩
  unfold confV
  rw [htc]
  have hE0 : Ext W0 (W0.alloc (.cells #[.int .i64 tc, .slice s1 s2 s3, .slice d1 d2 d3] 25)) := Ext.alloc _ _
  have hq0 := heap_alloc_new W0 (.cells #[.int .i64 tc, .slice s1 s2 s3, .slice d1 d2 d3] 25)
  obtain ⟨W, hW⟩ : ∃ z, W0.alloc (.cells #[.int .i64 tc, .slice s1 s2 s3, .slice d1 d2 d3] 25) = z := ⟨_, rfl⟩
  obtain ⟨q, hq⟩ : ∃ z, W0.heap.size = z := ⟨_, rfl⟩
  rw [hW] at hE0 hq0
  rw [hq] at hq0
  have HW := Lib.hid (And.intro hW hq)
  have HQ0 := Lib.hid hq0
  have HE0 := Lib.hid hE0
  have HTC := Lib.hid htc
  have HC := Lib.hid (show ∀ w', Ext W w' → Ints w' (.slice s1 s2 s3) c.seqs ∧ IRows w' (.slice d1 d2 d3) c.shards from fun w' h => ⟨hs.below (hE0.trans h), hd.below (hE0.trans h)⟩)
  have HCF := Lib.hid (show ∀ w', Ext W w' → IsConf w' (.agg #[.int .i64 tc, .slice s1 s2 s3, .slice d1 d2 d3]) c from fun w' h => ⟨_, _, by unfold confV; rw [htc], hs.below (hE0.trans h), hd.below (hE0.trans h)⟩)
  have HP := Lib.hid (fun w' (h : Ext W w') => h0.below (hE0.trans h))
  have HF := Lib.hid hf
  have hNl : l.length = N := by obtain ⟨_, _, e, _⟩ := h0.open; injection e with _ e _; exact e.symm
  have hcp : N ≤ cp ∧ cp ≤ 9223372036854775807 := by obtain ⟨_, _, e, h1, h2⟩ := h0.open; injection e with e1 e2 e3; omega
  obtain ⟨hN1, hN2⟩ := hcp
  have HNL := Lib.hid hNl
  have y0 : W.cell? ⟨q, 0, none⟩ = some (.int .i64 tc) := cell_of_heap hq0 0
  have y1 : W.cell? ⟨q, 1, none⟩ = some (.slice s1 s2 s3) := cell_of_heap hq0 1
  have y2 : W.cell? ⟨q, 2, none⟩ = some (.slice d1 d2 d3) := cell_of_heap hq0 2
  clear h0 hf hs hd hW hq hE0 hq0 htc hNl
  go_enter Try.func3, Try.ntmps3
  go_upto_region 1 with fail
  rw [HW.out.1, HW.out.2]
  clear hbx
  go_wp2_with fail
  go_loopw [5, 7, 21] (fun m _ i wr => ∃ (k : Nat) (M : Int), k ≤ N ∧ i = .int .i64 k ∧ m = .int .i64 M ∧ Hid (Ext W wr ∧ (N ≤ 20 → M = psum12 l k))) (fun _ _ i _ => N - (intOf i).toNat)
  case atStart => exact ⟨0, 0, by omega, rfl, rfl, Lib.hid ⟨Ext.refl _, fun _ => by simp [psum12]⟩⟩
  case round =>
    obtain ⟨k, M, hk, rfl, rfl, hI⟩ := hrel
    by_cases hlt : k < N
    · have hkl : k < l.length := by rw [HNL.out]; exact hlt
      obtain ⟨pb, po, ha, c0, c1⟩ := (HP.out wr hI.out.1).at k hkl
      subst ha
      have hen := (HP.out wr hI.out.1).2 l[k] (List.getElem_mem hkl)
      obtain ⟨v1, v3, hv, _⟩ := hen.shape
      obtain ⟨ln, hln⟩ : ∃ z, (l[k]).2.2.length = z := ⟨_, rfl⟩
      obtain ⟨pn, hpn⟩ : ∃ z, (l[k]).1 = z := ⟨_, rfl⟩
      rw [hv, hln] at c1
      rw [hpn] at c0
      have HS := Lib.hid (show psum12 l (k + 1) = psum12 l k + (ln : Int) ∧ 0 ≤ psum12 l (k + 1) ∧ psum12 l (k + 1) ≤ ((k : Int) + 1) * 140737488351232 from ⟨by rw [psum12_succ l k hkl, hln], by
        have := psum12_bound l (fun p hp => (HF.out p hp).2) (k + 1)
        push_cast at this
        exact this⟩)
      have HEA := Lib.hid (hI.out.1.trans (Ext.alloc wr (.cells #[.int .i64 pn, .slice v1 ln v3] 29)))
      clear hen hv hln hpn
      go_wp2_with fail
      go_roundw
      case rel =>
        refine ⟨k + 1, _, by omega, by go_num, rfl, Lib.hid ⟨HEA.out, fun h20 => ?_⟩⟩
        have h1 := HS.out
        have h2 := hI.out.2 h20
        have hkk : (k : Int) + 1 ≤ 20 := by omega
        rw [IntWalk.wrap64_in _ (by omega)]
        omega
      case measure => simp [intOf]; omega
    · obtain rfl : k = N := by omega
      obtain ⟨wt, hwt⟩ : ∃ z, z = wr := ⟨_, rfl⟩
      subst hwt
      have HI := hI
      have hq1 := heap_ext HQ0.out hI.out.1
      have z0 : wt.cell? ⟨q, 0, none⟩ = some (.int .i64 tc) := cell_of_heap hq1 0
      have z1 : wt.cell? ⟨q, 1, none⟩ = some (.slice s1 s2 s3) := cell_of_heap hq1 1
      have z2 : wt.cell? ⟨q, 2, none⟩ = some (.slice d1 d2 d3) := cell_of_heap hq1 2
      clear hq1
      go_wp2_with fail
      refine (few12_any (.agg #[.int .i64 tc, .slice s1 s2 s3, .slice d1 d2 d3]) c _ [] wt (HCF.out wt hI.out.1) (Ops12.nil wt)).mono ?_
      rintro e w1 ⟨⟨b, rfl⟩, hE1⟩
      have HE1 := Lib.hid (hI.out.1.trans hE1)
      clear hE1 z0 z1 z2
      cases b with
      | false =>
        go_wp2_with fail
        refine (alive12_any _).mono ?_
        rintro e wA ⟨rfl, hEA⟩
        have HEA := Lib.hid (Ext.trans (HE0.out.trans HE1.out) hEA)
        clear hEA
        go_wp2_with fail
        go_ret
        exact ⟨rfl, HEA.out⟩
      | true =>
      by_cases h20 : (20 : Int) < (k : Int)
      case pos =>
        go_wp2_with fail
        refine (alive12_any _).mono ?_
        rintro e wA ⟨rfl, hEA⟩
        have HEA := Lib.hid (Ext.trans (HE0.out.trans HE1.out) hEA)
        clear hEA
        go_wp2_with fail
        go_ret
        exact ⟨rfl, HEA.out⟩
      case neg =>
      by_cases h200 : (200 : Int) < M
      case pos =>
        go_wp2_with fail
        refine (alive12_any _).mono ?_
        rintro e wA ⟨rfl, hEA⟩
        have HEA := Lib.hid (Ext.trans (HE0.out.trans HE1.out) hEA)
        clear hEA
        go_wp2_with fail
        go_ret
        exact ⟨rfl, HEA.out⟩
      case neg =>
      have HL200 := Lib.hid (show ∀ p ∈ l, p.2.2.length ≤ 200 from fun p hp => by
        have h1 := psum12_each l p hp
        rw [HNL.out, ← hI.out.2 (by omega)] at h1
        omega)
      have HN20 := Lib.hid (show k ≤ 20 by omega)
      have hq1 := heap_ext HQ0.out HE1.out
      have x0 : w1.cell? ⟨q, 0, none⟩ = some (.int .i64 tc) := cell_of_heap hq1 0
      have x1 : w1.cell? ⟨q, 1, none⟩ = some (.slice s1 s2 s3) := cell_of_heap hq1 1
      have x2 : w1.cell? ⟨q, 2, none⟩ = some (.slice d1 d2 d3) := cell_of_heap hq1 2
      clear hq1
      go_wp2_with fail
      refine (newS12_any w1 _ c (HCF.out w1 HE1.out)).mono ?_
      rintro e w2 ⟨h, hE2⟩
      have HE2 := Lib.hid (HE1.out.trans hE2)
      have hq2 := heap_ext HQ0.out HE2.out
      have v0 : w2.cell? ⟨q, 0, none⟩ = some (.int .i64 tc) := cell_of_heap hq2 0
      have v1 : w2.cell? ⟨q, 1, none⟩ = some (.slice s1 s2 s3) := cell_of_heap hq2 1
      have v2 : w2.cell? ⟨q, 2, none⟩ = some (.slice d1 d2 d3) := cell_of_heap hq2 2
      clear hE2 hq2 x0 x1 x2
      rcases h with ⟨xs, hr, rfl, SA, hSA⟩ | ⟨hr, rfl⟩
      case inr =>
        go_wp2_with fail
        refine (refRight6_any _ c w2 (HCF.out w2 HE2.out)).mono ?_
        rw [hr]
        rintro e w3 ⟨rfl, hE3⟩
        have HE3 := Lib.hid (HE0.out.trans (HE2.out.trans hE3))
        clear hE3 v0 v1 v2 hr
        go_wp2_with fail
        refine (alive12_any _).mono ?_
        rintro e wA ⟨rfl, hEA⟩
        have HEA := Lib.hid (Ext.trans HE3.out hEA)
        clear hEA
        go_wp2_with fail
        go_ret
        exact ⟨rfl, HEA.out⟩
      have HR := Lib.hid hr
      have HS2 := Lib.hid (hSA.lower12 HE1.out.size)
      clear hSA hr
      go_wp2_with fail
      refine (refRight6_any _ c w2 (HCF.out w2 HE2.out)).mono ?_
      rw [HR.out]
      rintro e w3 ⟨rfl, hE3⟩
      have HE3 := Lib.hid (HE2.out.trans hE3)
      have HS3 := Lib.hid (HS2.out.ext hE3)
      have hq3 := heap_ext HQ0.out HE3.out
      have u0 : w3.cell? ⟨q, 0, none⟩ = some (.int .i64 tc) := cell_of_heap hq3 0
      have u1 : w3.cell? ⟨q, 1, none⟩ = some (.slice s1 s2 s3) := cell_of_heap hq3 1
      have u2 : w3.cell? ⟨q, 2, none⟩ = some (.slice d1 d2 d3) := cell_of_heap hq3 2
      have hbd := fun w => build_seR12 w tc (.slice s1 s2 s3) (.slice d1 d2 d3) ⟨_, _, _, rfl⟩ ⟨_, _, _, rfl⟩
      clear hE3 hq3 v0 v1 v2
      go_upto_region 15 with (first
        | (refine allocSeR12 (by rfl) rfl ?_; intro W4 q4 hat4 hE4 hq4)
        | (refine putSeR12 (by rfl) _ _ rfl rfl rfl hat4.out ⟨_, _, _, rfl⟩ ⟨_, _, _, rfl⟩ ⟨_, _, _, rfl⟩ ?_; intro W5 hat5 hB5))
      have hE5 : Ext w3 W5 := Ext.newQ11 hE4.out (Nat.le_of_eq hq4.out.symm) hB5.out
      have HQ4 := Lib.hid (show W.heap.size ≤ q4 from Nat.le_trans HE3.out.size (Nat.le_of_eq hq4.out.symm))
      have HST := Lib.hid (show IsSe W5 W.heap.size SA xs ⟨c, pparts []⟩ ∧ Ext W W5 ∧ SeRAt12 W5 q4 tc (.slice s1 s2 s3) (.slice d1 d2 d3) (.slice none 0 0) ∧ ¬ SA q4 ∧ Row12s SA (.slice none 0 0) [] W5 from ⟨HS3.out.ext hE5, HE3.out.trans hE5, hat5.out, fun e => by have h1 := (HS3.out.lt q4 e).2; have h2 := hq4.out; omega, ⟨⟨W5.heap.size, World.ownsRow_nil _ _ _ _⟩, fun k hk => by cases hk⟩⟩)
      clear hE5 hat4 hE4 hq4 hat5 hB5 hbd u0 u1 u2
      go_wp2_with fail
      go_loopw [12, 13, 14, 15, 16, 17, 18, 71] (fun _ _ _ _ _ _ _ i wr => ∃ (j : Nat) (SA : Nat → Prop) (pv : Value) (ps : List Part12), j ≤ k ∧ i = .int .i64 j ∧ (∃ a n c, pv = .slice a n c) ∧ Hid (IsSe wr W.heap.size SA xs ⟨c, pparts ps⟩ ∧ Ext W wr ∧ SeRAt12 wr q4 tc (.slice s1 s2 s3) (.slice d1 d2 d3) pv ∧ ¬ SA q4 ∧ Row12s SA pv ps wr ∧ ps.length ≤ j ∧ ∀ p ∈ ps, p ∈ l)) (fun _ _ _ _ _ _ _ i _ => k - (intOf i).toNat)
      case atStart => exact ⟨0, SA, _, [], by omega, rfl, ⟨_, _, _, rfl⟩, Lib.hid ⟨HST.out.1, HST.out.2.1, HST.out.2.2.1, HST.out.2.2.2.1, HST.out.2.2.2.2, Nat.le_refl _, fun p hp => by cases hp⟩⟩
      case round =>
        obtain ⟨j, SA, pv, ps, hj, rfl, ⟨pa, pn, pc, rfl⟩, hJ⟩ := hrel
        by_cases hlt : j < k
        · have hjl : j < l.length := by rw [HNL.out]; exact hlt
          obtain ⟨pb, po, ha, c0, c1⟩ := (HP.out wr hJ.out.2.1).at j hjl
          subst ha
          have hmem : l[j] ∈ l := List.getElem_mem hjl
          have hen : ∀ w', Ext W w' → Ents w' (l[j]).2.1 (l[j]).2.2 := fun w' h => (HP.out w' h).2 l[j] hmem
          have hwf := HF.out l[j] hmem
          have h200 := HL200.out l[j] hmem
          obtain ⟨⟨n, xv, xl⟩, hP⟩ : ∃ z, l[j] = z := ⟨_, rfl⟩
          rw [hP] at c0 c1 hen hwf h200 hmem
          simp only at c0 c1 hen hwf h200
          obtain ⟨x1', x3', rfl, _⟩ := (hen wr hJ.out.2.1).shape
          have HMEM := Lib.hid hmem
          obtain ⟨X, hX⟩ : ∃ z, xl.length = z := ⟨_, rfl⟩
          rw [hX] at c1 hen h200 HMEM
          have HEN := Lib.hid hen
          have HXX := Lib.hid (And.intro hX (And.intro h200 hwf.1))
          have hpsl : ps.length ≤ 20 := by have := hJ.out.2.2.2.2.2.1; have := HN20.out; omega
          have HPSL := Lib.hid hpsl
          have hE6 : Ext wr (wr.alloc (.cells #[.int .i64 n, .slice x1' X x3'] 29)) := Ext.alloc _ _
          have hx6 := heap_alloc_new wr (.cells #[.int .i64 n, .slice x1' X x3'] 29)
          obtain ⟨q6, hq6⟩ : ∃ z, wr.heap.size = z := ⟨_, rfl⟩
          obtain ⟨w6, hw6⟩ : ∃ z, wr.alloc (.cells #[.int .i64 n, .slice x1' X x3'] 29) = z := ⟨_, rfl⟩
          rw [hw6] at hE6 hx6
          rw [hq6] at hx6
          have HW6 := Lib.hid (And.intro hw6 hq6)
          have HX6 := Lib.hid hx6
          have hS6 := hJ.out.1.ext hE6
          have HJ6 := Lib.hid (show IsSe w6 W.heap.size SA xs ⟨c, pparts ps⟩ ∧ Ext W w6 ∧ SeRAt12 w6 q4 tc (.slice s1 s2 s3) (.slice d1 d2 d3) (.slice pa pn pc) ∧ ¬ SA q4 ∧ Row12s SA (.slice pa pn pc) ps w6 from ⟨hS6, hJ.out.2.1.trans hE6, hJ.out.2.2.1.ext hE6, hJ.out.2.2.2.1, hJ.out.2.2.2.2.1.tws (TwS.ext hE6)⟩)
          have HNQ6 := Lib.hid (show ¬ SA q6 from fun e => by have := (hJ.out.1.lt q6 e).2; omega)
          have hL4 := HJ6.out.2.2.1.ld ⟨_, _, _, rfl⟩ ⟨_, _, _, rfl⟩ ⟨_, _, _, rfl⟩
          have g0 : w6.cell? ⟨q6, 0, none⟩ = some (.int .i64 n) := cell_of_heap hx6 0
          have g1 : w6.cell? ⟨q6, 1, none⟩ = some (.slice x1' X x3') := cell_of_heap hx6 1
          clear hP hmem hen hwf h200 hX hpsl hE6 hx6 hS6
          go_upto_region 18 with fail
          clear c0 c1 hw6 hq6
          go_wp2_with (refine ldAny (by rfl) _ rfl rfl hL4 ?_)
          obtain ⟨hcs, hcd⟩ := HC.out w6 HJ6.out.2.1
          have hpts6 : Pts12 w6 (.slice pa pn pc) ps := by
            obtain ⟨b, ho⟩ := HJ6.out.2.2.2.2.own
            exact ⟨SlN.ofOwn ho, fun p hp => (HP.out w6 HJ6.out.2.1).2 p (hJ.out.2.2.2.2.2.2 p hp)⟩
          refine (hearR12_any tc (.slice s1 s2 s3) (.slice d1 d2 d3) (.slice pa pn pc) c ps n (.slice x1' X x3') xl w6 HTC.out hcs hcd hpts6 HJ6.out.1.ok (HEN.out w6 HJ6.out.2.1) (by have := HXX.out; omega) (by have := HPSL.out; omega)).mono ?_
          rintro e w7 ⟨pv', ps', rfl, hcase, hE7⟩
          have hsl' : ∃ a n c, pv' = .slice a n c := by
            rcases hcase with ⟨_, rfl, _⟩ | ⟨_, _, ho⟩
            · exact ⟨_, _, _, rfl⟩
            · obtain ⟨a, n, c, e⟩ := ownSlice ho
              exact ⟨a, n, c, e⟩
          obtain ⟨pa', pn', pc', rfl⟩ := hsl'
          obtain ⟨bh, hbh⟩ : ∃ z, Quo.Se.hears ⟨c, pparts ps⟩ n xl = z := ⟨_, rfl⟩
          rw [hbh] at hcase ⊢
          have hhear : (⟨c, pparts ps⟩ : Quo.Se).hear n xl = ⟨c, pparts ps'⟩ := by
            unfold Quo.Se.hear
            rw [hbh]
            rcases hcase with ⟨h1, _, h2⟩ | ⟨h1, h2, _⟩
            · rw [h2, h1]; rfl
            · rw [h2, h1]
              simp [pparts]
          have hrow7 : Row12s SA (.slice pa' pn' pc') ps' w7 := by
            rcases hcase with ⟨h1, h2, _⟩ | ⟨_, _, ho⟩
            · rw [h1, h2]; exact HJ6.out.2.2.2.2.tws (TwS.ext hE7)
            · exact ⟨⟨_, ho⟩, fun k hk e => by have h1 := (HJ6.out.1.lt k e).2; have h2 := (ho.lt k hk).1; omega⟩
          have HR7 := Lib.hid (show Row12s SA (.slice pa' pn' pc') ps' w7 ∧ ps'.length ≤ j + 1 ∧ ∀ p ∈ ps', p ∈ l from ⟨hrow7, by
            have h0 := hJ.out.2.2.2.2.2.1
            rcases hcase with ⟨h1, _⟩ | ⟨h1, _⟩
            · rw [h1]; omega
            · rw [h1, List.length_append]; simp; omega, fun p hp => by
            rcases hcase with ⟨h1, _⟩ | ⟨h1, _⟩
            · rw [h1] at hp; exact hJ.out.2.2.2.2.2.2 p hp
            · rw [h1] at hp
              rcases List.mem_append.1 hp with hp | hp
              · exact hJ.out.2.2.2.2.2.2 p hp
              · obtain rfl := List.mem_singleton.1 hp
                exact HMEM.out⟩)
          have HHE := Lib.hid (And.intro hbh hhear)
          have HJ7 := Lib.hid (show IsSe w7 W.heap.size SA xs ⟨c, pparts ps⟩ ∧ Ext W w7 ∧ SeRAt12 w7 q4 tc (.slice s1 s2 s3) (.slice d1 d2 d3) (.slice pa pn pc) from ⟨HJ6.out.1.ext hE7, HJ6.out.2.1.trans hE7, HJ6.out.2.2.1.ext hE7⟩)
          have HX7 := Lib.hid (heap_ext HX6.out hE7)
          clear hcase hbh hhear hrow7 hE7 hL4 hpts6 hcs hcd g0 g1
          go_upto_region 20 with (first
            | (refine allocSeR12 (by rfl) rfl ?_; intro W8 q8 hat8 hE8 hq8)
            | (refine putSeR12 (by rfl) _ _ rfl rfl rfl hat8.out ⟨_, _, _, rfl⟩ ⟨_, _, _, rfl⟩ ⟨_, _, _, rfl⟩ ?_; intro W9 hat9 hB9; have hE9 := Lib.hid (Ext.newQ11 hE8.out (Nat.le_of_eq hq8.out.symm) hB9.out); have hl9 := hat9.out.ld ⟨_, _, _, rfl⟩ ⟨_, _, _, rfl⟩ ⟨_, _, _, rfl⟩; have h49 := HJ7.out.2.2.ext hE9.out)
            | (refine ldAny (by rfl) _ rfl rfl hl9 ?_)
            | (refine putSeR12 (by rfl) _ _ rfl rfl rfl h49 ⟨_, _, _, rfl⟩ ⟨_, _, _, rfl⟩ ⟨_, _, _, rfl⟩ ?_; intro W10 hat10 hB10))
          have hq4lt : W.heap.size ≤ q4 := HQ4.out
          have hS10 : IsSe W10 W.heap.size SA xs ⟨c, pparts ps⟩ := (HJ7.out.1.ext hE9.out).keep hB10.out.size fun k hk hs => hB10.out.block k hk (fun e => hJ.out.2.2.2.1 (e ▸ hs))
          have hE10 : Ext W W10 := Ext.newQ11 (HJ7.out.2.1.trans hE9.out) hq4lt hB10.out
          have hrow10 : Row12s SA (.slice pa' pn' pc') ps' W10 := by
            have h1 := HR7.out.1.tws (TwS.ext hE9.out)
            obtain ⟨b, ho⟩ := h1.own
            exact ⟨⟨b, rowOwn ho fun k hk => hB10.out.block k (ho.lt k hk).2 (fun e => by
              obtain ⟨cur, hcur⟩ := ownAt ho hk
              rw [e, h49] at hcur
              injection hcur with hcur
              injection hcur with _ e2 _
              exact absurd e2 (by decide))⟩, h1.out⟩
          have hx10 : W10.heap[q6]? = some (.cells #[.int .i64 n, .slice x1' X x3'] 29 (0, 0)) := (hB10.out.block q6 (Array.getElem?_eq_some_iff.1 (heap_ext HX7.out hE9.out)).1 (fun e => by
              have h1 := heap_ext HX7.out hE9.out
              rw [e, h49] at h1
              injection h1 with h1
              injection h1 with _ e2 _
              exact absurd e2 (by decide))).trans (heap_ext HX7.out hE9.out)
          have HJ10 := Lib.hid (And.intro hS10 (And.intro hE10 (And.intro hat10.out (And.intro hrow10 hx10))))
          clear hq4lt hS10 hE10 hrow10 hx10 hat8 hE8 hq8 hat9 hB9 hE9 hl9 h49 hat10 hB10
          obtain ⟨qs, hqs, hfl, hqi⟩ := flat_of_ents (HEN.out W (Ext.refl W))
          have hql : qs.length = X := by rw [← HXX.out.1, ← hqs, List.length_map]
          have HQS := Lib.hid (And.intro hqs hql)
          have HFL := Lib.hid (show ∀ w', Ext W w' → SlN 6 w' (.slice x1' X x3') qs.length (entFlat qs) ∧ ∀ q ∈ qs, Ints w' q.1 q.2.cut from fun w' h => ⟨SlN.below hfl h, fun q hq => (hqi q hq).below h⟩)
          clear hqs hfl hqi hql
          obtain ⟨wt, hwt⟩ : ∃ z, z = W10 := ⟨_, rfl⟩
          subst hwt
          have hxt : ∀ wy, TwS SA wt wy → Ext W wy := fun wy h => extOf12 HJ10.out.2.1 h (fun k hk => (HJ10.out.1.lt k hk).1)
          have HXT := Lib.hid hxt
          have HCELL := Lib.hid (show ∀ wy, TwS SA wt wy → wy.heap[q6]? = some (.cells #[.int .i64 n, .slice x1' X x3'] 29 (0, 0)) ∧ SeRAt12 wy q4 tc (.slice s1 s2 s3) (.slice d1 d2 d3) (.slice pa' pn' pc') from fun wy h => ⟨(h.block q6 (Array.getElem?_eq_some_iff.1 HJ10.out.2.2.2.2).1 HNQ6.out).trans HJ10.out.2.2.2.2, (h.block q4 (Array.getElem?_eq_some_iff.1 HJ10.out.2.2.1).1 hJ.out.2.2.2.1).trans HJ10.out.2.2.1⟩)
          have HSR := Lib.hid (show ∀ wy, TwS SA wt wy → IsSeR12 wy (.agg #[.int .i64 tc, .slice s1 s2 s3, .slice d1 d2 d3, .slice pa' pn' pc']) c ps' from fun wy h => by
            obtain ⟨b, ho⟩ := (HJ10.out.2.2.2.1.tws h).own
            obtain ⟨h1, h2⟩ := HC.out wy (hxt wy h)
            exact ⟨_, _, _, by rw [HTC.out], h1, h2, SlN.ofOwn ho, fun p hp => (HP.out wy (hxt wy h)).2 p (HR7.out.2.2 p hp)⟩)
          obtain ⟨bd, hbd⟩ : ∃ z, Quo.Se.done ⟨c, pparts ps'⟩ = z := ⟨_, rfl⟩
          have HBD := Lib.hid hbd
          clear hxt hbd
          go_upto_region 20 with fail
          refine wp_region_marked (by kernel_rfl) Ext (TwS SA) (fun iop v w => match iop with
              | 0 => v = .pointer (some ⟨xs, 0, none⟩)
              | 1 => v = .pointer (some ⟨q6, 0, none⟩)
              | 2 => v = .int .i64 n
              | 3 => v = .pointer (some ⟨q6, 1, none⟩)
              | 4 => v = .slice x1' X x3'
              | 5 => (∃ a n c, v = .slice a n c) ∧ w.ownsRow wt.heap.size 74 6 v qs.length (entFlat qs)
              | 6 => v = .bool bh
              | 7 => v = .bool bh
              | 8 => v = .bool false
              | 9 => v = .bool false
              | 10 => v = .pointer (some ⟨xs, 0, none⟩)
              | 11 => v = .bool bd
              | 12 => v = .agg #[.int .i64 tc, .slice s1 s2 s3, .slice d1 d2 d3, .slice pa' pn' pc']
              | 13 => v = .bool bd
              | 14 => v = .bool false
              | _ => v = .bool false
              ) [6] (fun n w => Ext W w ∧ if n = 0 then IsSe w W.heap.size SA xs ⟨c, pparts ps⟩ else LeavesSe W.heap.size SA xs wt ⟨c, pparts ps'⟩ w) (by kernel_rfl) (fun _ _ _ h k => TwS.trans h k) (fun a => Ext.refl a) (fun _ _ h => TwS.ext h) (fun n _ _ h hs => ⟨hs.1.trans h, by cases n with | zero => exact IsSe.ext hs.2 h | succ n => exact LeavesSe.ext hs.2 h⟩) (Ext.drew _) ⟨HJ10.out.2.1, HJ10.out.1⟩ ?_ ?_ ?_ ?_
          · intro iop v wa wb hF hL
            iterate 5 (rcases iop with _ | iop; exact hF)
            rcases iop with _ | iop; (first | exact hF | exact (⟨hF.1, rowOwn hF.2 fun k hk => hL.block k (hF.2.lt k hk).2 (fun e => by have h1 := (HJ10.out.1.lt k e).2; have h2 := (hF.2.lt k hk).1; omega)⟩))
            iterate 9 (rcases iop with _ | iop; exact hF)
            exact hF
          · refine Obls2.cons ?_ (Obls2.cons ?_ (Obls2.cons ?_ (Obls2.cons ?_ (Obls2.cons ?_ (Obls2.cons ?_ (Obls2.cons ?_ (Obls2.cons ?_ (Obls2.cons ?_ (Obls2.cons ?_ (Obls2.cons ?_ (Obls2.cons ?_ (Obls2.cons ?_ (Obls2.cons ?_ (Obls2.cons ?_ (Obls2.cons ?_ (Obls2.nil))))))))))))))))
            · intro ev wy ls hp hl hS hbh hk hd
              rw [if_neg (by decide)]
              have hc6 : ls 6 = false := Bool.eq_false_iff.2 fun hq => absurd (hbh.closed 6 _ rfl (hq) 0 (by decide)) (by rw [hbh.notyet]; decide)
              have hst := hS
              rw [show stage [6] ls = 0 from by simp [stage, List.filter, hc6]] at hst
              clear hc6 hS hbh
              have e8 : ev (.tmp 8) = .pointer (some ⟨xs, 0, none⟩) := hk 8 (by decide)
              clear hk hd
              exact Yield.mv rfl ⟨Ext.refl _, e8⟩
            · intro ev wy ls hp hl hS hbh hk hd
              rw [if_neg (by decide)]
              have hc6 : ls 6 = false := Bool.eq_false_iff.2 fun hq => absurd (hbh.closed 2 _ rfl (hbh.closed 6 _ rfl (hq) 2 (by decide)) 1 (by decide)) (by rw [hbh.notyet]; decide)
              have hst := hS
              rw [show stage [6] ls = 0 from by simp [stage, List.filter, hc6]] at hst
              clear hc6 hS hbh
              have e12 : ev (.tmp 12) = .pointer (some ⟨q6, 0, none⟩) := hk 12 (by decide)
              clear hk hd
              exact Yield.op (v := .pointer (some ⟨q6, 0, none⟩)) (w' := wy) (by simp [execOp, go_sem, e12]) ⟨Ext.refl _, rfl⟩
            · intro ev wy ls hp hl hS hbh hk hd
              rw [if_neg (by decide)]
              have hc6 : ls 6 = false := Bool.eq_false_iff.2 fun hq => absurd (hbh.closed 6 _ rfl (hq) 2 (by decide)) (by rw [hbh.notyet]; decide)
              have hst := hS
              rw [show stage [6] ls = 0 from by simp [stage, List.filter, hc6]] at hst
              clear hc6 hS hbh
              have e83 : ev (.tmp 83) = .pointer (some ⟨q6, 0, none⟩) := hk 83 (by decide)
              clear hk hd
              exact Yield.load rfl e83 (by simp [go_sem, cell_of_heap (HCELL.out wy hl).1 0]) ⟨Ext.refl _, rfl⟩
            · intro ev wy ls hp hl hS hbh hk hd
              rw [if_neg (by decide)]
              have hc6 : ls 6 = false := Bool.eq_false_iff.2 fun hq => absurd (hbh.closed 4 _ rfl (hbh.closed 5 _ rfl (hbh.closed 6 _ rfl (hq) 5 (by decide)) 4 (by decide)) 3 (by decide)) (by rw [hbh.notyet]; decide)
              have hst := hS
              rw [show stage [6] ls = 0 from by simp [stage, List.filter, hc6]] at hst
              clear hc6 hS hbh
              have e12 : ev (.tmp 12) = .pointer (some ⟨q6, 0, none⟩) := hk 12 (by decide)
              clear hk hd
              exact Yield.op (v := .pointer (some ⟨q6, 1, none⟩)) (w' := wy) (by simp [execOp, go_sem, e12]) ⟨Ext.refl _, rfl⟩
            · intro ev wy ls hp hl hS hbh hk hd
              rw [if_neg (by decide)]
              have hc6 : ls 6 = false := Bool.eq_false_iff.2 fun hq => absurd (hbh.closed 5 _ rfl (hbh.closed 6 _ rfl (hq) 5 (by decide)) 4 (by decide)) (by rw [hbh.notyet]; decide)
              have hst := hS
              rw [show stage [6] ls = 0 from by simp [stage, List.filter, hc6]] at hst
              clear hc6 hS hbh
              have e85 : ev (.tmp 85) = .pointer (some ⟨q6, 1, none⟩) := hk 85 (by decide)
              clear hk hd
              exact Yield.load rfl e85 (by simp [go_sem, cell_of_heap (HCELL.out wy hl).1 1]) ⟨Ext.refl _, rfl⟩
            · intro ev wy ls hp hl hS hbh hk hd
              rw [if_neg (by decide)]
              have hc6 : ls 6 = false := Bool.eq_false_iff.2 fun hq => absurd (hbh.closed 6 _ rfl (hq) 5 (by decide)) (by rw [hbh.notyet]; decide)
              have hst := hS
              rw [show stage [6] ls = 0 from by simp [stage, List.filter, hc6]] at hst
              clear hc6 hS hbh
              have e86 : ev (.tmp 86) = .slice x1' X x3' := hk 86 (by decide)
              clear hk hd
              refine Yield.call rfl hp Try.func14 rfl (by kernel_rfl) ?_
              simp only [List.map_toArray, List.map_cons, List.map_nil, e86]
              exact ((show Calls Try.prog 14 #[.slice x1' X x3'] wy fun e w' => ∃ u, e = .returned u ∧ Ext wy w' ∧ ((∃ a n c, u = .slice a n c) ∧ w'.ownsRow wt.heap.size 74 6 u qs.length (entFlat qs)) from (mine12l_any _ qs wy (HFL.out wy (HXT.out wy hl)).1 (HFL.out wy (HXT.out wy hl)).2 (by rw [HQS.out.2]; have := HXX.out; omega)).mono fun e w' ⟨u, h1, h2, h3⟩ => ⟨u, h1, h3, ownSlice h2, rowLower h2 hl.size⟩)).mono fun _ _ ⟨u, he, hb, hu⟩ => ⟨u, he, hb, hu⟩
            · intro ev wy ls hp hl hS hbh hk hd
              rw [if_pos (by decide)]
              have hc6 : ls 6 = false := hbh.notyet
              have hst := hS
              rw [show stage [6] ls = 0 from by simp [stage, List.filter, hc6]] at hst
              have hup : stage [6] (upd ls 6) = 1 := by simp [stage, List.filter, upd, hc6]
              clear hc6 hS hbh
              have e82 : ev (.tmp 82) = .pointer (some ⟨xs, 0, none⟩) := hk 82 (by decide)
              have e84 : ev (.tmp 84) = .int .i64 n := hk 84 (by decide)
              have f87 : (fun (v : Value) (w : World) => (∃ a n c, v = .slice a n c) ∧ w.ownsRow wt.heap.size 74 6 v qs.length (entFlat qs)) (ev (.tmp 87)) wy := hk 87 (by decide)
              generalize hx87 : ev (.tmp 87) = x87 at *
              clear hk hd
              obtain ⟨f87a, f87b⟩ := f87
              refine Yield.call rfl hp Try.func13 rfl (by kernel_rfl) ?_
              simp only [List.map_toArray, List.map_cons, List.map_nil, e82, e84, hx87]
              refine (heardS12_any hst.2 n HXX.out.2.2 x87 qs (by rw [HQS.out.2]; have := HXX.out; omega) (fun w' ht => ⟨SlN.ofOwn (rowOwn f87b fun k hk => ht.block k (f87b.lt k hk).2 (fun e => by have h1 := (HJ10.out.1.lt k e).2; have h2 := (f87b.lt k hk).1; omega)), fun q hq => (HFL.out w' (HXT.out w' (hl.trans ht))).2 q hq⟩)).mono ?_
              rw [HQS.out.1]
              unfold GivesHeardS12
              rw [HHE.out.1, HHE.out.2]
              rintro e w' ⟨he, hlv⟩
              have hlv2 : LeavesSe W.heap.size SA xs wt ⟨c, pparts ps'⟩ w' := by
                obtain ⟨S', h1, h2, h3⟩ := hlv
                exact ⟨S', h1, hl.trans h2, fun k hk => h3 k (Nat.lt_of_lt_of_le hk hl.size)⟩
              exact ⟨_, he, (by obtain ⟨S', h1, h2, h3⟩ := hlv; exact h2), rfl, by rw [hup]; exact ⟨HXT.out w' (by obtain ⟨S', h1, h2, h3⟩ := hlv2; exact h2), hlv2⟩⟩
            · intro ev wy ls hp hl hS hbh hk hd
              rw [if_neg (by decide)]
              clear hS hbh
              have e14 : ev (.tmp 14) = .bool bh := hk 14 (by decide)
              clear hk hd
              exact Yield.mv rfl ⟨Ext.refl _, e14⟩
            · intro ev wy ls hp hl hS hbh hk hd
              rw [if_neg (by decide)]
              have hc6 : ls 6 = true := hbh.ready 6 (by decide)
              have hst := hS
              rw [show stage [6] ls = 1 from by simp [stage, List.filter, hc6]] at hst
              clear hc6 hS hbh
              have e88 : ev (.tmp 88) = .bool bh := hk 88 (by decide)
              have e89 : ev (.tmp 89) = .bool bh := hk 89 (by decide)
              clear hk hd
              exact Yield.op (v := .bool false) (w' := wy) (by simp [execOp, go_sem, e88, e89]) ⟨Ext.refl _, rfl⟩
            · intro ev wy ls hp hl hS hbh hk hd
              rw [if_neg (by decide)]
              have hc6 : ls 6 = true := hbh.ready 6 (by decide)
              have hst := hS
              rw [show stage [6] ls = 1 from by simp [stage, List.filter, hc6]] at hst
              clear hc6 hS hbh
              have e90 : ev (.tmp 90) = .bool false := hk 90 (by decide)
              clear hk hd
              exact Yield.mv rfl ⟨Ext.refl _, e90⟩
            · intro ev wy ls hp hl hS hbh hk hd
              rw [if_neg (by decide)]
              have hc6 : ls 6 = true := hbh.closed 9 _ rfl (hbh.ready 9 (by decide)) 6 (by decide)
              have hst := hS
              rw [show stage [6] ls = 1 from by simp [stage, List.filter, hc6]] at hst
              clear hc6 hS hbh
              have e8 : ev (.tmp 8) = .pointer (some ⟨xs, 0, none⟩) := hk 8 (by decide)
              clear hk
              refine ⟨fun _ _ _ => ?_, fun _ hx hne => absurd hx hne⟩
              clear hd
              exact Yield.mv rfl ⟨Ext.refl _, e8⟩
            · intro ev wy ls hp hl hS hbh hk hd
              rw [if_neg (by decide)]
              have hc6 : ls 6 = true := hbh.closed 9 _ rfl (hbh.ready 9 (by decide)) 6 (by decide)
              have hst := hS
              rw [show stage [6] ls = 1 from by simp [stage, List.filter, hc6]] at hst
              clear hc6 hS hbh
              have e92 : ev (.tmp 92) = .pointer (some ⟨xs, 0, none⟩) := hk 92 (by decide)
              clear hk
              refine ⟨fun _ _ _ => ?_, fun _ hx hne => absurd hx hne⟩
              clear hd
              refine Yield.call rfl hp Try.func15 rfl (by kernel_rfl) ?_
              simp only [List.map_toArray, List.map_cons, List.map_nil, e92]
              obtain ⟨SX, hSX, _⟩ := hst.2
              refine (done12_any hSX).mono ?_
              rw [HBD.out]
              exact fun e w' ⟨he, hb⟩ => ⟨_, he, hb, rfl⟩
            · intro ev wy ls hp hl hS hbh hk hd
              rw [if_neg (by decide)]
              have hc6 : ls 6 = true := hbh.closed 9 _ rfl (hbh.ready 9 (by decide)) 6 (by decide)
              have hst := hS
              rw [show stage [6] ls = 1 from by simp [stage, List.filter, hc6]] at hst
              clear hc6 hS hbh
              have e10 : ev (.tmp 10) = .pointer (some ⟨q4, 0, none⟩) := hk 10 (by decide)
              clear hk
              refine ⟨fun _ _ _ => ?_, fun _ hx hne => absurd hx hne⟩
              clear hd
              exact Yield.load rfl e10 ((HCELL.out wy hl).2.ld ⟨_, _, _, rfl⟩ ⟨_, _, _, rfl⟩ ⟨_, _, _, rfl⟩) ⟨Ext.refl _, rfl⟩
            · intro ev wy ls hp hl hS hbh hk hd
              rw [if_neg (by decide)]
              have hc6 : ls 6 = true := hbh.closed 9 _ rfl (hbh.ready 9 (by decide)) 6 (by decide)
              have hst := hS
              rw [show stage [6] ls = 1 from by simp [stage, List.filter, hc6]] at hst
              clear hc6 hS hbh
              have e94 : ev (.tmp 94) = .agg #[.int .i64 tc, .slice s1 s2 s3, .slice d1 d2 d3, .slice pa' pn' pc'] := hk 94 (by decide)
              clear hk
              refine ⟨fun _ _ _ => ?_, fun _ hx hne => absurd hx hne⟩
              clear hd
              refine Yield.call rfl hp Try.func16 rfl (by kernel_rfl) ?_
              simp only [List.map_toArray, List.map_cons, List.map_nil, e94]
              refine (doneR12_any _ c ps' wy (HSR.out wy hl) HR.out).mono ?_
              rw [HBD.out]
              exact fun e w' ⟨he, hb⟩ => ⟨_, he, hb, rfl⟩
            · intro ev wy ls hp hl hS hbh hk hd
              rw [if_neg (by decide)]
              have hc6 : ls 6 = true := hbh.closed 9 _ rfl (hbh.ready 9 (by decide)) 6 (by decide)
              have hst := hS
              rw [show stage [6] ls = 1 from by simp [stage, List.filter, hc6]] at hst
              clear hc6 hS hbh
              have e93 : ev (.tmp 93) = .bool bd := hk 93 (by decide)
              have e95 : ev (.tmp 95) = .bool bd := hk 95 (by decide)
              clear hk
              refine ⟨fun _ _ _ => ?_, fun _ hx hne => absurd hx hne⟩
              clear hd
              exact Yield.op (v := .bool false) (w' := wy) (by simp [execOp, go_sem, e93, e95]) ⟨Ext.refl _, rfl⟩
            · intro ev wy ls hp hl hS hbh hk hd
              rw [if_neg (by decide)]
              have hc6 : ls 6 = true := hbh.closed 9 _ rfl (hbh.ready 9 (by decide)) 6 (by decide)
              have hst := hS
              rw [show stage [6] ls = 1 from by simp [stage, List.filter, hc6]] at hst
              clear hc6 hS hbh
              have e91 : ev (.tmp 91) = .bool false := hk 91 (by decide)
              have e96 : ev (.tmp 96) = .bool false := hk 96 (by decide)
              clear hk hd
              exact Yield.pick (t := false) rfl e91 ⟨Ext.refl _, e96⟩
          · decide
          · intro vals wz hz hS hv
            have g82 : vals 0 = .pointer (some ⟨xs, 0, none⟩) := hv 0 (by decide)
            have g83 : vals 1 = .pointer (some ⟨q6, 0, none⟩) := hv 1 (by decide)
            have g84 : vals 2 = .int .i64 n := hv 2 (by decide)
            have g85 : vals 3 = .pointer (some ⟨q6, 1, none⟩) := hv 3 (by decide)
            have g86 : vals 4 = .slice x1' X x3' := hv 4 (by decide)
            have g87 : (fun (v : Value) (w : World) => (∃ a n c, v = .slice a n c) ∧ w.ownsRow wt.heap.size 74 6 v qs.length (entFlat qs)) (vals 5) wz := hv 5 (by decide)
            have g88 : vals 6 = .bool bh := hv 6 (by decide)
            have g89 : vals 7 = .bool bh := hv 7 (by decide)
            have g90 : vals 8 = .bool false := hv 8 (by decide)
            have g91 : vals 9 = .bool false := hv 9 (by decide)
            have g92 : vals 10 = .pointer (some ⟨xs, 0, none⟩) := hv 10 (by decide)
            have g93 : vals 11 = .bool bd := hv 11 (by decide)
            have g94 : vals 12 = .agg #[.int .i64 tc, .slice s1 s2 s3, .slice d1 d2 d3, .slice pa' pn' pc'] := hv 12 (by decide)
            have g95 : vals 13 = .bool bd := hv 13 (by decide)
            have g96 : vals 14 = .bool false := hv 14 (by decide)
            have g97 : vals 15 = .bool false := hv 15 (by decide)
            clear hv
            simp only [putAll, Act.put, List.setIfInBounds_toArray, List.set_cons_zero, List.set_cons_succ, g82, g83, g84, g85, g86, g88, g89, g90, g91, g92, g93, g94, g95, g96, g97]
            clear g82
            clear g83
            clear g84
            clear g85
            clear g86
            generalize vals 5 = v87 at *
            clear g88
            clear g89
            clear g90
            clear g91
            clear g92
            clear g93
            clear g94
            clear g95
            clear g96
            clear g97
            have hS2 : Ext W wz ∧ LeavesSe W.heap.size SA xs wt ⟨c, pparts ps'⟩ wz := ⟨hS.1, by simpa using hS.2⟩
            obtain ⟨SB, hSB, _, hsB⟩ := hS2.2
            obtain ⟨b9, ho9⟩ := HJ10.out.2.2.2.1.own
            have HJZ := Lib.hid (show IsSe wz W.heap.size SB xs ⟨c, pparts ps'⟩ ∧ Ext W wz ∧ SeRAt12 wz q4 tc (.slice s1 s2 s3) (.slice d1 d2 d3) (.slice pa' pn' pc') ∧ ¬ SB q4 ∧ Row12s SB (.slice pa' pn' pc') ps' wz ∧ ps'.length ≤ j + 1 ∧ ∀ p ∈ ps', p ∈ l from ⟨hSB, hS2.1, (HCELL.out wz hz).2, fun e => hJ.out.2.2.2.1 (hsB q4 (Array.getElem?_eq_some_iff.1 HJ10.out.2.2.1).1 e), (HJ10.out.2.2.2.1.tws hz).step (fun k hk => (ho9.lt k hk).2) hsB, HR7.out.2.1, HR7.out.2.2⟩)
            have HSZ := Lib.hid (HSR.out wz hz)
            clear hS hS2 hSB hsB ho9 hz g87
            obtain ⟨L0, hL0⟩ : ∃ z, orNil12 bd (Quo.Se.long ⟨c, pparts ps'⟩) = z := ⟨_, rfl⟩
            have HL0 := Lib.hid hL0
            clear hL0
            go_wp2_with fail
            refine (tail12_any HJZ.out.1).mono ?_
            rw [HBD.out, HL0.out]
            rintro e w11 ⟨ut, qt, rfl, hE11, hrowt, hqst, hqt⟩
            obtain ⟨ta, tn, tk, rfl⟩ := ownSlice hrowt
            have HT := Lib.hid (show ∀ w', Ext w11 w' → SlN 6 w' (.slice ta tn tk) qt.length (entFlat qt) ∧ ∀ q ∈ qt, Ints w' q.1 q.2.cut from fun w' h => ⟨SlN.below (SlN.ofOwn hrowt) h, fun q hq => Sl.below (hqt q hq).row.ints h⟩)
            have HQT := Lib.hid (show qt.map (·.2) = L0 ∧ qt.length ≤ 13107 from ⟨hqst, by
              have h1 := congrArg List.length hqst
              rw [List.length_map] at h1
              obtain ⟨kb, sv, ev, es, hh⟩ := HJZ.out.1
              have h2 := hh.short
              have h3 := HL0.out
              cases bd with
              | true => simp only [orNil12] at h3; rw [h1, ← h3]; exact h2
              | false => simp only [orNil12] at h3; rw [h1, ← h3]; simp⟩)
            have HE11 := Lib.hid hE11
            have hl11 := (HJZ.out.2.2.1.ext hE11).ld ⟨_, _, _, rfl⟩ ⟨_, _, _, rfl⟩ ⟨_, _, _, rfl⟩
            clear hE11 hrowt hqst hqt
            go_wp2_with (refine ldAny (by rfl) _ rfl rfl hl11 ?_)
            refine (tailR12_any _ c ps' w11 (HSZ.out.below HE11.out) HR.out).mono ?_
            rw [HBD.out, HL0.out]
            rintro e w12 ⟨ur, rfl, hur, hE12⟩
            have HUR := Lib.hid hur
            obtain ⟨ra, rk, hre, _⟩ := hur.shape
            subst hre
            have HE12 := Lib.hid (HE11.out.trans hE12)
            have HT12 := Lib.hid (HT.out w12 hE12)
            clear hur hE12 hl11
            go_wp2_with fail
            refine (entries12l_any _ qt w12 HT12.out.1 HT12.out.2 HQT.out.2).mono ?_
            rintro e w13 ⟨ue, rfl, hrowe, hE13⟩
            have hente : Ents w13 ue L0 := by
              have h1 := ents_of_flat (fun q hq => Sl.below (HT12.out.2 q hq) hE13) (SlN.ofOwn hrowe)
              rw [HQT.out.1] at h1
              exact h1
            obtain ⟨ea, en, ec, rfl⟩ := ownSlice hrowe
            have HEE := Lib.hid (And.intro hente (HUR.out.below hE13))
            have HE13 := Lib.hid (HE12.out.trans hE13)
            clear hente hrowe hE13
            go_wp2_with fail
            refine (refSameAll11 _ _ L0 w13 HEE.out.1 HEE.out.2).mono ?_
            rintro e w14 ⟨rfl, hE14⟩
            have hE14' := HE13.out.trans hE14
            have HNX := Lib.hid (show IsSe w14 W.heap.size SB xs ⟨c, pparts ps'⟩ ∧ Ext W w14 ∧ SeRAt12 w14 q4 tc (.slice s1 s2 s3) (.slice d1 d2 d3) (.slice pa' pn' pc') ∧ ¬ SB q4 ∧ Row12s SB (.slice pa' pn' pc') ps' w14 ∧ ps'.length ≤ j + 1 ∧ ∀ p ∈ ps', p ∈ l from ⟨HJZ.out.1.ext hE14', HJZ.out.2.1.trans hE14', HJZ.out.2.2.1.ext hE14', HJZ.out.2.2.2.1, HJZ.out.2.2.2.2.1.tws (TwS.ext hE14'), HJZ.out.2.2.2.2.2⟩)
            clear hE14 hE14'
            have hbb : (bd != bd) = false := by simp
            go_wp2_with fail
            go_roundw
            case rel => exact ⟨j + 1, SB, _, ps', by omega, by go_num, ⟨_, _, _, rfl⟩, HNX⟩
            case measure => simp [intOf]; omega
        · obtain rfl : j = k := by omega
          have HEF := Lib.hid (HE0.out.trans hJ.out.2.1)
          go_wp2_with fail
          refine (alive12_any _).mono ?_
          rintro e wA ⟨rfl, hEA⟩
          have HEA := Lib.hid (Ext.trans HEF.out hEA)
          clear hEA
          go_wp2_with fail
          go_ret
          exact ⟨rfl, HEA.out⟩
namespace quorumSeals
theorem own : ownKnob Try.prog.godebug = none := by kernel_rfl
theorem laidOut : laidOutB Try.prog = true := by kernel_rfl
set_option linter.unusedVariables false in
set_option maxRecDepth 100000 in
theorem lifted (os : Os) (started : os.Started) (H : Type) (enc : TypeId × Value → H) :
    ReturnsInHanded {} Try.checked os 3 .any (Rows.quorumSealsSpec.pre6 enc Try.prog Try.f3 Rows.quorumSealsRow.domain false) (Rows.quorumSealsSpec.post enc Try.prog Try.f3 false true false false) := by
  refine returnsInHanded_of_change_sized (C := Try.checked) own started (by kernel_rfl) Try.func3
    (ChangeSpec.witness6 (enc := enc) (C := Try.checked) false ⟨#[], #[.agg #[.int .i64 0, .slice none 0 0, .slice none 0 0], .slice none 0 0], []⟩ 8 (by kernel_rfl) (by kernel_rfl) (by kernel_rfl) (by kernel_rfl)) ?_
  intro W base args ds gs before hval0 hW hcnd hsz _
  have hval : ∀ (j : Nat) t v, Try.f3.params[j]? = some t → args[j]? = some v → Value.okWide Try.prog W .any base t v := hval0
  have hW' := hW
  obtain ⟨p, q, hA0, hV, rfl, hfz, hnd⟩ := hW'
  have hA : DataW.TrodAll enc Try.prog W 0 (fun _ => true) true Try.f3.params.toList args.toList ds p := hA0
  rw [Try.params3] at hA hval
  obtain ⟨v0, vs0, d0, ds0, p0, q0, hargs, rfl, rfl, h0, r0⟩ := trodAll_cons hA
  obtain ⟨v1, vs1, d1, ds1, p1, q1, rfl, rfl, rfl, h1, r1⟩ := trodAll_cons r0
  obtain ⟨rfl, rfl, rfl⟩ := trodAll_nil r1
  obtain rfl : args = #[v0, v1] := by cases args; simp_all
  obtain ⟨rfl, rfl⟩ := trodVars_none hV
  have k0 := h0
  have lt0 : ∀ x ∈ p0, x.block < W.heap.size := by obtain ⟨m, hm⟩ := k0; exact DataW.trod_lt m _ _ _ hm
  obtain ⟨l0, w0⟩ := conf_arg (hval 0 25 v0 rfl rfl) h0
  have k1 := h1
  have lt1 : ∀ x ∈ p1, x.block < W.heap.size := by obtain ⟨m, hm⟩ := k1; exact DataW.trod_lt m _ _ _ hm
  obtain ⟨a1, len1, cap1, rfl⟩ := okWide_slice Try.underlying26 (hval 1 26 v1 rfl rfl)
  obtain ⟨l1, w1, f1⟩ : ∃ l, Pts12 W (.slice a1 len1 cap1) l ∧ ∀ o ∈ l, Wf64 o.1 ∧ o.2.2.length ≤ 140737488351232 := by
    obtain ⟨fuel, hf⟩ := h1
    obtain ⟨v, l, hcs, hb, hft⟩ := parts12_of_raw (x := (d1, p1)) hf (fun m hm => of_decide_eq_true (List.all_eq_true.1 hsz _ (DataW.weights_mem_each (j := 1) (by rw [Try.params3]; rfl) rfl m hm)))
    simp [Value.cells] at hcs
    subst hcs
    exact ⟨l, hb, hft⟩
  clear hA0 hval0
  refine (quorumSeals_walk _ l0 a1 len1 cap1 l1 W w0 w1 f1).mono fun e W' ⟨he, bel⟩ => ?_
  subst he
  exact ⟨_, rfl, _, _, _, [], _, [], hW, trodAll_mk1 (shut_bool Try.underlying4 _), (trodAll_cons_mk (Below.trod laidOut (by kernel_rfl) (of_decide_eq_true (by kernel_rfl)) k0 bel lt0) (trodAll_cons_mk (Below.trod laidOut (by kernel_rfl) (of_decide_eq_true (by kernel_rfl)) k1 bel lt1) trodAll_mk0)), rfl, bel.frame _, fun h => by cases h⟩
theorem over : Rows.quorumSealsRow.holds Try.pinned (OpenSpec.ofChange Rows.quorumSealsSpec) :=
  OpenClaim.holds_of_wide 3 Try.f3 rfl rfl rfl rfl rfl rfl rfl ⟨rfl, rfl, rfl, rfl, rfl⟩ rfl rfl rfl rfl rfl (by kernel_rfl) Try.func3 (by kernel_rfl)
    (of_decide_eq_true (by kernel_rfl)) (by unfold Func.isWrapper; first | (rw [if_pos (by decide +kernel)]; kernel_rfl) | (rw [if_neg (by decide +kernel)]; exact ⟨rfl, rfl⟩))
    (fun os started H enc _ => lifted os started H enc)
theorem proved : Rows.QuorumSealsSaid := over
end quorumSeals
end Go.Proofs.Ytnoeconcpgdjlaa
