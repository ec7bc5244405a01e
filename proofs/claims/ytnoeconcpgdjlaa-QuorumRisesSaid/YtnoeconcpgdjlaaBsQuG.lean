/-
  Merged: Layer 12: next.
-/
import Derived.Test.YtnoeconcpgdjlaaBsEnt
import Derived.Test.YtnoeconcpgdjlaaBsQuF
import Derived.Test.YtnoeconcpgdjlaaBsQuG0

namespace Go.Proofs.Ytnoeconcpgdjlaa
set_option linter.unusedSimpArgs false
set_option linter.unusedVariables false
set_option maxRecDepth 100000
open Go.RowKit Go.ChangeMaps
/- Layer 12: next. -/
theorem build_ent12 (w : World) : (Instr.build 74 #[]).run Try.prog w = .ok (.agg (entCells12 (.slice none 0 0) Msg.ent0)) w := by kernel_rfl
theorem box_ent12 (w : World) (t : Value) (ht : ∃ a n c, t = .slice a n c) (e : Ent.E) : (Instr.box 74 (.agg (entCells12 t e))).run Try.prog w = .ok (.pointer (some ⟨w.heap.size, 0, none⟩)) (w.alloc (.cells (entCells12 t e) 74)) := by
  obtain ⟨a, n, c, rfl⟩ := ht
  kernel_rfl
theorem two_flat12 (t : Value) (e : Ent.E) : (entCells12 t e ++ entCells12 t e).toList = entFlat [(t, e), (t, e)] := rfl
theorem slN_two12 (w : World) (t : Value) (e : Ent.E) (T : TypeId) : SlN 6 (w.alloc (.cells (entCells12 t e ++ entCells12 t e) T)) (.slice (some ⟨w.heap.size, 0, none⟩) 2 2) 2 (entFlat [(t, e), (t, e)]) := by
  refine ⟨_, 2, rfl, Nat.le_refl _, by simp [maxLen], fun e => by simp at e, rfl, fun j hj => ⟨w.heap.size, 0, rfl, ?_⟩⟩
  rw [Nat.zero_add, cell_of_heap (heap_alloc_new w (.cells (entCells12 t e ++ entCells12 t e) T)) j, ← Array.getElem?_toList, two_flat12]
  exact List.getElem?_eq_getElem hj
def GivesMade12 (B : Nat) (S K : Nat → Prop) (x : Nat) (w : World) (p : Quo.Pr) (e0 : Ent.E) (err : Int) (e : Ending) (w' : World) : Prop := ∃ u, e = .returned (.tuple #[.agg (entCells12 u e0), .int .i64 err]) ∧ RowN w.heap.size w' u e0.cut ∧ LeavesPr B S K x w p w'
set_option maxHeartbeats 40000000 in
theorem next12_cut {w : World} {B x : Nat} {S K : Nat → Prop} {p : Quo.Pr} (h : IsPr w B S K x p) (E : Ent.E) (t : Value) (ht : Ints w t E.cut) (c0 c1 : Value) (b : Bool) (hfit : Quo.Fits p E b)
    (hmay : ∀ w', Ext w w' → Calls Try.prog 48 #[c0, c1] w' fun e w'' => e = .returned (.bool b) ∧ Ext w' w'') :
    Calls Try.prog 47 #[.pointer (some ⟨x, 0, none⟩), .agg (entCells12 t E), .func (.func 48) #[] #[c0, c1]] w (GivesMade12 B S K x w (p.next E b) (p.made E b) (p.err E b)) := by
  obtain ⟨kb, ev, es, h⟩ := h
  obtain ⟨ta, tn, tc, rfl⟩ := intsSlice ht
  have hbx := fun w => box_ent12 w (.slice ta tn tc) ⟨_, _, _, rfl⟩ E
  have hb0 := build_ent12
  have H := Lib.hid h
  have HT := Lib.hid ht
  have HF := Lib.hid hfit
  have HMAY := Lib.hid hmay
  obtain ⟨wa, hwa⟩ : ∃ z, w.alloc (.cells (entCells12 (.slice ta tn tc) E) 74) = z := ⟨_, rfl⟩
  obtain ⟨q, hq⟩ : ∃ z, w.heap.size = z := ⟨_, rfl⟩
  have hEa : Ext w wa := by rw [← hwa]; exact Ext.alloc _ _
  have hqa : EAt12 wa q (.slice ta tn tc) E := by unfold EAt12; rw [← hwa, ← hq]; exact heap_alloc_new _ _
  have HWA := Lib.hid (And.intro hwa (And.intro hEa hqa))
  have HQ := Lib.hid hq
  clear h ht hfit hmay hwa hq hEa hqa
  go_enter Try.func47, Try.ntmps47
  go_upto_region 1 with (refine allocE12 (by rfl) rfl ?_; intro W1 q1 hat1 hE1 hq1)
  have hE1' := hE1.out
  have hq1' := hq1.out
  have hat1' := hat1.out
  rw [HWA.out.1] at hE1' hq1'
  rw [HQ.out]
  have HE1 := Lib.hid (HWA.out.2.1.trans hE1')
  have HQ1 := Lib.hid (show q < q1 ∧ w.heap.size ≤ q1 from ⟨by have := HWA.out.2.2.lt; omega, by have := HWA.out.2.1.size; omega⟩)
  have HA1 := Lib.hid (And.intro (HWA.out.2.2.ext hE1') hat1')
  clear hbx hE1 hq1 hat1 hE1' hq1' hat1'
  go_wp2_with fail
  refine (len12_any (H.out.ext HE1.out).at').mono ?_
  rintro e w1 ⟨rfl, rfl⟩
  obtain ⟨N, hN⟩ : ∃ N, p.l.length = N := ⟨_, rfl⟩
  rw [hN]
  have HN := Lib.hid (And.intro hN (show N ≤ 512 by rw [← hN]; exact H.out.ok.max))
  have hN9 : N ≤ 512 := HN.out.2
  have y0 := cell_of_heap HA1.out.1 0
  have z0 : W1.frozen? ⟨q, 0, none⟩ = false := frozen_of_heap HA1.out.1 0
  simp only [entCells12] at y0
  clear hN
  go_upto_region 2 with fail
  obtain ⟨W2, hW2⟩ : ∃ z, W1.setCell ⟨q, 0, none⟩ (.int .i64 ((N : Int) + 1)) = z := ⟨_, rfl⟩
  rw [hW2]
  have hB2 : But q W1 W2 := by rw [← hW2]; exact butSet _ _ _ _
  have HA2 := Lib.hid (show EAt12 W2 q (.slice ta tn tc) (p.at_ E) ∧ EAt12 W2 q1 (.slice none 0 0) Msg.ent0 from ⟨by rw [← hW2]; have := HA1.out.1.number ((N : Int) + 1); unfold Quo.Pr.at_; rw [HN.out.1]; exact this, HA1.out.2.but hB2 (by have := HQ1.out; omega)⟩)
  have HE2 := Lib.hid (Ext.newQ11 HE1.out (Nat.le_of_eq HQ.out) hB2)
  have h2 := H.out.ext HE2.out
  have HP2 := Lib.hid h2
  have x5 : W2.cell? ⟨x, 5, none⟩ = some (.bool p.is) := cell_of_heap h2.at'.heap 5
  clear hW2 hB2 h2 y0 z0
  cases his : p.is with
  | true =>
    rw [his] at x5
    have HIS := Lib.hid his
    clear his
    go_wp2_with (refine putE12 (t2 := .slice none 0 0) (e2 := Msg.ent0) (by rfl) _ _ rfl rfl rfl HA2.out.2 ⟨_, _, _, rfl⟩ ?_; intro W3 hat3 hB3)
    have hld := hat3.out.ldVar ⟨_, _, _, rfl⟩
    refine bodyPost_ret (v := .tuple #[.agg (entCells12 (.slice none 0 0) Msg.ent0), .int .i64 120]) (by simp [results, Try.results47, hld, asAddr, Act.put]) rfl ?_
    have herr : p.err E b = 120 := by unfold Quo.Pr.err; rw [if_pos HIS.out]
    unfold Quo.Pr.made Quo.Pr.next
    rw [herr, if_neg (by omega), if_neg (by omega)]
    exact ⟨_, rfl, RowN.nil _ _, LeavesPr.refl ⟨_, _, _, H.out⟩ (Ext.newQ11 HE2.out HQ1.out.2 hB3.out)⟩
  | false =>
    rw [his] at x5
    have HIS := Lib.hid his
    clear his
    have hle := HA2.out.1.ld ⟨_, _, _, rfl⟩
    have HRT := Lib.hid (right5_any (.agg (entCells12 (.slice ta tn tc) (p.at_ E))) (p.at_ E) W2 ⟨_, rfl, HT.out.below HE2.out⟩)
    go_wp2_with (refine ldAny (by rfl) _ rfl rfl hle ?_)
    refine HRT.out.mono ?_
    rintro e w3 ⟨rfl, hE3⟩
    have HA3 := Lib.hid (And.intro (HA2.out.1.ext hE3) (HA2.out.2.ext hE3))
    have HE3 := Lib.hid (HE2.out.trans hE3)
    clear hE3 hle x5
    have hbad : ∀ W3, (Ent.right (p.at_ E) = false ∨ b = false) → EAt12 W3 q1 (.slice none 0 0) Msg.ent0 → Ext w W3 → GivesMade12 B S K x w (p.next E b) (p.made E b) (p.err E b) (.returned (.tuple #[.agg (entCells12 (.slice none 0 0) Msg.ent0), .int .i64 1])) W3 := fun W3 hc _ hE => by
      have herr : p.err E b = 1 := by unfold Quo.Pr.err; rw [if_neg (by rw [HIS.out]; simp), if_pos hc]
      unfold Quo.Pr.made Quo.Pr.next
      rw [herr, if_neg (by omega), if_neg (by omega)]
      exact ⟨_, rfl, RowN.nil _ _, LeavesPr.refl ⟨_, _, _, H.out⟩ hE⟩
    have HBAD := Lib.hid hbad
    clear hbad
    cases hrt : Ent.right (p.at_ E) with
    | false =>
      have HR := Lib.hid hrt
      clear hrt
      go_wp2_with (refine putE12 (t2 := .slice none 0 0) (e2 := Msg.ent0) (by rfl) _ _ rfl rfl rfl HA3.out.2 ⟨_, _, _, rfl⟩ ?_; intro W4 hat4 hB4)
      have hld := hat4.out.ldVar ⟨_, _, _, rfl⟩
      exact bodyPost_ret (v := .tuple #[.agg (entCells12 (.slice none 0 0) Msg.ent0), .int .i64 1]) (by simp [results, Try.results47, hld, asAddr, Act.put]) rfl (HBAD.out W4 (.inl HR.out) hat4.out (Ext.newQ11 HE3.out HQ1.out.2 hB4.out))
    | true =>
      have HR := Lib.hid hrt
      clear hrt
      go_wp2_with fail
      refine (HMAY.out w3 HE3.out).mono ?_
      rintro e w4 ⟨rfl, hE4⟩
      have HA4 := Lib.hid (And.intro (HA3.out.1.ext hE4) (HA3.out.2.ext hE4))
      have HE4 := Lib.hid (HE3.out.trans hE4)
      clear hE4
      cases b with
      | false =>
        go_wp2_with (refine putE12 (t2 := .slice none 0 0) (e2 := Msg.ent0) (by rfl) _ _ rfl rfl rfl HA4.out.2 ⟨_, _, _, rfl⟩ ?_; intro W5 hat5 hB5)
        have hld := hat5.out.ldVar ⟨_, _, _, rfl⟩
        exact bodyPost_ret (v := .tuple #[.agg (entCells12 (.slice none 0 0) Msg.ent0), .int .i64 1]) (by simp [results, Try.results47, hld, asAddr, Act.put]) rfl (HBAD.out W5 (.inr (by simp)) hat5.out (Ext.newQ11 HE4.out HQ1.out.2 hB5.out))
      | true =>
        go_wp2_with fail
        refine (len12_any (H.out.ext HE4.out).at').mono ?_
        rintro e w5 ⟨rfl, rfl⟩
        rw [HN.out.1]
        by_cases h512 : N = 512
        case pos =>
          have h512i : (N : Int) = 512 := by omega
          go_wp2_with (refine putE12 (t2 := .slice none 0 0) (e2 := Msg.ent0) (by rfl) _ _ rfl rfl rfl HA4.out.2 ⟨_, _, _, rfl⟩ ?_; intro W5 hat5 hB5)
          have hld := hat5.out.ldVar ⟨_, _, _, rfl⟩
          refine bodyPost_ret (v := .tuple #[.agg (entCells12 (.slice none 0 0) Msg.ent0), .int .i64 121]) (by simp [results, Try.results47, hld, asAddr, Act.put]) rfl ?_
          have herr : p.err E true = 121 := by
            unfold Quo.Pr.err
            rw [if_neg (by rw [HIS.out]; simp), if_neg (by rw [HR.out]; simp), if_pos (by rw [HN.out.1]; exact h512)]
          unfold Quo.Pr.made Quo.Pr.next
          rw [herr, if_neg (by omega), if_neg (by omega)]
          exact ⟨_, rfl, RowN.nil _ _, LeavesPr.refl ⟨_, _, _, H.out⟩ (Ext.newQ11 HE4.out HQ1.out.2 hB5.out)⟩
        case neg =>
          have h512i : ¬ (N : Int) = 512 := by omega
          have HERR := Lib.hid (show p.err E true = 0 by
            unfold Quo.Pr.err
            rw [if_neg (by rw [HIS.out]; simp), if_neg (by rw [HR.out]; simp), if_neg (by rw [HN.out.1]; exact h512)])
          have hle := HA4.out.1.ld ⟨_, _, _, rfl⟩
          have hE5 : Ext w4 (w4.alloc (.cells (entCells12 (.slice ta tn tc) (p.at_ E) ++ entCells12 (.slice ta tn tc) (p.at_ E)) 74)) := Ext.alloc _ _
          have HSL := Lib.hid (slN_two12 w4 (.slice ta tn tc) (p.at_ E) 74)
          go_wp2_with (first
            | (refine ldAny (by rfl) _ rfl rfl hle ?_)
            | (refine opAny12 (.slice (some ⟨w4.heap.size, 0, none⟩) 2 2) (o := .buildSlice 43 _ _) rfl (by kernel_rfl) (w' := w4.alloc (.cells (entCells12 (.slice ta tn tc) (p.at_ E) ++ entCells12 (.slice ta tn tc) (p.at_ E)) 74)) (by kernel_rfl) ?_))
          have HE5 := Lib.hid (HE4.out.trans hE5)
          have HA5 := Lib.hid (And.intro (HA4.out.1.ext hE5) (HA4.out.2.ext hE5))
          obtain ⟨W5, hW5⟩ : ∃ z, w4.alloc (.cells (entCells12 (.slice ta tn tc) (p.at_ E) ++ entCells12 (.slice ta tn tc) (p.at_ E)) 74) = z := ⟨_, rfl⟩
          rw [hW5] at HSL HE5 HA5
          rw [hW5]
          have hcl : (p.at_ E).cut.length ≤ 8 := by
            rcases (Ent.right_ok HR.out).2 with ⟨_, hv, _⟩ | ⟨_, hv, _⟩
            · exact (Vec.right_ok hv).2.2
            · rw [hv]; simp
          clear hW5 hE5 hle h512i
          refine (own12_any _ [(.slice ta tn tc, p.at_ E), (.slice ta tn tc, p.at_ E)] W5 HSL.out (fun q hq => by
            have : q = (.slice ta tn tc, p.at_ E) := by simpa using hq
            rw [this]
            exact HT.out.below HE5.out) (by simp) (fun q hq => by
            have : q = (.slice ta tn tc, p.at_ E) := by simpa using hq
            rw [this]
            exact Nat.le_trans hcl (by omega))).mono ?_
          rintro e w6 ⟨u, qs, rfl, hE6, hrow, hqs, hq⟩
          obtain ⟨⟨t0, e0⟩, ⟨t1, e1⟩, rfl⟩ : ∃ a b, qs = [a, b] := by
            have hl := congrArg List.length hqs
            match qs, hl with
            | [a, b], _ => exact ⟨a, b, rfl⟩
          simp only [List.map_cons, List.map_nil, List.cons.injEq, and_true] at hqs
          obtain ⟨rfl, rfl⟩ := hqs
          have hr0 := hq (t0, p.at_ E) (by simp)
          have hr1 := hq (t1, p.at_ E) (by simp)
          obtain ⟨g, cg, rfl⟩ : ∃ g c, u = .slice (some ⟨g, 0, none⟩) 2 c := by
            rcases hrow.2 with ⟨_, e2⟩ | ⟨g, cap, cur, e, _⟩
            · exact absurd e2 (by simp)
            · exact ⟨g, cap, e⟩
          obtain ⟨ta0, tn0, tc0, rfl⟩ := intsSlice hr0.row.ints
          obtain ⟨ta1, tn1, tc1, rfl⟩ := intsSlice hr1.row.ints
          have HE6 := Lib.hid (HE5.out.trans hE6)
          have HA6 := Lib.hid (HA5.out.2.ext hE6)
          have HR01 := Lib.hid (And.intro (hr0.lower HE5.out.size) (hr1.lower HE5.out.size))
          have HROW := Lib.hid hrow
          have HG := Lib.hid (show w.heap.size ≤ g ∧ g < w6.heap.size ∧ g ≠ q1 from ⟨Nat.le_trans HE5.out.size (hrow.lt g rfl).1, (hrow.lt g rfl).2, fun e => by have := HA5.out.2.lt; have := (hrow.lt g rfl).1; omega⟩)
          clear hE6 hrow hq hr0 hr1 hcl
          have hd := Ext.drew w6
          have hP6 := H.out.ext (HE6.out.trans hd)
          obtain ⟨ea, ec, hev, hec, hem, _⟩ := H.out.at'.open
          have hlen : es.length = N := by rw [H.out.lenR]; exact HN.out.1
          rw [hlen] at hev hec
          subst hev
          have x3 : w6.cell? ⟨x, 3, none⟩ = some (.slice ea N ec) := cell_of_heap (H.out.ext HE6.out).at'.heap 3
          have hgc : ∀ j, j < 12 → w6.cell? ⟨g, j, none⟩ = (entFlat [(.slice ta0 tn0 tc0, p.at_ E), (.slice ta1 tn1 tc1, p.at_ E)])[j]? := fun j hj => by
            have h1 := HROW.out.cellAt j (by omega)
            exact h1
          have m0 : w6.cell? ⟨g, 0, none⟩ = some (.int .i64 (p.at_ E).number) := hgc 0 (by omega)
          have m1 : w6.cell? ⟨g, 1, none⟩ = some (.int .i64 (p.at_ E).kind) := hgc 1 (by omega)
          have m2 : w6.cell? ⟨g, 2, none⟩ = some (.slice ta0 tn0 tc0) := hgc 2 (by omega)
          have m3 : w6.cell? ⟨g, 3, none⟩ = some (.int .i64 (p.at_ E).tag) := hgc 3 (by omega)
          have m4 : w6.cell? ⟨g, 4, none⟩ = some (.int .i64 (p.at_ E).term) := hgc 4 (by omega)
          have m5 : w6.cell? ⟨g, 5, none⟩ = some (.int .i64 (p.at_ E).pos) := hgc 5 (by omega)
          obtain ⟨W6, hW6⟩ : ∃ z, w6.drew = z := ⟨_, rfl⟩
          have hcg2 : 2 ≤ cg := by
            rcases HROW.out.2 with ⟨e, _⟩ | ⟨g', cap, cur, e, _, _, h1, _⟩
            · cases e
            · cases e; exact h1
          have HD := Lib.hid (And.intro hW6 (And.intro hP6 (And.intro hd hgc)))
          have HLEN := Lib.hid hlen
          clear hd hP6 hgc hW6 hlen hem
          go_upto_region 9 with fail
          have hsz : w6.drew.heap.size = w6.heap.size := rfl
          have hE7 : Ext w6 (w6.drew.alloc (.cells (entCells12 (.slice ta0 tn0 tc0) (p.at_ E)) 74)) := HD.out.2.2.1.trans (Ext.alloc _ _)
          have hE8a : Ext w6 (w6.alloc (.cells (entCells12 (.slice ta0 tn0 tc0) (p.at_ E)) 74)) := Ext.alloc _ _
          have hE8 : Ext w6 (w6.alloc (.cells (entCells12 (.slice ta0 tn0 tc0) (p.at_ E)) 74)).drew := hE8a.trans (Ext.drew _)
          have h6 := H.out.ext HE6.out
          have HP7 := Lib.hid (h6.ext hE7)
          have HP8 := Lib.hid (h6.ext hE8)
          have hs7 := SlN.one6 (T := 74) w6.drew (.slice ta0 tn0 tc0) (p.at_ E)
          rw [hsz] at hs7
          have HS7 := Lib.hid hs7
          have HS8 := Lib.hid ((SlN.one6 (T := 74) w6 (.slice ta0 tn0 tc0) (p.at_ E)).below (Ext.drew _))
          have hrow7 := HP7.out.at'.row
          have hrow8 := HP8.out.at'.row
          rw [HLEN.out] at hrow7 hrow8
          have HR7 := Lib.hid hrow7
          have HR8 := Lib.hid hrow8
          have HE7 := Lib.hid hE7
          have HE8 := Lib.hid hE8
          have hone := entFlat_one (w := w6) (ps := [(.slice ta0 tn0 tc0, p.at_ E)]) (by intro q hq; obtain rfl := List.mem_singleton.1 hq; exact HR01.out.1.row.ints)
          have HONE := Lib.hid hone
          have HK1 := Lib.hid (show N + 1 ≤ maxLen by unfold maxLen; omega)
          have HK2 := Lib.hid (show (N + 1) * 64 ≤ 140737488355328 by omega)
          have x3a : (w6.alloc (.cells #[.int .i64 (p.at_ E).number, .int .i64 (p.at_ E).kind, .slice ta0 tn0 tc0, .int .i64 (p.at_ E).tag, .int .i64 (p.at_ E).term, .int .i64 (p.at_ E).pos] 74)).cell? ⟨x, 3, none⟩ = some (.slice ea N ec) := cell_of_heap (h6.ext hE8a).at'.heap 3
          clear hE7 hE8 hE8a hrow7 hrow8 hone hs7 hsz h6
          go_cut [8] (fun s8 wx => s8 = .slice (some ⟨g, 0, none⟩) 2 cg ∧ ∃ a9 n9 c9 w9 w7, Hid (wx = w9.setCell ⟨x, 3, none⟩ (.slice a9 n9 c9) ∧ (w9.ownsRow B 74 6 (.slice a9 n9 c9) (N + 1) (entFlat es ++ entFlat [(.slice ta0 tn0 tc0, p.at_ E)]) ∧ World.grownBy w7 w9 (Value.slice ea N ec).ownBlock ∧ ((Value.slice a9 n9 c9).ownBlock = (Value.slice ea N ec).ownBlock ∨ (Value.slice a9 n9 c9).ownBlock = some w7.heap.size) ∧ w9.heap[x]? = some (.cells #[.int .i64 p.c.term, .int .i64 (p.c.shards.length : Nat), .int .i64 (Term.majority p.c : Nat), .slice ea N ec, .map (some kb), .bool p.is] 100 (0, 0))) ∧ Ext w6 w7))
          case first =>
            go_region_law (first
              | (rw [if_pos (by rfl)]; refine wp_appN_at (.tmp 42) (.tmp 46) tE rfl rfl rfl HR7.out HS7.out (by omega) HONE.out HK1.out HK2.out HP7.out.base ?_; intro v9 w9 hown9 hg9 hat9; obtain ⟨a9, n9, c9, rfl⟩ := ownSlice hown9; have hx9 := (hg9.block x HP7.out.at'.lt (rowBeside HR7.out HP7.out.at'.heap (by decide))).trans HP7.out.at'.heap; have k3 : w9.cell? ⟨x, 3, none⟩ = some (.slice ea N ec) := cell_of_heap hx9 3; have z3 : w9.frozen? ⟨x, 3, none⟩ = false := frozen_of_heap hx9 3; have H9 := Lib.hid (And.intro (And.intro hown9 (And.intro hg9 (And.intro hat9 hx9))) HE7.out); clear hown9 hg9 hat9 hx9)
              | (rw [if_pos (by rfl)]; refine wp_appN_at (.tmp 42) (.tmp 46) tE rfl rfl rfl HR8.out HS8.out (by omega) HONE.out HK1.out HK2.out HP8.out.base ?_; intro v9 w9 hown9 hg9 hat9; obtain ⟨a9, n9, c9, rfl⟩ := ownSlice hown9; have hx9 := (hg9.block x HP8.out.at'.lt (rowBeside HR8.out HP8.out.at'.heap (by decide))).trans HP8.out.at'.heap; have k3 : w9.cell? ⟨x, 3, none⟩ = some (.slice ea N ec) := cell_of_heap hx9 3; have z3 : w9.frozen? ⟨x, 3, none⟩ = false := frozen_of_heap hx9 3; have H9 := Lib.hid (And.intro (And.intro hown9 (And.intro hg9 (And.intro hat9 hx9))) HE8.out); clear hown9 hg9 hat9 hx9))
            all_goals
              go_wp2_with fail
              go_meet
              exact ⟨rfl, a9, n9, c9, w9, _, Lib.hid ⟨rfl, H9.out⟩⟩
          case rest =>
            obtain ⟨rfl, a9, n9, c9, w9, w7, H9'⟩ := hcut
            obtain ⟨W10, hW10⟩ : ∃ z, z = wc := ⟨_, rfl⟩
            subst hW10
            have H9 := Lib.hid H9'.out.2.1
            have H67 := Lib.hid H9'.out.2.2
            have hW10 := H9'.out.1.symm
            have hB10 : But x w9 W10 := by rw [← hW10]; exact butSet _ _ _ _
            have hx10 : W10.heap[x]? = some (.cells #[.int .i64 p.c.term, .int .i64 (p.c.shards.length : Nat), .int .i64 (Term.majority p.c : Nat), .slice a9 n9 c9, .map (some kb), .bool p.is] 100 (0, 0)) := by
              rw [← hW10]
              exact heap_setCell H9.out.2.2.2 3 (.slice a9 n9 c9)
            have hxw : x < w.heap.size := H.out.at'.lt
            have hew : ∀ k, (Value.slice ea N ec).ownBlock = some k → k < w.heap.size := fun k hk => (H.out.at'.row.lt k hk).2
            have hkp : ∀ k, k < w6.heap.size → k ≠ x → (Value.slice ea N ec).ownBlock ≠ some k → W10.heap[k]? = w6.heap[k]? := fun k hk hne he => by
              have h67 := H67.out
              exact (hB10.block k (Nat.lt_of_lt_of_le hk (Nat.le_trans h67.size H9.out.2.1.size)) hne).trans ((H9.out.2.1.block k (Nat.lt_of_lt_of_le hk h67.size) (fun e => he e.symm)).trans (h67.block k hk))
            have HKP := Lib.hid hkp
            have hg10 : W10.heap[g]? = w6.heap[g]? := hkp g HG.out.2.1 (by have := HG.out.1; omega) (fun e => by have := hew g e; have := HG.out.1; omega)
            have hq10 : EAt12 W10 q1 (.slice none 0 0) Msg.ent0 := HA6.out.block (hkp q1 HA6.out.lt (by have := HQ1.out.2; omega) (fun e => by have := hew q1 e; have := HQ1.out.2; omega))
            have hgc : ∀ j, j < 12 → W10.cell? ⟨g, j, none⟩ = (entFlat [(.slice ta0 tn0 tc0, p.at_ E), (.slice ta1 tn1 tc1, p.at_ E)])[j]? := fun j hj => (World.cell?_of_block (w := w6) hg10).trans (HROW.out.cellAt j (by omega))
            have m6 : W10.cell? ⟨g, 6, none⟩ = some (.int .i64 (p.at_ E).number) := hgc 6 (by omega)
            have m7 : W10.cell? ⟨g, 7, none⟩ = some (.int .i64 (p.at_ E).kind) := hgc 7 (by omega)
            have m8 : W10.cell? ⟨g, 8, none⟩ = some (.slice ta1 tn1 tc1) := hgc 8 (by omega)
            have m9 : W10.cell? ⟨g, 9, none⟩ = some (.int .i64 (p.at_ E).tag) := hgc 9 (by omega)
            have m10 : W10.cell? ⟨g, 10, none⟩ = some (.int .i64 (p.at_ E).term) := hgc 10 (by omega)
            have m11 : W10.cell? ⟨g, 11, none⟩ = some (.int .i64 (p.at_ E).pos) := hgc 11 (by omega)
            have HQ10 := Lib.hid hq10
            have HX10 := Lib.hid (And.intro hx10 (And.intro hB10 (And.intro hxw hew)))
            clear H9' hW10 hB10 hx10 hxw hew hkp hg10 hq10 hgc x3 x3a m0 m1 m2 m3 m4 m5
            go_wp2_with (refine putE12 (t2 := .slice ta1 tn1 tc1) (e2 := p.at_ E) (by rfl) _ _ rfl rfl rfl HQ10.out ⟨_, _, _, rfl⟩ ?_; intro W11 hat11 hB11)
            have hld := hat11.out.ldVar ⟨_, _, _, rfl⟩
            refine bodyPost_ret (v := .tuple #[.agg (entCells12 (.slice ta1 tn1 tc1) (p.at_ E)), .int .i64 0]) (by simp [results, Try.results47, hld, asAddr, Act.put]) rfl ?_
            have hne : p.next E true = ⟨p.c, p.l ++ [p.at_ E], p.f, p.is⟩ := by unfold Quo.Pr.next; rw [if_pos HERR.out]
            have hmade : p.made E true = p.at_ E := by unfold Quo.Pr.made; rw [if_pos HERR.out]
            have hxw := HX10.out.2.2.1
            have hew := HX10.out.2.2.2
            have hqw := HQ1.out.2
            have hq6 := HA6.out.lt
            have h67 := H67.out
            have hz10 : w6.heap.size ≤ W10.heap.size := Nat.le_trans h67.size (Nat.le_trans H9.out.2.1.size HX10.out.2.1.size)
            have hk11 : ∀ k, k < w6.heap.size → k ≠ x → (Value.slice ea N ec).ownBlock ≠ some k → k ≠ q1 → W11.heap[k]? = w6.heap[k]? := fun k hk h1 h2 h3 => (hB11.out.block k (Nat.lt_of_lt_of_le hk hz10) h3).trans (HKP.out k hk h1 h2)
            have hint : ∀ {v : Value} {l : List Int}, RowN w.heap.size w6 v l → RowN w.heap.size W11 v l := fun {v l} hv => by
              have hlt := hv.lt
              refine hv.blocks fun k hk => hk11 k (hlt k hk).2 (by have := (hlt k hk).1; omega) (fun e => by have := hew k e; have := (hlt k hk).1; omega) (fun e => ?_)
              subst e
              obtain ⟨b0, n0, _, ho⟩ := hv
              obtain ⟨cur, hc⟩ := ownAt ho hk
              have := HA6.out
              unfold EAt12 at this
              rw [hc] at this
              injection this with this
              injection this with _ e _
              exact absurd e (by decide)
            have hold : ∀ k, k < w.heap.size → ¬ S k → W11.heap[k]? = w.heap[k]? := fun k hk hs => (hk11 k (Nat.lt_of_lt_of_le hk HE6.out.size) (fun e => hs (e ▸ H.out.sx)) (fun e => hs (H.out.sr e)) (by omega)).trans (HE6.out.block k hk)
            rw [hmade, HERR.out, hne]
            refine ⟨.slice ta1 tn1 tc1, rfl, hint HR01.out.2, own12 x kb (.slice a9 n9 c9), cuts12 (es ++ [(.slice ta0 tn0 tc0, p.at_ E)]), ⟨kb, .slice a9 n9 c9, es ++ [(.slice ta0 tn0 tc0, p.at_ E)], H.out.x1, H.out.k1, fun _ => Iff.rfl, fun _ => Iff.rfl, ⟨?_, ?_, ?_, ?_, ?_⟩, ?_⟩, ?_, ?_, ?_⟩
            · exact (hB11.out.block x (Nat.lt_of_lt_of_le hxw (Nat.le_trans HE6.out.size hz10)) (by omega)).trans HX10.out.1
            · have hl : (es ++ [(Value.slice ta0 tn0 tc0, p.at_ E)]).length = N + 1 := by simp [HLEN.out]
              rw [hl, entFlat_append]
              refine rowOwn H9.out.1 fun k hk => ?_
              obtain ⟨cur, hc⟩ := ownAt H9.out.1 hk
              have hkx : k ≠ x := fun e => by
                subst e
                rw [H9.out.2.2.2] at hc
                injection hc with hc
                injection hc with _ e _
                exact absurd e (by decide)
              have hkq : k ≠ q1 := fun e => by
                subst e
                rcases H9.out.2.2.1 with h | h
                · rw [h] at hk
                  have := hew _ hk
                  omega
                · rw [h] at hk
                  injection hk with hk
                  have := h67.size
                  omega
              have hk9 := (Array.getElem?_eq_some_iff.1 hc).1
              exact (hB11.out.block k (Nat.lt_of_lt_of_le hk9 HX10.out.2.1.size) hkq).trans (HX10.out.2.1.block k hk9 hkx)
            · rw [List.map_append, H.out.at'.ents]
              rfl
            · intro q' hq'
              rcases List.mem_append.1 hq' with hq' | hq'
              · have hc := H.out.at'.cuts q' hq'
                refine hc.blocks fun k hk => hold k (hc.lt k hk).2 ?_
                obtain ⟨b0, n0, _, ho⟩ := hc
                obtain ⟨cur, hcc⟩ := ownAt ho hk
                exact H.out.ints hcc
              · rw [List.mem_singleton.1 hq']
                exact (hint HR01.out.1).lower H.out.base
            · refine H.out.at'.map.block ((hk11 kb (Nat.lt_of_lt_of_le H.out.at'.map.lt HE6.out.size) (fun e => ?_) (fun e => ?_) (by have := H.out.at'.map.lt; omega)).trans (HE6.out.block kb H.out.at'.map.lt))
              · subst e
                exact H.out.at'.map.no_cells H.out.at'.heap
              · obtain ⟨cur, hc⟩ := ownAt H.out.at'.row e
                exact H.out.at'.map.no_cells hc
            · have := H.out.ok.next HF.out
              rw [hne] at this
              exact this
            · exact ⟨hB11.out.os.trans (HX10.out.2.1.os.trans (H9.out.2.1.os.trans (h67.os.trans HE6.out.os))), hB11.out.tape.trans (HX10.out.2.1.tape.trans (H9.out.2.1.tape.trans (h67.tape.trans HE6.out.tape))), hB11.out.output.trans (HX10.out.2.1.output.trans (H9.out.2.1.output.trans (h67.output.trans HE6.out.output))), Nat.le_trans HE6.out.size (Nat.le_trans hz10 hB11.out.size), hold⟩
            · intro k hk hs
              rcases hs with rfl | rfl | e
              · exact H.out.sx
              · exact H.out.sk
              · rcases H9.out.2.2.1 with h | h
                · rw [h] at e
                  exact H.out.sr e
                · rw [h] at e
                  injection e with e
                  have := h67.size
                  have := HE6.out.size
                  omega
            · intro k hk ⟨q', hq', hk'⟩
              rcases List.mem_append.1 hq' with hq' | hq'
              · exact (H.out.kk k).2 ⟨q', hq', hk'⟩
              · rw [List.mem_singleton.1 hq'] at hk'
                have := (HR01.out.1.lt k hk').1
                omega
set_option maxHeartbeats 40000000 in
theorem next12_trim {w : World} {B x : Nat} {S K : Nat → Prop} {p : Quo.Pr} (h : IsPr w B S K x p) (E : Ent.E) (t : Value) (ht : Ints w t E.cut) (c0 c1 : Value) (b : Bool) (hfit : Quo.Fits p E b)
    (hmay : ∀ w', Ext w w' → Calls Try.prog 65 #[c0, c1] w' fun e w'' => e = .returned (.bool b) ∧ Ext w' w'') :
    Calls Try.prog 47 #[.pointer (some ⟨x, 0, none⟩), .agg (entCells12 t E), .func (.func 65) #[] #[c0, c1]] w (GivesMade12 B S K x w (p.next E b) (p.made E b) (p.err E b)) := by
  obtain ⟨kb, ev, es, h⟩ := h
  obtain ⟨ta, tn, tc, rfl⟩ := intsSlice ht
  have hbx := fun w => box_ent12 w (.slice ta tn tc) ⟨_, _, _, rfl⟩ E
  have hb0 := build_ent12
  have H := Lib.hid h
  have HT := Lib.hid ht
  have HF := Lib.hid hfit
  have HMAY := Lib.hid hmay
  obtain ⟨wa, hwa⟩ : ∃ z, w.alloc (.cells (entCells12 (.slice ta tn tc) E) 74) = z := ⟨_, rfl⟩
  obtain ⟨q, hq⟩ : ∃ z, w.heap.size = z := ⟨_, rfl⟩
  have hEa : Ext w wa := by rw [← hwa]; exact Ext.alloc _ _
  have hqa : EAt12 wa q (.slice ta tn tc) E := by unfold EAt12; rw [← hwa, ← hq]; exact heap_alloc_new _ _
  have HWA := Lib.hid (And.intro hwa (And.intro hEa hqa))
  have HQ := Lib.hid hq
  clear h ht hfit hmay hwa hq hEa hqa
  go_enter Try.func47, Try.ntmps47
  go_upto_region 1 with (refine allocE12 (by rfl) rfl ?_; intro W1 q1 hat1 hE1 hq1)
  have hE1' := hE1.out
  have hq1' := hq1.out
  have hat1' := hat1.out
  rw [HWA.out.1] at hE1' hq1'
  rw [HQ.out]
  have HE1 := Lib.hid (HWA.out.2.1.trans hE1')
  have HQ1 := Lib.hid (show q < q1 ∧ w.heap.size ≤ q1 from ⟨by have := HWA.out.2.2.lt; omega, by have := HWA.out.2.1.size; omega⟩)
  have HA1 := Lib.hid (And.intro (HWA.out.2.2.ext hE1') hat1')
  clear hbx hE1 hq1 hat1 hE1' hq1' hat1'
  go_wp2_with fail
  refine (len12_any (H.out.ext HE1.out).at').mono ?_
  rintro e w1 ⟨rfl, rfl⟩
  obtain ⟨N, hN⟩ : ∃ N, p.l.length = N := ⟨_, rfl⟩
  rw [hN]
  have HN := Lib.hid (And.intro hN (show N ≤ 512 by rw [← hN]; exact H.out.ok.max))
  have hN9 : N ≤ 512 := HN.out.2
  have y0 := cell_of_heap HA1.out.1 0
  have z0 : W1.frozen? ⟨q, 0, none⟩ = false := frozen_of_heap HA1.out.1 0
  simp only [entCells12] at y0
  clear hN
  go_upto_region 2 with fail
  obtain ⟨W2, hW2⟩ : ∃ z, W1.setCell ⟨q, 0, none⟩ (.int .i64 ((N : Int) + 1)) = z := ⟨_, rfl⟩
  rw [hW2]
  have hB2 : But q W1 W2 := by rw [← hW2]; exact butSet _ _ _ _
  have HA2 := Lib.hid (show EAt12 W2 q (.slice ta tn tc) (p.at_ E) ∧ EAt12 W2 q1 (.slice none 0 0) Msg.ent0 from ⟨by rw [← hW2]; have := HA1.out.1.number ((N : Int) + 1); unfold Quo.Pr.at_; rw [HN.out.1]; exact this, HA1.out.2.but hB2 (by have := HQ1.out; omega)⟩)
  have HE2 := Lib.hid (Ext.newQ11 HE1.out (Nat.le_of_eq HQ.out) hB2)
  have h2 := H.out.ext HE2.out
  have HP2 := Lib.hid h2
  have x5 : W2.cell? ⟨x, 5, none⟩ = some (.bool p.is) := cell_of_heap h2.at'.heap 5
  clear hW2 hB2 h2 y0 z0
  cases his : p.is with
  | true =>
    rw [his] at x5
    have HIS := Lib.hid his
    clear his
    go_wp2_with (refine putE12 (t2 := .slice none 0 0) (e2 := Msg.ent0) (by rfl) _ _ rfl rfl rfl HA2.out.2 ⟨_, _, _, rfl⟩ ?_; intro W3 hat3 hB3)
    have hld := hat3.out.ldVar ⟨_, _, _, rfl⟩
    refine bodyPost_ret (v := .tuple #[.agg (entCells12 (.slice none 0 0) Msg.ent0), .int .i64 120]) (by simp [results, Try.results47, hld, asAddr, Act.put]) rfl ?_
    have herr : p.err E b = 120 := by unfold Quo.Pr.err; rw [if_pos HIS.out]
    unfold Quo.Pr.made Quo.Pr.next
    rw [herr, if_neg (by omega), if_neg (by omega)]
    exact ⟨_, rfl, RowN.nil _ _, LeavesPr.refl ⟨_, _, _, H.out⟩ (Ext.newQ11 HE2.out HQ1.out.2 hB3.out)⟩
  | false =>
    rw [his] at x5
    have HIS := Lib.hid his
    clear his
    have hle := HA2.out.1.ld ⟨_, _, _, rfl⟩
    have HRT := Lib.hid (right5_any (.agg (entCells12 (.slice ta tn tc) (p.at_ E))) (p.at_ E) W2 ⟨_, rfl, HT.out.below HE2.out⟩)
    go_wp2_with (refine ldAny (by rfl) _ rfl rfl hle ?_)
    refine HRT.out.mono ?_
    rintro e w3 ⟨rfl, hE3⟩
    have HA3 := Lib.hid (And.intro (HA2.out.1.ext hE3) (HA2.out.2.ext hE3))
    have HE3 := Lib.hid (HE2.out.trans hE3)
    clear hE3 hle x5
    have hbad : ∀ W3, (Ent.right (p.at_ E) = false ∨ b = false) → EAt12 W3 q1 (.slice none 0 0) Msg.ent0 → Ext w W3 → GivesMade12 B S K x w (p.next E b) (p.made E b) (p.err E b) (.returned (.tuple #[.agg (entCells12 (.slice none 0 0) Msg.ent0), .int .i64 1])) W3 := fun W3 hc _ hE => by
      have herr : p.err E b = 1 := by unfold Quo.Pr.err; rw [if_neg (by rw [HIS.out]; simp), if_pos hc]
      unfold Quo.Pr.made Quo.Pr.next
      rw [herr, if_neg (by omega), if_neg (by omega)]
      exact ⟨_, rfl, RowN.nil _ _, LeavesPr.refl ⟨_, _, _, H.out⟩ hE⟩
    have HBAD := Lib.hid hbad
    clear hbad
    cases hrt : Ent.right (p.at_ E) with
    | false =>
      have HR := Lib.hid hrt
      clear hrt
      go_wp2_with (refine putE12 (t2 := .slice none 0 0) (e2 := Msg.ent0) (by rfl) _ _ rfl rfl rfl HA3.out.2 ⟨_, _, _, rfl⟩ ?_; intro W4 hat4 hB4)
      have hld := hat4.out.ldVar ⟨_, _, _, rfl⟩
      exact bodyPost_ret (v := .tuple #[.agg (entCells12 (.slice none 0 0) Msg.ent0), .int .i64 1]) (by simp [results, Try.results47, hld, asAddr, Act.put]) rfl (HBAD.out W4 (.inl HR.out) hat4.out (Ext.newQ11 HE3.out HQ1.out.2 hB4.out))
    | true =>
      have HR := Lib.hid hrt
      clear hrt
      go_wp2_with fail
      refine (HMAY.out w3 HE3.out).mono ?_
      rintro e w4 ⟨rfl, hE4⟩
      have HA4 := Lib.hid (And.intro (HA3.out.1.ext hE4) (HA3.out.2.ext hE4))
      have HE4 := Lib.hid (HE3.out.trans hE4)
      clear hE4
      cases b with
      | false =>
        go_wp2_with (refine putE12 (t2 := .slice none 0 0) (e2 := Msg.ent0) (by rfl) _ _ rfl rfl rfl HA4.out.2 ⟨_, _, _, rfl⟩ ?_; intro W5 hat5 hB5)
        have hld := hat5.out.ldVar ⟨_, _, _, rfl⟩
        exact bodyPost_ret (v := .tuple #[.agg (entCells12 (.slice none 0 0) Msg.ent0), .int .i64 1]) (by simp [results, Try.results47, hld, asAddr, Act.put]) rfl (HBAD.out W5 (.inr (by simp)) hat5.out (Ext.newQ11 HE4.out HQ1.out.2 hB5.out))
      | true =>
        go_wp2_with fail
        refine (len12_any (H.out.ext HE4.out).at').mono ?_
        rintro e w5 ⟨rfl, rfl⟩
        rw [HN.out.1]
        by_cases h512 : N = 512
        case pos =>
          have h512i : (N : Int) = 512 := by omega
          go_wp2_with (refine putE12 (t2 := .slice none 0 0) (e2 := Msg.ent0) (by rfl) _ _ rfl rfl rfl HA4.out.2 ⟨_, _, _, rfl⟩ ?_; intro W5 hat5 hB5)
          have hld := hat5.out.ldVar ⟨_, _, _, rfl⟩
          refine bodyPost_ret (v := .tuple #[.agg (entCells12 (.slice none 0 0) Msg.ent0), .int .i64 121]) (by simp [results, Try.results47, hld, asAddr, Act.put]) rfl ?_
          have herr : p.err E true = 121 := by
            unfold Quo.Pr.err
            rw [if_neg (by rw [HIS.out]; simp), if_neg (by rw [HR.out]; simp), if_pos (by rw [HN.out.1]; exact h512)]
          unfold Quo.Pr.made Quo.Pr.next
          rw [herr, if_neg (by omega), if_neg (by omega)]
          exact ⟨_, rfl, RowN.nil _ _, LeavesPr.refl ⟨_, _, _, H.out⟩ (Ext.newQ11 HE4.out HQ1.out.2 hB5.out)⟩
        case neg =>
          have h512i : ¬ (N : Int) = 512 := by omega
          have HERR := Lib.hid (show p.err E true = 0 by
            unfold Quo.Pr.err
            rw [if_neg (by rw [HIS.out]; simp), if_neg (by rw [HR.out]; simp), if_neg (by rw [HN.out.1]; exact h512)])
          have hle := HA4.out.1.ld ⟨_, _, _, rfl⟩
          have hE5 : Ext w4 (w4.alloc (.cells (entCells12 (.slice ta tn tc) (p.at_ E) ++ entCells12 (.slice ta tn tc) (p.at_ E)) 74)) := Ext.alloc _ _
          have HSL := Lib.hid (slN_two12 w4 (.slice ta tn tc) (p.at_ E) 74)
          go_wp2_with (first
            | (refine ldAny (by rfl) _ rfl rfl hle ?_)
            | (refine opAny12 (.slice (some ⟨w4.heap.size, 0, none⟩) 2 2) (o := .buildSlice 43 _ _) rfl (by kernel_rfl) (w' := w4.alloc (.cells (entCells12 (.slice ta tn tc) (p.at_ E) ++ entCells12 (.slice ta tn tc) (p.at_ E)) 74)) (by kernel_rfl) ?_))
          have HE5 := Lib.hid (HE4.out.trans hE5)
          have HA5 := Lib.hid (And.intro (HA4.out.1.ext hE5) (HA4.out.2.ext hE5))
          obtain ⟨W5, hW5⟩ : ∃ z, w4.alloc (.cells (entCells12 (.slice ta tn tc) (p.at_ E) ++ entCells12 (.slice ta tn tc) (p.at_ E)) 74) = z := ⟨_, rfl⟩
          rw [hW5] at HSL HE5 HA5
          rw [hW5]
          have hcl : (p.at_ E).cut.length ≤ 8 := by
            rcases (Ent.right_ok HR.out).2 with ⟨_, hv, _⟩ | ⟨_, hv, _⟩
            · exact (Vec.right_ok hv).2.2
            · rw [hv]; simp
          clear hW5 hE5 hle h512i
          refine (own12_any _ [(.slice ta tn tc, p.at_ E), (.slice ta tn tc, p.at_ E)] W5 HSL.out (fun q hq => by
            have : q = (.slice ta tn tc, p.at_ E) := by simpa using hq
            rw [this]
            exact HT.out.below HE5.out) (by simp) (fun q hq => by
            have : q = (.slice ta tn tc, p.at_ E) := by simpa using hq
            rw [this]
            exact Nat.le_trans hcl (by omega))).mono ?_
          rintro e w6 ⟨u, qs, rfl, hE6, hrow, hqs, hq⟩
          obtain ⟨⟨t0, e0⟩, ⟨t1, e1⟩, rfl⟩ : ∃ a b, qs = [a, b] := by
            have hl := congrArg List.length hqs
            match qs, hl with
            | [a, b], _ => exact ⟨a, b, rfl⟩
          simp only [List.map_cons, List.map_nil, List.cons.injEq, and_true] at hqs
          obtain ⟨rfl, rfl⟩ := hqs
          have hr0 := hq (t0, p.at_ E) (by simp)
          have hr1 := hq (t1, p.at_ E) (by simp)
          obtain ⟨g, cg, rfl⟩ : ∃ g c, u = .slice (some ⟨g, 0, none⟩) 2 c := by
            rcases hrow.2 with ⟨_, e2⟩ | ⟨g, cap, cur, e, _⟩
            · exact absurd e2 (by simp)
            · exact ⟨g, cap, e⟩
          obtain ⟨ta0, tn0, tc0, rfl⟩ := intsSlice hr0.row.ints
          obtain ⟨ta1, tn1, tc1, rfl⟩ := intsSlice hr1.row.ints
          have HE6 := Lib.hid (HE5.out.trans hE6)
          have HA6 := Lib.hid (HA5.out.2.ext hE6)
          have HR01 := Lib.hid (And.intro (hr0.lower HE5.out.size) (hr1.lower HE5.out.size))
          have HROW := Lib.hid hrow
          have HG := Lib.hid (show w.heap.size ≤ g ∧ g < w6.heap.size ∧ g ≠ q1 from ⟨Nat.le_trans HE5.out.size (hrow.lt g rfl).1, (hrow.lt g rfl).2, fun e => by have := HA5.out.2.lt; have := (hrow.lt g rfl).1; omega⟩)
          clear hE6 hrow hq hr0 hr1 hcl
          have hd := Ext.drew w6
          have hP6 := H.out.ext (HE6.out.trans hd)
          obtain ⟨ea, ec, hev, hec, hem, _⟩ := H.out.at'.open
          have hlen : es.length = N := by rw [H.out.lenR]; exact HN.out.1
          rw [hlen] at hev hec
          subst hev
          have x3 : w6.cell? ⟨x, 3, none⟩ = some (.slice ea N ec) := cell_of_heap (H.out.ext HE6.out).at'.heap 3
          have hgc : ∀ j, j < 12 → w6.cell? ⟨g, j, none⟩ = (entFlat [(.slice ta0 tn0 tc0, p.at_ E), (.slice ta1 tn1 tc1, p.at_ E)])[j]? := fun j hj => by
            have h1 := HROW.out.cellAt j (by omega)
            exact h1
          have m0 : w6.cell? ⟨g, 0, none⟩ = some (.int .i64 (p.at_ E).number) := hgc 0 (by omega)
          have m1 : w6.cell? ⟨g, 1, none⟩ = some (.int .i64 (p.at_ E).kind) := hgc 1 (by omega)
          have m2 : w6.cell? ⟨g, 2, none⟩ = some (.slice ta0 tn0 tc0) := hgc 2 (by omega)
          have m3 : w6.cell? ⟨g, 3, none⟩ = some (.int .i64 (p.at_ E).tag) := hgc 3 (by omega)
          have m4 : w6.cell? ⟨g, 4, none⟩ = some (.int .i64 (p.at_ E).term) := hgc 4 (by omega)
          have m5 : w6.cell? ⟨g, 5, none⟩ = some (.int .i64 (p.at_ E).pos) := hgc 5 (by omega)
          obtain ⟨W6, hW6⟩ : ∃ z, w6.drew = z := ⟨_, rfl⟩
          have hcg2 : 2 ≤ cg := by
            rcases HROW.out.2 with ⟨e, _⟩ | ⟨g', cap, cur, e, _, _, h1, _⟩
            · cases e
            · cases e; exact h1
          have HD := Lib.hid (And.intro hW6 (And.intro hP6 (And.intro hd hgc)))
          have HLEN := Lib.hid hlen
          clear hd hP6 hgc hW6 hlen hem
          go_upto_region 9 with fail
          have hsz : w6.drew.heap.size = w6.heap.size := rfl
          have hE7 : Ext w6 (w6.drew.alloc (.cells (entCells12 (.slice ta0 tn0 tc0) (p.at_ E)) 74)) := HD.out.2.2.1.trans (Ext.alloc _ _)
          have hE8a : Ext w6 (w6.alloc (.cells (entCells12 (.slice ta0 tn0 tc0) (p.at_ E)) 74)) := Ext.alloc _ _
          have hE8 : Ext w6 (w6.alloc (.cells (entCells12 (.slice ta0 tn0 tc0) (p.at_ E)) 74)).drew := hE8a.trans (Ext.drew _)
          have h6 := H.out.ext HE6.out
          have HP7 := Lib.hid (h6.ext hE7)
          have HP8 := Lib.hid (h6.ext hE8)
          have hs7 := SlN.one6 (T := 74) w6.drew (.slice ta0 tn0 tc0) (p.at_ E)
          rw [hsz] at hs7
          have HS7 := Lib.hid hs7
          have HS8 := Lib.hid ((SlN.one6 (T := 74) w6 (.slice ta0 tn0 tc0) (p.at_ E)).below (Ext.drew _))
          have hrow7 := HP7.out.at'.row
          have hrow8 := HP8.out.at'.row
          rw [HLEN.out] at hrow7 hrow8
          have HR7 := Lib.hid hrow7
          have HR8 := Lib.hid hrow8
          have HE7 := Lib.hid hE7
          have HE8 := Lib.hid hE8
          have hone := entFlat_one (w := w6) (ps := [(.slice ta0 tn0 tc0, p.at_ E)]) (by intro q hq; obtain rfl := List.mem_singleton.1 hq; exact HR01.out.1.row.ints)
          have HONE := Lib.hid hone
          have HK1 := Lib.hid (show N + 1 ≤ maxLen by unfold maxLen; omega)
          have HK2 := Lib.hid (show (N + 1) * 64 ≤ 140737488355328 by omega)
          have x3a : (w6.alloc (.cells #[.int .i64 (p.at_ E).number, .int .i64 (p.at_ E).kind, .slice ta0 tn0 tc0, .int .i64 (p.at_ E).tag, .int .i64 (p.at_ E).term, .int .i64 (p.at_ E).pos] 74)).cell? ⟨x, 3, none⟩ = some (.slice ea N ec) := cell_of_heap (h6.ext hE8a).at'.heap 3
          clear hE7 hE8 hE8a hrow7 hrow8 hone hs7 hsz h6
          go_cut [8] (fun s8 wx => s8 = .slice (some ⟨g, 0, none⟩) 2 cg ∧ ∃ a9 n9 c9 w9 w7, Hid (wx = w9.setCell ⟨x, 3, none⟩ (.slice a9 n9 c9) ∧ (w9.ownsRow B 74 6 (.slice a9 n9 c9) (N + 1) (entFlat es ++ entFlat [(.slice ta0 tn0 tc0, p.at_ E)]) ∧ World.grownBy w7 w9 (Value.slice ea N ec).ownBlock ∧ ((Value.slice a9 n9 c9).ownBlock = (Value.slice ea N ec).ownBlock ∨ (Value.slice a9 n9 c9).ownBlock = some w7.heap.size) ∧ w9.heap[x]? = some (.cells #[.int .i64 p.c.term, .int .i64 (p.c.shards.length : Nat), .int .i64 (Term.majority p.c : Nat), .slice ea N ec, .map (some kb), .bool p.is] 100 (0, 0))) ∧ Ext w6 w7))
          case first =>
            go_region_law (first
              | (rw [if_pos (by rfl)]; refine wp_appN_at (.tmp 42) (.tmp 46) tE rfl rfl rfl HR7.out HS7.out (by omega) HONE.out HK1.out HK2.out HP7.out.base ?_; intro v9 w9 hown9 hg9 hat9; obtain ⟨a9, n9, c9, rfl⟩ := ownSlice hown9; have hx9 := (hg9.block x HP7.out.at'.lt (rowBeside HR7.out HP7.out.at'.heap (by decide))).trans HP7.out.at'.heap; have k3 : w9.cell? ⟨x, 3, none⟩ = some (.slice ea N ec) := cell_of_heap hx9 3; have z3 : w9.frozen? ⟨x, 3, none⟩ = false := frozen_of_heap hx9 3; have H9 := Lib.hid (And.intro (And.intro hown9 (And.intro hg9 (And.intro hat9 hx9))) HE7.out); clear hown9 hg9 hat9 hx9)
              | (rw [if_pos (by rfl)]; refine wp_appN_at (.tmp 42) (.tmp 46) tE rfl rfl rfl HR8.out HS8.out (by omega) HONE.out HK1.out HK2.out HP8.out.base ?_; intro v9 w9 hown9 hg9 hat9; obtain ⟨a9, n9, c9, rfl⟩ := ownSlice hown9; have hx9 := (hg9.block x HP8.out.at'.lt (rowBeside HR8.out HP8.out.at'.heap (by decide))).trans HP8.out.at'.heap; have k3 : w9.cell? ⟨x, 3, none⟩ = some (.slice ea N ec) := cell_of_heap hx9 3; have z3 : w9.frozen? ⟨x, 3, none⟩ = false := frozen_of_heap hx9 3; have H9 := Lib.hid (And.intro (And.intro hown9 (And.intro hg9 (And.intro hat9 hx9))) HE8.out); clear hown9 hg9 hat9 hx9))
            all_goals
              go_wp2_with fail
              go_meet
              exact ⟨rfl, a9, n9, c9, w9, _, Lib.hid ⟨rfl, H9.out⟩⟩
          case rest =>
            obtain ⟨rfl, a9, n9, c9, w9, w7, H9'⟩ := hcut
            obtain ⟨W10, hW10⟩ : ∃ z, z = wc := ⟨_, rfl⟩
            subst hW10
            have H9 := Lib.hid H9'.out.2.1
            have H67 := Lib.hid H9'.out.2.2
            have hW10 := H9'.out.1.symm
            have hB10 : But x w9 W10 := by rw [← hW10]; exact butSet _ _ _ _
            have hx10 : W10.heap[x]? = some (.cells #[.int .i64 p.c.term, .int .i64 (p.c.shards.length : Nat), .int .i64 (Term.majority p.c : Nat), .slice a9 n9 c9, .map (some kb), .bool p.is] 100 (0, 0)) := by
              rw [← hW10]
              exact heap_setCell H9.out.2.2.2 3 (.slice a9 n9 c9)
            have hxw : x < w.heap.size := H.out.at'.lt
            have hew : ∀ k, (Value.slice ea N ec).ownBlock = some k → k < w.heap.size := fun k hk => (H.out.at'.row.lt k hk).2
            have hkp : ∀ k, k < w6.heap.size → k ≠ x → (Value.slice ea N ec).ownBlock ≠ some k → W10.heap[k]? = w6.heap[k]? := fun k hk hne he => by
              have h67 := H67.out
              exact (hB10.block k (Nat.lt_of_lt_of_le hk (Nat.le_trans h67.size H9.out.2.1.size)) hne).trans ((H9.out.2.1.block k (Nat.lt_of_lt_of_le hk h67.size) (fun e => he e.symm)).trans (h67.block k hk))
            have HKP := Lib.hid hkp
            have hg10 : W10.heap[g]? = w6.heap[g]? := hkp g HG.out.2.1 (by have := HG.out.1; omega) (fun e => by have := hew g e; have := HG.out.1; omega)
            have hq10 : EAt12 W10 q1 (.slice none 0 0) Msg.ent0 := HA6.out.block (hkp q1 HA6.out.lt (by have := HQ1.out.2; omega) (fun e => by have := hew q1 e; have := HQ1.out.2; omega))
            have hgc : ∀ j, j < 12 → W10.cell? ⟨g, j, none⟩ = (entFlat [(.slice ta0 tn0 tc0, p.at_ E), (.slice ta1 tn1 tc1, p.at_ E)])[j]? := fun j hj => (World.cell?_of_block (w := w6) hg10).trans (HROW.out.cellAt j (by omega))
            have m6 : W10.cell? ⟨g, 6, none⟩ = some (.int .i64 (p.at_ E).number) := hgc 6 (by omega)
            have m7 : W10.cell? ⟨g, 7, none⟩ = some (.int .i64 (p.at_ E).kind) := hgc 7 (by omega)
            have m8 : W10.cell? ⟨g, 8, none⟩ = some (.slice ta1 tn1 tc1) := hgc 8 (by omega)
            have m9 : W10.cell? ⟨g, 9, none⟩ = some (.int .i64 (p.at_ E).tag) := hgc 9 (by omega)
            have m10 : W10.cell? ⟨g, 10, none⟩ = some (.int .i64 (p.at_ E).term) := hgc 10 (by omega)
            have m11 : W10.cell? ⟨g, 11, none⟩ = some (.int .i64 (p.at_ E).pos) := hgc 11 (by omega)
            have HQ10 := Lib.hid hq10
            have HX10 := Lib.hid (And.intro hx10 (And.intro hB10 (And.intro hxw hew)))
            clear H9' hW10 hB10 hx10 hxw hew hkp hg10 hq10 hgc x3 x3a m0 m1 m2 m3 m4 m5
            go_wp2_with (refine putE12 (t2 := .slice ta1 tn1 tc1) (e2 := p.at_ E) (by rfl) _ _ rfl rfl rfl HQ10.out ⟨_, _, _, rfl⟩ ?_; intro W11 hat11 hB11)
            have hld := hat11.out.ldVar ⟨_, _, _, rfl⟩
            refine bodyPost_ret (v := .tuple #[.agg (entCells12 (.slice ta1 tn1 tc1) (p.at_ E)), .int .i64 0]) (by simp [results, Try.results47, hld, asAddr, Act.put]) rfl ?_
            have hne : p.next E true = ⟨p.c, p.l ++ [p.at_ E], p.f, p.is⟩ := by unfold Quo.Pr.next; rw [if_pos HERR.out]
            have hmade : p.made E true = p.at_ E := by unfold Quo.Pr.made; rw [if_pos HERR.out]
            have hxw := HX10.out.2.2.1
            have hew := HX10.out.2.2.2
            have hqw := HQ1.out.2
            have hq6 := HA6.out.lt
            have h67 := H67.out
            have hz10 : w6.heap.size ≤ W10.heap.size := Nat.le_trans h67.size (Nat.le_trans H9.out.2.1.size HX10.out.2.1.size)
            have hk11 : ∀ k, k < w6.heap.size → k ≠ x → (Value.slice ea N ec).ownBlock ≠ some k → k ≠ q1 → W11.heap[k]? = w6.heap[k]? := fun k hk h1 h2 h3 => (hB11.out.block k (Nat.lt_of_lt_of_le hk hz10) h3).trans (HKP.out k hk h1 h2)
            have hint : ∀ {v : Value} {l : List Int}, RowN w.heap.size w6 v l → RowN w.heap.size W11 v l := fun {v l} hv => by
              have hlt := hv.lt
              refine hv.blocks fun k hk => hk11 k (hlt k hk).2 (by have := (hlt k hk).1; omega) (fun e => by have := hew k e; have := (hlt k hk).1; omega) (fun e => ?_)
              subst e
              obtain ⟨b0, n0, _, ho⟩ := hv
              obtain ⟨cur, hc⟩ := ownAt ho hk
              have := HA6.out
              unfold EAt12 at this
              rw [hc] at this
              injection this with this
              injection this with _ e _
              exact absurd e (by decide)
            have hold : ∀ k, k < w.heap.size → ¬ S k → W11.heap[k]? = w.heap[k]? := fun k hk hs => (hk11 k (Nat.lt_of_lt_of_le hk HE6.out.size) (fun e => hs (e ▸ H.out.sx)) (fun e => hs (H.out.sr e)) (by omega)).trans (HE6.out.block k hk)
            rw [hmade, HERR.out, hne]
            refine ⟨.slice ta1 tn1 tc1, rfl, hint HR01.out.2, own12 x kb (.slice a9 n9 c9), cuts12 (es ++ [(.slice ta0 tn0 tc0, p.at_ E)]), ⟨kb, .slice a9 n9 c9, es ++ [(.slice ta0 tn0 tc0, p.at_ E)], H.out.x1, H.out.k1, fun _ => Iff.rfl, fun _ => Iff.rfl, ⟨?_, ?_, ?_, ?_, ?_⟩, ?_⟩, ?_, ?_, ?_⟩
            · exact (hB11.out.block x (Nat.lt_of_lt_of_le hxw (Nat.le_trans HE6.out.size hz10)) (by omega)).trans HX10.out.1
            · have hl : (es ++ [(Value.slice ta0 tn0 tc0, p.at_ E)]).length = N + 1 := by simp [HLEN.out]
              rw [hl, entFlat_append]
              refine rowOwn H9.out.1 fun k hk => ?_
              obtain ⟨cur, hc⟩ := ownAt H9.out.1 hk
              have hkx : k ≠ x := fun e => by
                subst e
                rw [H9.out.2.2.2] at hc
                injection hc with hc
                injection hc with _ e _
                exact absurd e (by decide)
              have hkq : k ≠ q1 := fun e => by
                subst e
                rcases H9.out.2.2.1 with h | h
                · rw [h] at hk
                  have := hew _ hk
                  omega
                · rw [h] at hk
                  injection hk with hk
                  have := h67.size
                  omega
              have hk9 := (Array.getElem?_eq_some_iff.1 hc).1
              exact (hB11.out.block k (Nat.lt_of_lt_of_le hk9 HX10.out.2.1.size) hkq).trans (HX10.out.2.1.block k hk9 hkx)
            · rw [List.map_append, H.out.at'.ents]
              rfl
            · intro q' hq'
              rcases List.mem_append.1 hq' with hq' | hq'
              · have hc := H.out.at'.cuts q' hq'
                refine hc.blocks fun k hk => hold k (hc.lt k hk).2 ?_
                obtain ⟨b0, n0, _, ho⟩ := hc
                obtain ⟨cur, hcc⟩ := ownAt ho hk
                exact H.out.ints hcc
              · rw [List.mem_singleton.1 hq']
                exact (hint HR01.out.1).lower H.out.base
            · refine H.out.at'.map.block ((hk11 kb (Nat.lt_of_lt_of_le H.out.at'.map.lt HE6.out.size) (fun e => ?_) (fun e => ?_) (by have := H.out.at'.map.lt; omega)).trans (HE6.out.block kb H.out.at'.map.lt))
              · subst e
                exact H.out.at'.map.no_cells H.out.at'.heap
              · obtain ⟨cur, hc⟩ := ownAt H.out.at'.row e
                exact H.out.at'.map.no_cells hc
            · have := H.out.ok.next HF.out
              rw [hne] at this
              exact this
            · exact ⟨hB11.out.os.trans (HX10.out.2.1.os.trans (H9.out.2.1.os.trans (h67.os.trans HE6.out.os))), hB11.out.tape.trans (HX10.out.2.1.tape.trans (H9.out.2.1.tape.trans (h67.tape.trans HE6.out.tape))), hB11.out.output.trans (HX10.out.2.1.output.trans (H9.out.2.1.output.trans (h67.output.trans HE6.out.output))), Nat.le_trans HE6.out.size (Nat.le_trans hz10 hB11.out.size), hold⟩
            · intro k hk hs
              rcases hs with rfl | rfl | e
              · exact H.out.sx
              · exact H.out.sk
              · rcases H9.out.2.2.1 with h | h
                · rw [h] at e
                  exact H.out.sr e
                · rw [h] at e
                  injection e with e
                  have := h67.size
                  have := HE6.out.size
                  omega
            · intro k hk ⟨q', hq', hk'⟩
              rcases List.mem_append.1 hq' with hq' | hq'
              · exact (H.out.kk k).2 ⟨q', hq', hk'⟩
              · rw [List.mem_singleton.1 hq'] at hk'
                have := (HR01.out.1.lt k hk').1
                omega
end Go.Proofs.Ytnoeconcpgdjlaa
