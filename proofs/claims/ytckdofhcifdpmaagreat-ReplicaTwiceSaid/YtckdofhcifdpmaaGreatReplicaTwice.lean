/-
  ReplicaTwice: the same message taken once more tells the same and leaves all as it is: for every input the statement's function returns true, and leaves what came in as it was.
-/
import Derived.Test.YtckdofhcifdpmaaGreatBsMath2
import Derived.Test.YtckdofhcifdpmaaGreatBsMsg
import Derived.Test.YtckdofhcifdpmaaGreatBsRpO
import Derived.Test.YtckdofhcifdpmaaGreatBsRpQ
import Derived.Test.YtckdofhcifdpmaaGreatBsRpRaw
namespace Go.Proofs.YtckdofhcifdpmaaGreat
set_option linter.unusedSimpArgs false
set_option linter.unusedVariables false
open Go.ChangeShapes Go.WideShapes Go.ChangeAt Go.RowKit

/-- An operation whose run is known, whatever it is. -/
theorem opAny {P : Program} {ops : Array Oper} {rest : List Oper} {op : Oper} {a : Act} {w w' : World} {Q : Exit → Act → World → Prop} (v : Value) {o : Op} (ho : op.op = o) (hw : Region.wanted op (yielded ops a.tmps) = true) (hr : (execOp a.eval op).run P w = .ok (.value v) w') (hk : wpList P ops Q rest (a.put op.dst v) w') : wpList P ops Q (op :: rest) a w :=
  BigFrame.wpList_want hw fun K hK => by
    unfold Oper.wp
    rw [hr]
    exact hK _ _ hk
theorem ops11_one {w : World} {b : Nat} {m : Msg.M} {rt et sv dv : Value} (h : OpAt11 w b ⟨0, 0, m, false⟩ rt et sv dv) (hm : IsMsg w (.agg (msgCells m rt et sv dv)) m) : Ops11 w (.slice (some ⟨b, 0, none⟩) 1 1) [⟨0, 0, m, false⟩] := by
  have i1 := hm.cells11
  have hone : ∀ i (h : i < [(⟨0, 0, m, false⟩ : Rep.Op)].length), ∃ b' off, some (⟨b, 0, none⟩ : Addr) = some ⟨b', off, none⟩ ∧ OpHere11 w b' (off + i * 25) [(⟨0, 0, m, false⟩ : Rep.Op)][i] := fun i hi => by
    have hi0 : i = 0 := by simp at hi; omega
    subst hi0
    refine ⟨b, 0, rfl, rt, et, sv, dv, fun j v hj => ?_, ⟨i1.1, i1.2.1, i1.2.2.1, i1.2.2.2⟩⟩
    simp only [Nat.zero_add, Nat.zero_mul]
    rw [cell_of_heap h, ← Array.getElem?_toList]
    exact hj
  exact ⟨some ⟨b, 0, none⟩, 1, rfl, Nat.le_refl _, by simp [maxLen], (fun e => by cases e), hone⟩
set_option maxRecDepth 100000 in
set_option maxHeartbeats 40000000 in
theorem replicaTwice_walk (id : Int) (c : Term.C) (s d : Value) (a : Option Addr) (n cp : Nat) (l : List Rep.Op) (v : Value) (m : Msg.M) (W0 : World) (hc : Ints W0 s c.seqs ∧ IRows W0 d c.shards) (h0 : Ops11 W0 (.slice a n cp) l) (hf : ∀ o ∈ l, Wf64 o.n) (hm : IsMsg W0 v m) :
    Calls Tryz.prog 7 #[.agg #[.int .i64 id, .int .i64 c.term, s, d], .slice a n cp, v] W0 fun e W' => e = .returned (.bool true) ∧ Below W0.heap.size W0 W' := by
  obtain ⟨hn, hnc, hc9⟩ := h0.len
  obtain ⟨ra, rn, rc, ea, en, ec, sa, sn, sc, da, dn, dc, rfl, i1, i2, i3, i4⟩ := hm.opened
  obtain ⟨s1, s2, s3, rfl⟩ := intsSlice hc.1
  obtain ⟨d1, d2, d3, rfl⟩ := irowsSlice hc.2
  have hbx := box_msgR
  have hbs := fun w => box_seat11 w id c.term (.slice s1 s2 s3) (.slice d1 d2 d3) ⟨_, _, _, rfl⟩ ⟨_, _, _, rfl⟩
  obtain ⟨tc, htc⟩ : ∃ z, c.term = z := ⟨_, rfl⟩
  obtain ⟨W, hW⟩ : ∃ W, (W0.alloc (.cells #[.int .i64 id, .int .i64 c.term, .slice s1 s2 s3, .slice d1 d2 d3] 27)).alloc (.cells (msgCells m (.slice ra rn rc) (.slice ea en ec) (.slice sa sn sc) (.slice da dn dc)) 56) = W := ⟨_, rfl⟩
  obtain ⟨q, hq⟩ : ∃ q, W0.heap.size = q := ⟨_, rfl⟩
  have hE0 : Ext W0 W := by rw [← hW]; exact (Ext.alloc _ _).trans (Ext.alloc _ _)
  have hzW : W.heap.size = q + 2 := by rw [← hW, World.size_alloc, World.size_alloc]; omega
  have hsW : W.heap[q]? = some (.cells #[.int .i64 id, .int .i64 c.term, .slice s1 s2 s3, .slice d1 d2 d3] 27 (0, 0)) := by rw [← hW, ← hq]; exact heap_ext (heap_alloc_new _ _) (Ext.alloc _ _)
  have hat : MsgAt 56 W (q + 1) m (.slice ra rn rc) (.slice ea en ec) (.slice sa sn sc) (.slice da dn dc) := by rw [← hW, ← hq, show W0.heap.size + 1 = (W0.alloc (.cells #[.int .i64 id, .int .i64 c.term, .slice s1 s2 s3, .slice d1 d2 d3] 27)).heap.size from (World.size_alloc _ _).symm]; exact MsgAt.new _ _ _ _ _ _ _
  rw [htc] at hW hsW hbs
  rw [htc]
  have HW := Lib.hid (And.intro hW hq)
  have HL0 := Lib.hid (h0.below hE0)
  have HF := Lib.hid hf
  have HN := Lib.hid hn.symm
  have HE0 := Lib.hid hE0
  have HTC := Lib.hid htc
  have HSAT := Lib.hid (And.intro hzW (And.intro hsW hat))
  have HI := Lib.hid (show ∀ w', Ext W w' → IsMsg w' (.agg (msgCells m (.slice ra rn rc) (.slice ea en ec) (.slice sa sn sc) (.slice da dn dc))) m from fun w' h => ⟨_, _, _, _, rfl, i1.below (hE0.trans h), i2.below (hE0.trans h), i3.below (hE0.trans h), i4.below (hE0.trans h)⟩)
  have HC := Lib.hid (show ∀ w', Ext W w' → IsConf w' (confV tc (.slice s1 s2 s3) (.slice d1 d2 d3)) c from fun w' h => ⟨_, _, by rw [← htc], hc.1.below (hE0.trans h), hc.2.below (hE0.trans h)⟩)
  have HCB := Lib.hid (show ∀ w', Below W.heap.size W w' → Ints w' (.slice s1 s2 s3) c.seqs ∧ IRows w' (.slice d1 d2 d3) c.shards from fun w' h => ⟨(hc.1.below hE0).below h, (hc.2.below hE0).below h⟩)
  have HMB := Lib.hid (show ∀ w', Below W.heap.size W w' → IsMsg w' (.agg (msgCells m (.slice ra rn rc) (.slice ea en ec) (.slice sa sn sc) (.slice da dn dc))) m from fun w' h => ⟨_, _, _, _, rfl, (i1.below hE0).below h, (i2.below hE0).below h, (i3.below hE0).below h, (i4.below hE0).below h⟩)
  have HFEW := Lib.hid (fun w1 (hE1 : Ext W w1) => few11_any _ l w1 ((h0.below hE0).below hE1))
  have hc0 : W.cell? ⟨q, 0, none⟩ = some (.int .i64 id) := cell_of_heap hsW 0
  have hc1 : W.cell? ⟨q, 1, none⟩ = some (.int .i64 tc) := cell_of_heap hsW 1
  have hc2 : W.cell? ⟨q, 2, none⟩ = some (.slice s1 s2 s3) := cell_of_heap hsW 2
  have hc3 : W.cell? ⟨q, 3, none⟩ = some (.slice d1 d2 d3) := cell_of_heap hsW 3
  clear h0 hf hn hm i1 i2 i3 i4 hW hq hE0 hc htc hsW hat hzW
  go_enter Tryz.func7, Tryz.ntmps7
  go_upto_region 1 with fail
  rw [HW.out.1, HW.out.2]
  clear hbx hbs
  go_wp2_with fail
  refine (new11_any W id _ c (HC.out W (Ext.refl W))).mono ?_
  rintro e w1 ⟨h, hE1⟩
  rcases h with ⟨x, hmay, rfl, hR⟩ | ⟨_, rfl⟩
  case inr =>
    have HE1 := Lib.hid (HE0.out.trans hE1)
    clear hE1
    go_wp2_with fail
    refine (alive11_any w1).mono ?_
    rintro e w2 ⟨rfl, hE2⟩
    have HE2 := Lib.hid (HE1.out.trans hE2)
    clear hE2
    go_wp2_with fail
    go_ret
    exact ⟨rfl, HE2.out⟩
  have hs1 := Seat11.begun (Ext.refl W) hR hE1
  obtain ⟨S, hS⟩ : ∃ S : Nat → Prop, S = fun k => W.heap.size ≤ k ∧ k < w1.heap.size := ⟨_, rfl⟩
  rw [← hS] at hs1
  have HS1 := Lib.hid hs1
  have HMAY := Lib.hid hmay
  clear hR hE1 hs1 hS hmay hc0 hc1 hc2 hc3
  go_wp2_with fail
  refine (HFEW.out w1 HS1.out.ext).mono ?_
  rintro e w2 ⟨⟨b, rfl⟩, hE2⟩
  have HS2 := Lib.hid (HS1.out.extend hE2)
  clear hE2
  cases b with
  | false =>
    go_wp2_with fail
    refine (alive11_any w2).mono ?_
    rintro e w3 ⟨rfl, hE3⟩
    have HE3 := Lib.hid (HE0.out.trans (HS2.out.ext.trans hE3))
    clear hE3
    go_wp2_with fail
    go_ret
    exact ⟨rfl, HE3.out⟩
  | true =>
    have hat2 := HSAT.out.2.2.ext HS2.out.ext
    go_wp2_with (first
      | (refine ldAR (by kernel_rfl) _ rfl rfl hat2 ?_)
      | (refine opAny (.agg (opCells11 ⟨0, 0, m, false⟩ (.slice ra rn rc) (.slice ea en ec) (.slice sa sn sc) (.slice da dn dc))) (o := .build 58 _) rfl (by kernel_rfl) (w' := w2) (by kernel_rfl) ?_)
      | (refine opAny (.slice (some ⟨w2.heap.size, 0, none⟩) 1 1) (o := .buildSlice 29 _ _) rfl (by kernel_rfl) (w' := w2.alloc (.cells (opCells11 ⟨0, 0, m, false⟩ (.slice ra rn rc) (.slice ea en ec) (.slice sa sn sc) (.slice da dn dc)) 58)) (by kernel_rfl) ?_))
    have hE3 : Ext w2 (w2.alloc (.cells (opCells11 ⟨0, 0, m, false⟩ (.slice ra rn rc) (.slice ea en ec) (.slice sa sn sc) (.slice da dn dc)) 58)) := Ext.alloc _ _
    have ho3 : Ops11 _ _ _ := ops11_one (heap_alloc_new w2 (.cells (opCells11 ⟨0, 0, m, false⟩ (.slice ra rn rc) (.slice ea en ec) (.slice sa sn sc) (.slice da dn dc)) 58)) (HI.out _ (HS2.out.ext.trans hE3))
    obtain ⟨w3, hw3⟩ : ∃ z, w2.alloc (.cells (opCells11 ⟨0, 0, m, false⟩ (.slice ra rn rc) (.slice ea en ec) (.slice sa sn sc) (.slice da dn dc)) 58) = z := ⟨_, rfl⟩
    rw [hw3] at hE3 ho3 ⊢
    refine (few11_any _ _ w3 ho3).mono ?_
    rintro e w4 ⟨⟨b, rfl⟩, hE4⟩
    have HS4 := Lib.hid ((HS2.out.extend hE3).extend hE4)
    clear hE3 ho3 hw3 hE4 hat2
    cases b with
    | false =>
      go_wp2_with fail
      refine (alive11_any w4).mono ?_
      rintro e w5 ⟨rfl, hE5⟩
      have HE5 := Lib.hid (HE0.out.trans (HS4.out.ext.trans hE5))
      clear hE5
      go_wp2_with fail
      go_ret
      exact ⟨rfl, HE5.out⟩
    | true =>
      go_wp2_with fail
      go_loopw [7, 48] (fun rv i wr => ∃ (k : Nat) (x : Nat) (S : Nat → Prop) (r : Rep.Rp), k ≤ n ∧ i = .int .i64 k ∧ rv = .pointer (some ⟨x, 0, none⟩) ∧ Hid (Seat11 W S x r wr ∧ Rep.Calm r ∧ r.id = id ∧ r.term = c.term)) (fun _ i _ => n - (intOf i).toNat)
      case atStart => exact ⟨0, _, _, _, by omega, rfl, rfl, Lib.hid ⟨HS4.out, Rep.new_calm id c.term, rfl, rfl⟩⟩
      case round =>
        obtain ⟨k, xr, Sr, r, hk, rfl, rfl, hI⟩ := hrel
        by_cases hlt : k < n
        · have hkl : k < l.length := by rw [HN.out]; exact hlt
          obtain ⟨b, off, a3, n3, c3, a4, n4, c4, a5, n5, c5, a6, n6, c6, rfl, hin, hldw⟩ := HL0.out.at k hkl
          have hld := hldw wr hI.out.1.ext
          obtain ⟨o, hO⟩ : ∃ o, l[k] = o := ⟨_, rfl⟩
          have hon := HF.out l[k] (List.getElem_mem hkl)
          rw [hO] at hld hin hon
          have HIN := Lib.hid hin
          have HON := Lib.hid hon
          clear hO hin hon hldw
          go_upto_region 7 with (first
            | (refine ldAny (by rfl) _ rfl rfl hld ?_)
            | (refine allocO11 (by rfl) rfl ?_; intro W1 q1 hat1 hE1 hq1)
            | (refine putO11 (by rfl) _ _ rfl rfl rfl hat1.out ⟨_, _, _, rfl⟩ ⟨_, _, _, rfl⟩ ⟨_, _, _, rfl⟩ ⟨_, _, _, rfl⟩ ?_; intro W2 hat2 hB2))
          have hq0 := hI.out.1.new (q := q1) (Nat.le_of_eq hq1.out.symm)
          have HS5 := Lib.hid ((hI.out.1.extend hE1.out).but hB2.out hq0.1 hq0.2)
          have hld4 := OpAt11.ld hat2.out
          have g0 : W2.cell? ⟨q1, 0, none⟩ = some (.int .i64 o.kind) := cell_of_heap hat2.out 0
          have hsW := heap_ext HSAT.out.2.1 HS5.out.ext
          have y0 : W2.cell? ⟨q, 0, none⟩ = some (.int .i64 id) := cell_of_heap hsW 0
          have y1 : W2.cell? ⟨q, 1, none⟩ = some (.int .i64 tc) := cell_of_heap hsW 1
          have y2 : W2.cell? ⟨q, 2, none⟩ = some (.slice s1 s2 s3) := cell_of_heap hsW 2
          have y3 : W2.cell? ⟨q, 3, none⟩ = some (.slice d1 d2 d3) := cell_of_heap hsW 3
          clear hq0 hE1 hq1 hat1 hB2 hld hsW
          by_cases hk2 : o.kind = 2
          · rw [hk2] at g0
            go_wp2_with fail
            go_roundw
            case rel => exact ⟨k + 1, _, _, _, by omega, by go_num, rfl, Lib.hid ⟨HS5.out, hI.out.2⟩⟩
            case measure => simp [intOf]; omega
          · have HK2 := Lib.hid hk2
            obtain ⟨kd, hkd⟩ : ∃ z, o.kind = z := ⟨_, rfl⟩
            rw [hkd] at g0 hk2
            clear hkd
            go_wp2_with (refine ldAny (by rfl) _ rfl rfl hld4 ?_)
            have hz := HTC.out
            subst hz
            refine (does11_any HS5.out hI.out.2.1 id c (.slice s1 s2 s3) (.slice d1 d2 d3) (fun w' ht => HCB.out w' (HS5.out.since ht)) HMAY.out hI.out.2.2 o _ _ _ _ HON.out HK2.out (fun w' ht => HIN.out w' (HS5.out.since ht))).mono ?_
            rintro e w6 ⟨x6, mm, er, rfl, S6, hs6, _, _⟩
            have HS6 := Lib.hid hs6
            have HR6 := Lib.hid (show Rep.Calm (r.doN o) ∧ (r.doN o).id = id ∧ (r.doN o).term = c.term from ⟨hI.out.2.1.doN o HK2.out, (Rep.doN_keeps r o).1.trans hI.out.2.2.1, (Rep.doN_keeps r o).2.trans hI.out.2.2.2⟩)
            clear hs6 hld4 g0 y0 y1 y2 y3
            go_upto_region 9 with (first
              | (refine allocMR (by rfl) rfl ?_; intro W7 q7 hat7 hE7 hq7)
              | (refine putMR (m2 := mm) (r2 := .slice none 0 0) (e2 := .slice none 0 0) (s2 := .slice none 0 0) (d2 := .slice none 0 0) (by rfl) _ _ rfl rfl rfl hat7.out noSlice noSlice noSlice noSlice ?_; intro W8 hat8 hB8))
            have hq7b := HS6.out.new (q := q7) (Nat.le_of_eq hq7.out.symm)
            have HS8 := Lib.hid ((HS6.out.extend hE7.out).but hB8.out hq7b.1 hq7b.2)
            clear hq7b hE7 hq7 hat7 hat8 hB8
            go_wp2_with fail
            go_roundw
            case rel => exact ⟨k + 1, _, _, _, by omega, by go_num, rfl, Lib.hid ⟨HS8.out, HR6.out⟩⟩
            case measure => simp [intOf]; omega
        · obtain rfl : k = n := by omega
          have hatr := HSAT.out.2.2.ext hI.out.1.ext
          go_wp2_with (refine ldAR (by rfl) _ rfl rfl hatr ?_)
          refine (own11m_any _ m wr (HI.out wr hI.out.1.ext)).mono ?_
          rintro e w5 ⟨rfl, hE5⟩
          have HS5 := Lib.hid (hI.out.1.extend hE5)
          clear hE5 hatr
          go_wp2_with fail
          obtain ⟨p5, va5, vp5, ev5, es5, hrep⟩ := HS5.out.rep
          refine (take11_any hrep (fun k hk => (HS5.out.low k hk).2) _ m (fun w' ht => HMB.out w' (HS5.out.since ht))).mono ?_
          rintro e w6 ⟨rfl, hl6⟩
          obtain ⟨S6, hs6, _, _⟩ := HS5.out.step hl6
          have HS6 := Lib.hid hs6
          have HP := Lib.hid (Rep.take_plain r m)
          have HTW := Lib.hid (Rep.take_twice r m)
          obtain ⟨r1, hr1⟩ : ∃ z, (r.take m).1 = z := ⟨_, rfl⟩
          obtain ⟨m1, hm1⟩ : ∃ z, (r.take m).2.1 = z := ⟨_, rfl⟩
          obtain ⟨er, her⟩ : ∃ z, (r.take m).2.2 = z := ⟨_, rfl⟩
          rw [hr1] at HS6
          rw [hm1] at HP
          rw [hm1, her]
          have HEQ := Lib.hid (And.intro hr1 (And.intro hm1 her))
          clear hl6 hs6 hrep hr1 hm1 her
          go_wp2_with (first
            | (refine allocM (by rfl) rfl ?_; intro W7 q7 hat7 hE7 hq7)
            | (refine putM (m2 := m1) (r2 := .slice none 0 0) (e2 := .slice none 0 0) (s2 := .slice none 0 0) (d2 := .slice none 0 0) (by rfl) _ _ rfl rfl rfl hat7.out noSlice noSlice noSlice noSlice ?_; intro W8 hat8 hB8))
          have hq7b := HS6.out.new (q := q7) (Nat.le_of_eq hq7.out.symm)
          have HS8 := Lib.hid ((HS6.out.extend hE7.out).but hB8.out hq7b.1 hq7b.2)
          have HA8 := Lib.hid hat8.out
          have HQ7 := Lib.hid hq7b
          clear hq7b hE7 hq7 hat7 hat8 hB8
          refine (told11_own HS8.out.rep).mono ?_
          rintro e w9 ht9
          obtain ⟨v9, rfl, hE9, hc9⟩ := shown11_own ht9
          have HS9 := Lib.hid (HS8.out.extend hE9)
          have HE9 := Lib.hid hE9
          have HC9 := Lib.hid hc9
          clear ht9 hE9 hc9
          go_wp2_with fail
          refine HC9.out.mono ?_
          rintro e w10 ⟨v10, rfl, hE10, ho10⟩
          have HS10 := Lib.hid (HS9.out.extend hE10)
          have HO10 := Lib.hid ho10
          have HA10 := Lib.hid ((HA8.out.ext HE9.out).ext hE10)
          have HLE := Lib.hid (show ∀ k, S6 k → k < W8.heap.size from fun k hk => (HS8.out.low k hk).2)
          obtain ⟨v10a, v10n, v10c, rfl, -⟩ := ho10.open
          clear ho10 hE10
          have hatr2 := HSAT.out.2.2.ext HS10.out.ext
          go_wp2_with (refine ldAR (by rfl) _ rfl rfl hatr2 ?_)
          refine (own11m_any _ m w10 (HI.out w10 HS10.out.ext)).mono ?_
          rintro e w11 ⟨rfl, hE11⟩
          have HS11 := Lib.hid (HS10.out.extend hE11)
          have HO11 := Lib.hid (HO10.out.ext hE11)
          have HA11 := Lib.hid (HA10.out.ext hE11)
          clear hE11 hatr2
          go_wp2_with fail
          obtain ⟨p11, va11, vp11, ev11, es11, hrep11⟩ := HS11.out.rep
          refine (take11_any hrep11 (fun k hk => (HS11.out.low k hk).2) _ m (fun w' ht => HMB.out w' (HS11.out.since ht))).mono ?_
          have htw := HTW.out
          rw [HEQ.out.1] at htw
          rw [htw]
          clear htw
          unfold GivesTold
          rw [HEQ.out.2.1, HEQ.out.2.2, HEQ.out.1]
          rintro e w12 ⟨rfl, hl12⟩
          obtain ⟨S12, hs12, ht12, _⟩ := HS11.out.step hl12
          have HS12 := Lib.hid hs12
          have HO12 := Lib.hid (HO11.out.tws ht12 fun k _ hk => HLE.out k hk)
          have HA12 := Lib.hid (HA11.out.tws ht12 HQ7.out.1)
          clear hl12 hs12 ht12 hrep11
          go_wp2_with (first
            | (refine allocM (by rfl) rfl ?_; intro W13 q13 hat13 hE13 hq13)
            | (refine putM (m2 := m1) (r2 := .slice none 0 0) (e2 := .slice none 0 0) (s2 := .slice none 0 0) (d2 := .slice none 0 0) (by rfl) _ _ rfl rfl rfl hat13.out noSlice noSlice noSlice noSlice ?_; intro W14 hat14 hB14))
          have hq13b := HS12.out.new (q := q13) (Nat.le_of_eq hq13.out.symm)
          have HS14 := Lib.hid ((HS12.out.extend hE13.out).but hB14.out hq13b.1 hq13b.2)
          have hne13 : q7 ≠ q13 := by have h1 := HA12.out.lt; have h2 := hq13.out; omega
          have HA14 := Lib.hid (And.intro ((HA12.out.ext hE13.out).but hB14.out hne13) hat14.out)
          have HO14 := Lib.hid (HO12.out.blocks (w' := W14) fun k _ hk2 => (hB14.out.block k (Nat.lt_of_lt_of_le hk2 hE13.out.size) (by have := hq13.out; omega)).trans (hE13.out.block k hk2))
          clear hq13b hne13 hE13 hq13 hat13 hat14 hB14
          refine (alive11_any W14).mono ?_
          rintro e w15 ⟨rfl, hE15⟩
          have hA15 := (HA14.out.1.ext hE15)
          have hB15 := (HA14.out.2.ext hE15)
          have HS15 := Lib.hid (HS14.out.extend hE15)
          have HO15 := Lib.hid (HO14.out.ext hE15)
          clear hE15
          go_wp2_with (first
            | (refine ldA (by rfl) _ rfl rfl hA15 ?_)
            | (refine ldA (by rfl) _ rfl rfl hB15 ?_))
          refine (same7_any _ _ m1 m1 w15 (HP.out w15) (HP.out w15)).mono ?_
          rw [Msg.alike_self]
          rintro e w16 ⟨rfl, hE16⟩
          have HS16 := Lib.hid (HS15.out.extend hE16)
          have HO16 := Lib.hid (HO15.out.ext hE16)
          clear hE16 hA15 hB15
          go_wp2_with fail
          refine (told11_own HS16.out.rep).mono ?_
          rintro e w17 ht17
          obtain ⟨v17, rfl, hE17, hc17⟩ := shown11_own ht17
          have HC17 := Lib.hid hc17
          have HS17 := Lib.hid (HS16.out.extend hE17)
          have HO17 := Lib.hid (HO16.out.ext hE17)
          clear ht17 hE17 hc17
          go_wp2_with fail
          refine HC17.out.mono ?_
          rintro e w18 ⟨v18, rfl, hE18, ho18⟩
          have HS18 := Lib.hid (HS17.out.extend hE18)
          have HO18 := Lib.hid (HO17.out.ext hE18)
          have HP18 := Lib.hid ho18
          obtain ⟨v18a, v18n, v18c, rfl, -⟩ := ho18.open
          clear ho18 hE18
          go_wp2_with fail
          refine (refSameAll11 _ _ r1.w.l w18 HP18.out.ents HO18.out.ents).mono ?_
          rintro e w19 ⟨rfl, hE19⟩
          have HS19 := Lib.hid (HS18.out.extend hE19)
          clear hE19
          go_wp2_with fail
          go_ret
          exact ⟨rfl, HE0.out.trans HS19.out.ext⟩
namespace replicaTwice
theorem own : ownKnob Tryz.prog.godebug = none := by kernel_rfl
theorem laidOut : laidOutB Tryz.prog = true := by kernel_rfl
set_option linter.unusedVariables false in
set_option maxRecDepth 100000 in
theorem lifted (os : Os) (started : os.Started) (H : Type) (enc : TypeId × Value → H) :
    ReturnsInHanded {} Tryz.checked os 7 .any (Rows.replicaTwiceSpec.pre6 enc Tryz.prog Tryz.f7 Rows.replicaTwiceRow.domain false) (Rows.replicaTwiceSpec.post enc Tryz.prog Tryz.f7 false true false false) := by
  refine returnsInHanded_of_change_sized (C := Tryz.checked) own started (by kernel_rfl) Tryz.func7
    (ChangeSpec.witness6 (enc := enc) (C := Tryz.checked) false ⟨#[], #[.agg #[.int .i64 0, .int .i64 0, .slice none 0 0, .slice none 0 0], .slice none 0 0, .agg #[.int .i64 0, .int .i64 0, .int .i64 0, .int .i64 0, .int .i64 0, .int .i64 0, .bool false, .int .i64 0, .int .i64 0, .slice none 0 0, .string ByteArray.empty, .int .i64 0, .int .i64 0, .slice none 0 0, .int .i64 0, .int .i64 0, .int .i64 0, .int .i64 0, .int .i64 0, .int .i64 0, .slice none 0 0, .slice none 0 0]], []⟩ 8 (by kernel_rfl) (by kernel_rfl) (by kernel_rfl) (by kernel_rfl)) ?_
  intro W base args ds gs before hval0 hW hcnd hsz _
  have hval : ∀ (j : Nat) t v, Tryz.f7.params[j]? = some t → args[j]? = some v → Value.okWide Tryz.prog W .any base t v := hval0
  have hW' := hW
  obtain ⟨p, q, hA0, hV, rfl, hfz, hnd⟩ := hW'
  have hA : DataW.TrodAll enc Tryz.prog W 0 (fun _ => true) true Tryz.f7.params.toList args.toList ds p := hA0
  rw [Tryz.params7] at hA hval
  obtain ⟨v0, vs0, d0, ds0, p0, q0, hargs, rfl, rfl, h0, r0⟩ := trodAll_cons hA
  obtain ⟨v1, vs1, d1, ds1, p1, q1, rfl, rfl, rfl, h1, r1⟩ := trodAll_cons r0
  obtain ⟨v2, vs2, d2, ds2, p2, q2, rfl, rfl, rfl, h2, r2⟩ := trodAll_cons r1
  obtain ⟨rfl, rfl, rfl⟩ := trodAll_nil r2
  obtain rfl : args = #[v0, v1, v2] := by cases args; simp_all
  obtain ⟨rfl, rfl⟩ := trodVars_none hV
  have k0 := h0
  have lt0 : ∀ x ∈ p0, x.block < W.heap.size := by obtain ⟨m, hm⟩ := k0; exact DataW.trod_lt m _ _ _ hm
  obtain ⟨a0, l0, sv0, dv0, rfl, w0⟩ := seat_arg11 (hval 0 27 v0 rfl rfl) h0
  have k1 := h1
  have lt1 : ∀ x ∈ p1, x.block < W.heap.size := by obtain ⟨m, hm⟩ := k1; exact DataW.trod_lt m _ _ _ hm
  obtain ⟨a1, len1, cap1, rfl⟩ := okWide_slice Tryz.underlying29 (hval 1 29 v1 rfl rfl)
  obtain ⟨l1, w1, f1⟩ : ∃ l, Ops11 W (.slice a1 len1 cap1) l ∧ ∀ o ∈ l, Wf64 o.n := by
    obtain ⟨fuel, hf⟩ := h1
    obtain ⟨v, l, hcs, hb, hft⟩ := ops11_of_raw hf
    simp [Value.cells] at hcs
    subst hcs
    exact ⟨l, hb, hft⟩
  have k2 := h2
  have lt2 : ∀ x ∈ p2, x.block < W.heap.size := by obtain ⟨m, hm⟩ := k2; exact DataW.trod_lt m _ _ _ hm
  obtain ⟨l2, w2⟩ := msg_arg (hval 2 56 v2 rfl rfl) h2
  clear hA0 hval0
  refine (replicaTwice_walk a0 l0 sv0 dv0 a1 len1 cap1 l1 v2 l2 W w0 w1 f1 w2).mono fun e W' ⟨he, bel⟩ => ?_
  subst he
  exact ⟨_, rfl, _, _, _, [], _, [], hW, trodAll_mk1 (shut_bool Tryz.underlying4 _), (trodAll_cons_mk (Below.trod laidOut (by kernel_rfl) (of_decide_eq_true (by kernel_rfl)) k0 bel lt0) (trodAll_cons_mk (Below.trod laidOut (by kernel_rfl) (of_decide_eq_true (by kernel_rfl)) k1 bel lt1) (trodAll_cons_mk (Below.trod laidOut (by kernel_rfl) (of_decide_eq_true (by kernel_rfl)) k2 bel lt2) trodAll_mk0))), rfl, bel.frame _, fun h => by cases h⟩
theorem over : Rows.replicaTwiceRow.holds Tryz.pinned (OpenSpec.ofChange Rows.replicaTwiceSpec) :=
  OpenClaim.holds_of_wide 7 Tryz.f7 rfl rfl rfl rfl rfl rfl rfl ⟨rfl, rfl, rfl, rfl, rfl⟩ rfl rfl rfl rfl rfl (by kernel_rfl) Tryz.func7 (by kernel_rfl)
    (of_decide_eq_true (by kernel_rfl)) (by unfold Func.isWrapper; first | (rw [if_pos (by decide +kernel)]; kernel_rfl) | (rw [if_neg (by decide +kernel)]; exact ⟨rfl, rfl⟩))
    (fun os started H enc _ => lifted os started H enc)
theorem proved : Rows.ReplicaTwiceSaid := over
end replicaTwice
end Go.Proofs.YtckdofhcifdpmaaGreat
