/-
  ReplicaLasts: what was told to be ordered, or sealed, is so behind any crash: for every input the statement's function returns true, and leaves what came in as it was.
-/
import Derived.Test.YtckdofhcifdpmaaGreatBsMath2
import Derived.Test.YtckdofhcifdpmaaGreatBsMsg
import Derived.Test.YtckdofhcifdpmaaGreatBsRpO
import Derived.Test.YtckdofhcifdpmaaGreatBsRpQ
import Derived.Test.YtckdofhcifdpmaaGreatBsRpRaw
namespace Go.Proofs.YtckdofhcifdpmaaGreat
set_option linter.unusedSimpArgs false
set_option linter.unusedVariables false
open Go.ChangeShapes Go.WideShapes Go.ChangeAt Go.RowKit

theorem box_last11 (w : World) (m : Msg.M) (keep : Int) (rt et sv dv : Value) : (Instr.box 75 (.agg (lastCells11 m keep rt et sv dv))).run Tryz.prog w = .ok (.pointer (some ⟨w.heap.size, 0, none⟩)) (w.alloc (.cells (lastCells11 m keep rt et sv dv) 75)) := by kernel_rfl
theorem build_msg11z (w : World) : (Instr.build 79 #[]).run Tryz.prog w = .ok (.agg (msgCells Msg.none0 (.slice none 0 0) (.slice none 0 0) (.slice none 0 0) (.slice none 0 0))) w := by kernel_rfl
def LastAt11 (w : World) (b : Nat) (m : Msg.M) (keep : Int) (rt et sv dv : Value) : Prop := w.heap[b]? = some (.cells (lastCells11 m keep rt et sv dv) 75 (0, 0))
theorem LastAt11.range {w : World} {b : Nat} {m : Msg.M} {keep : Int} {rt et sv dv : Value} (h : LastAt11 w b m keep rt et sv dv) : w.rangeAt b 0 (msgCells m rt et sv dv).toList := fun j v hj => by
  rw [cell_of_heap h, ← Array.getElem?_toList, lastCells11_split, List.getElem?_append_left (by have := (List.getElem?_eq_some_iff.1 hj).1; simpa using this)]
  simpa using hj
theorem LastAt11.ld {w : World} {b : Nat} {m : Msg.M} {keep : Int} {rt et sv dv : Value} (h : LastAt11 w b m keep rt et sv dv) : (Instr.loadAt 56 (.pointer (some ⟨b, 0, none⟩))).run Tryz.prog w = .ok (.agg (msgCells m rt et sv dv)) w :=
  run_loadAt_mid w b 0 56 (msgCells m rt et sv dv).toList _ h.range Tryz.underlying56 rfl (by kernel_rfl)
theorem Rep.told_bad11 {r : Rep.Rp} {m : Msg.M} (h : (r.take m).2.2 ≠ 0) : (r.take m).2.1 = Msg.none0 := by
  have ht : ∀ q k err, (Rep.tell q k m err).2.2 ≠ 0 → (Rep.tell q k m err).2.1 = Msg.none0 := fun q k err h => by
    unfold Rep.tell at h ⊢
    split
    · next e => rw [if_pos e] at h; exact absurd rfl h
    · rfl
  unfold Rep.Rp.take at h ⊢
  split
  · rfl
  · next h1 =>
    rw [if_neg h1] at h
    split
    · next h2 => rw [if_pos h2] at h; exact ht _ _ _ h
    · next h2 =>
      rw [if_neg h2] at h
      split
      · next h3 => rw [if_pos h3] at h; exact ht _ _ _ h
      · rfl
set_option maxRecDepth 100000 in
set_option maxHeartbeats 40000000 in
theorem replicaLasts_walk (id : Int) (c : Term.C) (s d : Value) (a : Option Addr) (n cp : Nat) (l : List Rep.Op) (m : Msg.M) (keep : Int) (rv ev sv dv : Value) (W0 : World) (hc : Ints W0 s c.seqs ∧ IRows W0 d c.shards) (h0 : Ops11 W0 (.slice a n cp) l) (hf : ∀ o ∈ l, Wf64 o.n) (hm : IsMsg W0 (.agg (msgCells m rv ev sv dv)) m) (hkp : Wf64 keep) :
    Calls Tryz.prog 4 #[.agg #[.int .i64 id, .int .i64 c.term, s, d], .slice a n cp, .agg (lastCells11 m keep rv ev sv dv)] W0 fun e W' => e = .returned (.bool true) ∧ Below W0.heap.size W0 W' := by
  obtain ⟨hn, hnc, hc9⟩ := h0.len
  obtain ⟨rt', et', sv', dv', hmv, i1, i2, i3, i4⟩ := hm
  obtain ⟨rfl, rfl, rfl, rfl⟩ : rv = rt' ∧ ev = et' ∧ sv = sv' ∧ dv = dv' := by
    injection hmv with hmv
    have h9 := congrArg (fun z : Array Value => z[9]?) hmv
    have h13 := congrArg (fun z : Array Value => z[13]?) hmv
    have h20 := congrArg (fun z : Array Value => z[20]?) hmv
    have h21 := congrArg (fun z : Array Value => z[21]?) hmv
    simp [msgCells] at h9 h13 h20 h21
    exact ⟨h9, h13, h20, h21⟩
  clear hmv
  obtain ⟨ra, rn, rc, rfl⟩ := intsSlice i1
  obtain ⟨ea, en, ec, rfl⟩ := intsSlice i2
  obtain ⟨sa, sn, sc, rfl⟩ := intsSlice i3
  obtain ⟨da, dn, dc, rfl⟩ := irowsSlice i4
  obtain ⟨s1, s2, s3, rfl⟩ := intsSlice hc.1
  obtain ⟨d1, d2, d3, rfl⟩ := irowsSlice hc.2
  have hbx := fun w => box_last11 w m keep (.slice ra rn rc) (.slice ea en ec) (.slice sa sn sc) (.slice da dn dc)
  have hbs := fun w => box_seat11 w id c.term (.slice s1 s2 s3) (.slice d1 d2 d3) ⟨_, _, _, rfl⟩ ⟨_, _, _, rfl⟩
  obtain ⟨tc, htc⟩ : ∃ z, c.term = z := ⟨_, rfl⟩
  obtain ⟨W, hW⟩ : ∃ W, (W0.alloc (.cells #[.int .i64 id, .int .i64 c.term, .slice s1 s2 s3, .slice d1 d2 d3] 27)).alloc (.cells (lastCells11 m keep (.slice ra rn rc) (.slice ea en ec) (.slice sa sn sc) (.slice da dn dc)) 75) = W := ⟨_, rfl⟩
  obtain ⟨q, hq⟩ : ∃ q, W0.heap.size = q := ⟨_, rfl⟩
  have hE0 : Ext W0 W := by rw [← hW]; exact (Ext.alloc _ _).trans (Ext.alloc _ _)
  have hzW : W.heap.size = q + 2 := by rw [← hW, World.size_alloc, World.size_alloc]; omega
  have hsW : W.heap[q]? = some (.cells #[.int .i64 id, .int .i64 c.term, .slice s1 s2 s3, .slice d1 d2 d3] 27 (0, 0)) := by rw [← hW, ← hq]; exact heap_ext (heap_alloc_new _ _) (Ext.alloc _ _)
  have hat : LastAt11 W (q + 1) m keep (.slice ra rn rc) (.slice ea en ec) (.slice sa sn sc) (.slice da dn dc) := by unfold LastAt11; rw [← hW, ← hq, show W0.heap.size + 1 = (W0.alloc (.cells #[.int .i64 id, .int .i64 c.term, .slice s1 s2 s3, .slice d1 d2 d3] 27)).heap.size from (World.size_alloc _ _).symm]; exact heap_alloc_new _ _
  rw [htc] at hW hsW hbs
  rw [htc]
  have HW := Lib.hid (And.intro hW hq)
  have HL0 := Lib.hid (h0.below hE0)
  have HF := Lib.hid hf
  have HN := Lib.hid hn.symm
  have HE0 := Lib.hid hE0
  have HTC := Lib.hid htc
  have HKP := Lib.hid hkp
  have HSAT := Lib.hid (And.intro hzW (And.intro hsW hat))
  have HI := Lib.hid (show ∀ w', Ext W w' → IsMsg w' (.agg (msgCells m (.slice ra rn rc) (.slice ea en ec) (.slice sa sn sc) (.slice da dn dc))) m from fun w' h => ⟨_, _, _, _, rfl, i1.below (hE0.trans h), i2.below (hE0.trans h), i3.below (hE0.trans h), i4.below (hE0.trans h)⟩)
  have HC := Lib.hid (show ∀ w', Ext W w' → IsConf w' (confV tc (.slice s1 s2 s3) (.slice d1 d2 d3)) c from fun w' h => ⟨_, _, by rw [← htc], hc.1.below (hE0.trans h), hc.2.below (hE0.trans h)⟩)
  have HCB := Lib.hid (show ∀ w', Below W.heap.size W w' → Ints w' (.slice s1 s2 s3) c.seqs ∧ IRows w' (.slice d1 d2 d3) c.shards from fun w' h => ⟨(hc.1.below hE0).below h, (hc.2.below hE0).below h⟩)
  have HMB := Lib.hid (show ∀ w', Below W.heap.size W w' → IsMsg w' (.agg (msgCells m (.slice ra rn rc) (.slice ea en ec) (.slice sa sn sc) (.slice da dn dc))) m from fun w' h => ⟨_, _, _, _, rfl, (i1.below hE0).below h, (i2.below hE0).below h, (i3.below hE0).below h, (i4.below hE0).below h⟩)
  have HFEW := Lib.hid (fun w1 (hE1 : Ext W w1) => few11_any _ l w1 ((h0.below hE0).below hE1))
  have hc0 : W.cell? ⟨q, 0, none⟩ = some (.int .i64 id) := cell_of_heap hsW 0
  have hc1 : W.cell? ⟨q, 1, none⟩ = some (.int .i64 tc) := cell_of_heap hsW 1
  have hc2 : W.cell? ⟨q, 2, none⟩ = some (.slice s1 s2 s3) := cell_of_heap hsW 2
  have hc3 : W.cell? ⟨q, 3, none⟩ = some (.slice d1 d2 d3) := cell_of_heap hsW 3
  clear h0 hf hn i1 i2 i3 i4 hW hq hE0 hc htc hsW hat hzW hkp
  go_enter Tryz.func4, Tryz.ntmps4
  go_upto_region 1 with fail
  rw [HW.out.1, HW.out.2]
  clear hbx hbs
  go_wp2_with fail
  refine (new11_any W id _ c (HC.out W (Ext.refl W))).mono ?_
  rintro e w1 ⟨h, hE1⟩
  rcases h with ⟨x, hmay, rfl, hR⟩ | ⟨_, rfl⟩
  case inr =>
    have HE1 := Lib.hid (HE0.out.trans hE1)
    clear hE1
    go_wp2_with fail
    refine (alive11_any w1).mono ?_
    rintro e w2 ⟨rfl, hE2⟩
    have HE2 := Lib.hid (HE1.out.trans hE2)
    clear hE2
    go_wp2_with fail
    go_ret
    exact ⟨rfl, HE2.out⟩
  have hs1 := Seat11.begun (Ext.refl W) hR hE1
  obtain ⟨S, hS⟩ : ∃ S : Nat → Prop, S = fun k => W.heap.size ≤ k ∧ k < w1.heap.size := ⟨_, rfl⟩
  rw [← hS] at hs1
  have HS1 := Lib.hid hs1
  have HMAY := Lib.hid hmay
  clear hR hE1 hs1 hS hmay hc0 hc1 hc2 hc3
  go_wp2_with fail
  refine (HFEW.out w1 HS1.out.ext).mono ?_
  rintro e w2 ⟨⟨b, rfl⟩, hE2⟩
  have HS2 := Lib.hid (HS1.out.extend hE2)
  clear hE2
  cases b with
  | false =>
    go_wp2_with fail
    refine (alive11_any w2).mono ?_
    rintro e w3 ⟨rfl, hE3⟩
    have HE3 := Lib.hid (HE0.out.trans (HS2.out.ext.trans hE3))
    clear hE3
    go_wp2_with fail
    go_ret
    exact ⟨rfl, HE3.out⟩
  | true =>
    go_wp2_with fail
    go_loopw [7, 39] (fun rv i wr => ∃ (k : Nat) (x : Nat) (S : Nat → Prop) (r : Rep.Rp), k ≤ n ∧ i = .int .i64 k ∧ rv = .pointer (some ⟨x, 0, none⟩) ∧ Hid (Seat11 W S x r wr ∧ Rep.Calm r ∧ r.id = id ∧ r.term = c.term)) (fun _ i _ => n - (intOf i).toNat)
    case atStart => exact ⟨0, _, _, _, by omega, rfl, rfl, Lib.hid ⟨HS2.out, Rep.new_calm id c.term, rfl, rfl⟩⟩
    case round =>
      obtain ⟨k, xr, Sr, r, hk, rfl, rfl, hI⟩ := hrel
      by_cases hlt : k < n
      · have hkl : k < l.length := by rw [HN.out]; exact hlt
        obtain ⟨b, off, a3, n3, c3, a4, n4, c4, a5, n5, c5, a6, n6, c6, rfl, hin, hldw⟩ := HL0.out.at k hkl
        have hld := hldw wr hI.out.1.ext
        obtain ⟨o, hO⟩ : ∃ o, l[k] = o := ⟨_, rfl⟩
        have hon := HF.out l[k] (List.getElem_mem hkl)
        rw [hO] at hld hin hon
        have HIN := Lib.hid hin
        have HON := Lib.hid hon
        clear hO hin hon hldw
        go_upto_region 7 with (first
          | (refine ldAny (by rfl) _ rfl rfl hld ?_)
          | (refine allocO11 (by rfl) rfl ?_; intro W1 q1 hat1 hE1 hq1)
          | (refine putO11 (by rfl) _ _ rfl rfl rfl hat1.out ⟨_, _, _, rfl⟩ ⟨_, _, _, rfl⟩ ⟨_, _, _, rfl⟩ ⟨_, _, _, rfl⟩ ?_; intro W2 hat2 hB2))
        have hq0 := hI.out.1.new (q := q1) (Nat.le_of_eq hq1.out.symm)
        have HS5 := Lib.hid ((hI.out.1.extend hE1.out).but hB2.out hq0.1 hq0.2)
        have hld4 := OpAt11.ld hat2.out
        have g0 : W2.cell? ⟨q1, 0, none⟩ = some (.int .i64 o.kind) := cell_of_heap hat2.out 0
        have hsW := heap_ext HSAT.out.2.1 HS5.out.ext
        have y0 : W2.cell? ⟨q, 0, none⟩ = some (.int .i64 id) := cell_of_heap hsW 0
        have y1 : W2.cell? ⟨q, 1, none⟩ = some (.int .i64 tc) := cell_of_heap hsW 1
        have y2 : W2.cell? ⟨q, 2, none⟩ = some (.slice s1 s2 s3) := cell_of_heap hsW 2
        have y3 : W2.cell? ⟨q, 3, none⟩ = some (.slice d1 d2 d3) := cell_of_heap hsW 3
        clear hq0 hE1 hq1 hat1 hB2 hld hsW
        by_cases hk2 : o.kind = 2
        · rw [hk2] at g0
          go_wp2_with fail
          go_roundw
          case rel => exact ⟨k + 1, _, _, _, by omega, by go_num, rfl, Lib.hid ⟨HS5.out, hI.out.2⟩⟩
          case measure => simp [intOf]; omega
        · have HK2 := Lib.hid hk2
          obtain ⟨kd, hkd⟩ : ∃ z, o.kind = z := ⟨_, rfl⟩
          rw [hkd] at g0 hk2
          clear hkd
          go_wp2_with (refine ldAny (by rfl) _ rfl rfl hld4 ?_)
          have hz := HTC.out
          subst hz
          refine (does11_any HS5.out hI.out.2.1 id c (.slice s1 s2 s3) (.slice d1 d2 d3) (fun w' ht => HCB.out w' (HS5.out.since ht)) HMAY.out hI.out.2.2 o _ _ _ _ HON.out HK2.out (fun w' ht => HIN.out w' (HS5.out.since ht))).mono ?_
          rintro e w6 ⟨x6, mm, er, rfl, S6, hs6, _, _⟩
          have HS6 := Lib.hid hs6
          have HR6 := Lib.hid (show Rep.Calm (r.doN o) ∧ (r.doN o).id = id ∧ (r.doN o).term = c.term from ⟨hI.out.2.1.doN o HK2.out, (Rep.doN_keeps r o).1.trans hI.out.2.2.1, (Rep.doN_keeps r o).2.trans hI.out.2.2.2⟩)
          clear hs6 hld4 g0 y0 y1 y2 y3
          go_upto_region 9 with (first
            | (refine allocMR (by rfl) rfl ?_; intro W7 q7 hat7 hE7 hq7)
            | (refine putMR (m2 := mm) (r2 := .slice none 0 0) (e2 := .slice none 0 0) (s2 := .slice none 0 0) (d2 := .slice none 0 0) (by rfl) _ _ rfl rfl rfl hat7.out noSlice noSlice noSlice noSlice ?_; intro W8 hat8 hB8))
          have hq7b := HS6.out.new (q := q7) (Nat.le_of_eq hq7.out.symm)
          have HS8 := Lib.hid ((HS6.out.extend hE7.out).but hB8.out hq7b.1 hq7b.2)
          clear hq7b hE7 hq7 hat7 hat8 hB8
          go_wp2_with fail
          go_roundw
          case rel => exact ⟨k + 1, _, _, _, by omega, by go_num, rfl, Lib.hid ⟨HS8.out, HR6.out⟩⟩
          case measure => simp [intOf]; omega
      · obtain rfl : k = n := by omega
        have hatr := LastAt11.ld (heap_ext HSAT.out.2.2 hI.out.1.ext)
        go_wp2_with (refine ldAny (by rfl) _ rfl rfl hatr ?_)
        refine (own11m_any _ m wr (HI.out wr hI.out.1.ext)).mono ?_
        rintro e w5 ⟨rfl, hE5⟩
        have HS5 := Lib.hid (hI.out.1.extend hE5)
        clear hE5 hatr
        go_wp2_with fail
        obtain ⟨p5, va5, vp5, ev5, es5, hrep⟩ := HS5.out.rep
        refine (take11_any hrep (fun k hk => (HS5.out.low k hk).2) _ m (fun w' ht => HMB.out w' (HS5.out.since ht))).mono ?_
        rintro e w6 ⟨rfl, hl6⟩
        obtain ⟨S6, hs6, _, _⟩ := HS5.out.step hl6
        have HS6 := Lib.hid hs6
        have HP := Lib.hid (Rep.take_plain r m)
        have HBAD := Lib.hid (@Rep.told_bad11 r m)
        have HLAST := Lib.hid (fun he => Rep.lasts hI.out.2.1 (m := m) he keep)
        obtain ⟨r1, hr1⟩ : ∃ z, (r.take m).1 = z := ⟨_, rfl⟩
        obtain ⟨m1, hm1⟩ : ∃ z, (r.take m).2.1 = z := ⟨_, rfl⟩
        obtain ⟨er, her⟩ : ∃ z, (r.take m).2.2 = z := ⟨_, rfl⟩
        rw [hr1] at HS6
        rw [hm1] at HP
        rw [hm1, her] at HBAD
        rw [hm1, her, hr1] at HLAST
        rw [hm1, her]
        clear hl6 hs6 hrep hr1 hm1 her
        by_cases hz : er = 0
        case neg =>
          obtain rfl := HBAD.out hz
          go_wp2_with (first
            | (refine allocM (by rfl) rfl ?_; intro W7 q7 hat7 hE7 hq7)
            | (refine putM (m2 := Msg.none0) (r2 := .slice none 0 0) (e2 := .slice none 0 0) (s2 := .slice none 0 0) (d2 := .slice none 0 0) (by rfl) _ _ rfl rfl rfl hat7.out noSlice noSlice noSlice noSlice ?_; intro W8 hat8 hB8))
          have hq7b := HS6.out.new (q := q7) (Nat.le_of_eq hq7.out.symm)
          have HS8 := Lib.hid ((HS6.out.extend hE7.out).but hB8.out hq7b.1 hq7b.2)
          have HA8 := Lib.hid hat8.out
          have HQ7 := Lib.hid hq7b
          clear hq7b hE7 hq7 hat7 hat8 hB8
          refine (alive11_any W8).mono ?_
          rintro e w9 ⟨rfl, hE9⟩
          have hA9 := HA8.out.ext hE9
          have HS9 := Lib.hid (HS8.out.extend hE9)
          have hbz := build_msg11z
          clear hE9
          go_wp2_with (refine ldA (by rfl) _ rfl rfl hA9 ?_)
          refine (same7_any _ _ Msg.none0 Msg.none0 w9 (HP.out w9) (HP.out w9)).mono ?_
          rw [Msg.alike_self]
          rintro e w10 ⟨rfl, hE10⟩
          have HS10 := Lib.hid (HS9.out.extend hE10)
          clear hE10 hA9
          go_wp2_with fail
          go_ret
          exact ⟨rfl, HE0.out.trans HS10.out.ext⟩
        case pos =>
          subst hz
          have HL := Lib.hid (HLAST.out rfl)
          go_wp2_with (first
            | (refine allocM (by rfl) rfl ?_; intro W7 q7 hat7 hE7 hq7)
            | (refine putM (m2 := m1) (r2 := .slice none 0 0) (e2 := .slice none 0 0) (s2 := .slice none 0 0) (d2 := .slice none 0 0) (by rfl) _ _ rfl rfl rfl hat7.out noSlice noSlice noSlice noSlice ?_; intro W8 hat8 hB8))
          have hq7b := HS6.out.new (q := q7) (Nat.le_of_eq hq7.out.symm)
          have HS8 := Lib.hid ((HS6.out.extend hE7.out).but hB8.out hq7b.1 hq7b.2)
          have HA8 := Lib.hid hat8.out
          have HQ7 := Lib.hid hq7b
          clear hq7b hE7 hq7 hat7 hat8 hB8
          refine (told11_own HS8.out.rep).mono ?_
          rintro e w9 ht9
          obtain ⟨v9, rfl, hE9, hc9⟩ := shown11_own ht9
          have HS9 := Lib.hid (HS8.out.extend hE9)
          have HE9 := Lib.hid hE9
          have HC9 := Lib.hid hc9
          clear ht9 hE9 hc9
          go_wp2_with fail
          refine HC9.out.mono ?_
          rintro e w10 ⟨v10, rfl, hE10, ho10⟩
          have HS10 := Lib.hid (HS9.out.extend hE10)
          have HO10 := Lib.hid ho10
          have HA10 := Lib.hid ((HA8.out.ext HE9.out).ext hE10)
          have HLE := Lib.hid (show ∀ k, S6 k → k < W8.heap.size from fun k hk => (HS8.out.low k hk).2)
          obtain ⟨v10a, v10n, v10c, rfl, -⟩ := ho10.open
          have ck : w10.cell? ⟨q + 1, 22, none⟩ = some (.int .i64 keep) := cell_of_heap (heap_ext HSAT.out.2.2 HS10.out.ext) 22
          clear ho10 hE10
          go_wp2_with fail
          obtain ⟨p10, va10, vp10, ev10, es10, hrep10⟩ := HS10.out.rep
          refine (crash11_any hrep10 keep (bounds_i64 HKP.out)).mono ?_
          rw [HL.out.1]
          rintro e w12 ⟨rfl, hl12⟩
          obtain ⟨S12, hs12, ht12, _⟩ := HS10.out.step hl12
          have HS12 := Lib.hid hs12
          have HO12 := Lib.hid (HO10.out.tws ht12 fun k _ hk => HLE.out k hk)
          have HA12 := Lib.hid (HA10.out.tws ht12 HQ7.out.1)
          clear hl12 hs12 ht12 hrep10 ck
          go_wp2_with fail
          go_region_law (first
            | (go_simp; go_at_call 12; refine (alive11_any _).mono ?_; rintro e w13 ⟨rfl, hE13⟩; have HS13 := Lib.hid (HS12.out.extend ((Ext.drew w12).trans hE13)); have HO13 := Lib.hid (HO12.out.ext ((Ext.drew w12).trans hE13)); have HA13 := Lib.hid (HA12.out.ext ((Ext.drew w12).trans hE13)); clear hE13)
            | (go_simp; go_at_call 24; refine (told11_own HS13.out.rep).mono ?_; rintro e w14 ht14; obtain ⟨v14, rfl, hE14, hc14⟩ := shown11_own ht14; have HC14 := Lib.hid hc14; have HS14 := Lib.hid (HS13.out.extend hE14); have HO14 := Lib.hid (HO13.out.ext hE14); have HA14 := Lib.hid (HA13.out.ext hE14); clear ht14 hE14 hc14)
            | (go_simp; go_at_call 23; refine HC14.out.mono ?_; rintro e w15 ⟨v15, rfl, hE15, ho15⟩; have HS15 := Lib.hid (HS14.out.extend hE15); have HO15 := Lib.hid (HO14.out.ext hE15); have HA15 := Lib.hid (HA14.out.ext hE15); have HP15 := Lib.hid ho15; obtain ⟨v15a, v15n, v15c, rfl, -⟩ := ho15.open; clear ho15 hE15)
            | (go_simp; go_at_call 22; refine (refSameAll11 _ _ r1.w.l w15 HP15.out.ents HO15.out.ents).mono ?_; rintro e w16 ⟨rfl, hE16⟩; have HS16 := Lib.hid (HS15.out.extend hE16); have hA16 := HA15.out.ext hE16; have c5 := hA16.head.2.2.2.2.2.1; have c6 := hA16.head.2.2.2.2.2.2; rw [HL.out.2.1, show r1.len = r1.w.l.length from rfl] at c5; rw [HL.out.2.2] at c6; obtain ⟨p16, va16, vp16, ev16, es16, hrep16⟩ := HS16.out.rep; have HR16 := Lib.hid hrep16; clear hE16 hA16 hrep16)
            | (go_simp; go_at_call 20; refine (len11_any HR16.out.at').mono ?_; rintro e w17 ⟨rfl, rfl⟩)
            | (go_simp; go_at_call 21; refine (sealed11_any HR16.out.at').mono ?_; rintro e w18 ⟨rfl, rfl⟩))
          all_goals
            go_wp2_with fail
            go_ret
            exact ⟨rfl, HE0.out.trans HS16.out.ext⟩
namespace replicaLasts
theorem own : ownKnob Tryz.prog.godebug = none := by kernel_rfl
theorem laidOut : laidOutB Tryz.prog = true := by kernel_rfl
set_option linter.unusedVariables false in
set_option maxRecDepth 100000 in
theorem lifted (os : Os) (started : os.Started) (H : Type) (enc : TypeId × Value → H) :
    ReturnsInHanded {} Tryz.checked os 4 .any (Rows.replicaLastsSpec.pre6 enc Tryz.prog Tryz.f4 Rows.replicaLastsRow.domain false) (Rows.replicaLastsSpec.post enc Tryz.prog Tryz.f4 false true false false) := by
  refine returnsInHanded_of_change_sized (C := Tryz.checked) own started (by kernel_rfl) Tryz.func4
    (ChangeSpec.witness6 (enc := enc) (C := Tryz.checked) false ⟨#[], #[.agg #[.int .i64 0, .int .i64 0, .slice none 0 0, .slice none 0 0], .slice none 0 0, .agg #[.int .i64 0, .int .i64 0, .int .i64 0, .int .i64 0, .int .i64 0, .int .i64 0, .bool false, .int .i64 0, .int .i64 0, .slice none 0 0, .string ByteArray.empty, .int .i64 0, .int .i64 0, .slice none 0 0, .int .i64 0, .int .i64 0, .int .i64 0, .int .i64 0, .int .i64 0, .int .i64 0, .slice none 0 0, .slice none 0 0, .int .i64 0]], []⟩ 8 (by kernel_rfl) (by kernel_rfl) (by kernel_rfl) (by kernel_rfl)) ?_
  intro W base args ds gs before hval0 hW hcnd hsz _
  have hval : ∀ (j : Nat) t v, Tryz.f4.params[j]? = some t → args[j]? = some v → Value.okWide Tryz.prog W .any base t v := hval0
  have hW' := hW
  obtain ⟨p, q, hA0, hV, rfl, hfz, hnd⟩ := hW'
  have hA : DataW.TrodAll enc Tryz.prog W 0 (fun _ => true) true Tryz.f4.params.toList args.toList ds p := hA0
  rw [Tryz.params4] at hA hval
  obtain ⟨v0, vs0, d0, ds0, p0, q0, hargs, rfl, rfl, h0, r0⟩ := trodAll_cons hA
  obtain ⟨v1, vs1, d1, ds1, p1, q1, rfl, rfl, rfl, h1, r1⟩ := trodAll_cons r0
  obtain ⟨v2, vs2, d2, ds2, p2, q2, rfl, rfl, rfl, h2, r2⟩ := trodAll_cons r1
  obtain ⟨rfl, rfl, rfl⟩ := trodAll_nil r2
  obtain rfl : args = #[v0, v1, v2] := by cases args; simp_all
  obtain ⟨rfl, rfl⟩ := trodVars_none hV
  have k0 := h0
  have lt0 : ∀ x ∈ p0, x.block < W.heap.size := by obtain ⟨m, hm⟩ := k0; exact DataW.trod_lt m _ _ _ hm
  obtain ⟨a0, l0, sv0, dv0, rfl, w0⟩ := seat_arg11 (hval 0 27 v0 rfl rfl) h0
  have k1 := h1
  have lt1 : ∀ x ∈ p1, x.block < W.heap.size := by obtain ⟨m, hm⟩ := k1; exact DataW.trod_lt m _ _ _ hm
  obtain ⟨a1, len1, cap1, rfl⟩ := okWide_slice Tryz.underlying29 (hval 1 29 v1 rfl rfl)
  obtain ⟨l1, w1, f1⟩ : ∃ l, Ops11 W (.slice a1 len1 cap1) l ∧ ∀ o ∈ l, Wf64 o.n := by
    obtain ⟨fuel, hf⟩ := h1
    obtain ⟨v, l, hcs, hb, hft⟩ := ops11_of_raw hf
    simp [Value.cells] at hcs
    subst hcs
    exact ⟨l, hb, hft⟩
  have k2 := h2
  have lt2 : ∀ x ∈ p2, x.block < W.heap.size := by obtain ⟨m, hm⟩ := k2; exact DataW.trod_lt m _ _ _ hm
  obtain ⟨l2, a2, rt2, et2, sv2, dv2, rfl, w2, f2⟩ := last_arg11 (hval 2 75 v2 rfl rfl) h2
  clear hA0 hval0
  refine (replicaLasts_walk a0 l0 sv0 dv0 a1 len1 cap1 l1 l2 a2 rt2 et2 sv2 dv2 W w0 w1 f1 w2 f2).mono fun e W' ⟨he, bel⟩ => ?_
  subst he
  exact ⟨_, rfl, _, _, _, [], _, [], hW, trodAll_mk1 (shut_bool Tryz.underlying4 _), (trodAll_cons_mk (Below.trod laidOut (by kernel_rfl) (of_decide_eq_true (by kernel_rfl)) k0 bel lt0) (trodAll_cons_mk (Below.trod laidOut (by kernel_rfl) (of_decide_eq_true (by kernel_rfl)) k1 bel lt1) (trodAll_cons_mk (Below.trod laidOut (by kernel_rfl) (of_decide_eq_true (by kernel_rfl)) k2 bel lt2) trodAll_mk0))), rfl, bel.frame _, fun h => by cases h⟩
theorem over : Rows.replicaLastsRow.holds Tryz.pinned (OpenSpec.ofChange Rows.replicaLastsSpec) :=
  OpenClaim.holds_of_wide 4 Tryz.f4 rfl rfl rfl rfl rfl rfl rfl ⟨rfl, rfl, rfl, rfl, rfl⟩ rfl rfl rfl rfl rfl (by kernel_rfl) Tryz.func4 (by kernel_rfl)
    (of_decide_eq_true (by kernel_rfl)) (by unfold Func.isWrapper; first | (rw [if_pos (by decide +kernel)]; kernel_rfl) | (rw [if_neg (by decide +kernel)]; exact ⟨rfl, rfl⟩))
    (fun os started H enc _ => lifted os started H enc)
theorem proved : Rows.ReplicaLastsSaid := over
end replicaLasts
end Go.Proofs.YtckdofhcifdpmaaGreat
