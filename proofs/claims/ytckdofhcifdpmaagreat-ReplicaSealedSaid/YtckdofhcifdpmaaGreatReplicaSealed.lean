/-
  ReplicaSealed: a replica that is sealed never gets an entry more, entries are a chain, and what was there stays: for every input the statement's function returns true, and leaves what came in as it was.
-/
import Derived.Test.YtckdofhcifdpmaaGreatBsEnt
import Derived.Test.YtckdofhcifdpmaaGreatBsMath2
import Derived.Test.YtckdofhcifdpmaaGreatBsRpO
import Derived.Test.YtckdofhcifdpmaaGreatBsRpQ
import Derived.Test.YtckdofhcifdpmaaGreatBsRpRaw
namespace Go.Proofs.YtckdofhcifdpmaaGreat
set_option linter.unusedSimpArgs false
set_option linter.unusedVariables false
open Go.ChangeShapes Go.WideShapes Go.ChangeAt Go.RowKit

theorem Rep.doN_grows {r : Rep.Rp} (h : Rep.Calm r) (o : Rep.Op) (hk : o.kind ≠ 2) : r.w.l <+: (r.doN o).w.l ∧ (r.w.sealed = true → (r.doN o).w = r.w) := by
  unfold Rep.Rp.doN
  split
  · exact Rep.take_grows r o.m
  · split
    · rw [h.crash]; exact ⟨List.prefix_rfl, fun _ => rfl⟩
    · split
      · rw [h.reopen]; exact ⟨List.prefix_rfl, fun _ => rfl⟩
      · exact ⟨List.prefix_rfl, fun _ => rfl⟩
theorem Seat11.len {W w : World} {S : Nat → Prop} {x : Nat} {r : Rep.Rp} (h : Seat11 W S x r w) : r.w.l.length ≤ 13107 := by
  obtain ⟨p, va, vp, ev, es, h⟩ := h.rep
  rw [← h.lenR]
  exact h.bounds.1
set_option maxRecDepth 100000 in
set_option maxHeartbeats 40000000 in
theorem replicaSealed_walk (id : Int) (c : Term.C) (s d : Value) (a : Option Addr) (n cp : Nat) (l : List Rep.Op) (W0 : World) (hc : Ints W0 s c.seqs ∧ IRows W0 d c.shards) (h0 : Ops11 W0 (.slice a n cp) l) (hf : ∀ o ∈ l, Wf64 o.n) :
    Calls Tryz.prog 5 #[.agg #[.int .i64 id, .int .i64 c.term, s, d], .slice a n cp] W0 fun e W' => e = .returned (.bool true) ∧ Below W0.heap.size W0 W' := by
  obtain ⟨hn, hnc, hc9⟩ := h0.len
  obtain ⟨s1, s2, s3, rfl⟩ := intsSlice hc.1
  obtain ⟨d1, d2, d3, rfl⟩ := irowsSlice hc.2
  have hbs := fun w => box_seat11 w id c.term (.slice s1 s2 s3) (.slice d1 d2 d3) ⟨_, _, _, rfl⟩ ⟨_, _, _, rfl⟩
  have hbx := hbs
  obtain ⟨tc, htc⟩ : ∃ z, c.term = z := ⟨_, rfl⟩
  obtain ⟨W, hW⟩ : ∃ W, W0.alloc (.cells #[.int .i64 id, .int .i64 c.term, .slice s1 s2 s3, .slice d1 d2 d3] 27) = W := ⟨_, rfl⟩
  obtain ⟨q, hq⟩ : ∃ q, W0.heap.size = q := ⟨_, rfl⟩
  have hE0 : Ext W0 W := by rw [← hW]; exact Ext.alloc _ _
  have hsW : W.heap[q]? = some (.cells #[.int .i64 id, .int .i64 c.term, .slice s1 s2 s3, .slice d1 d2 d3] 27 (0, 0)) := by rw [← hW, ← hq]; exact heap_alloc_new _ _
  rw [htc] at hW hsW hbs hbx
  rw [htc]
  have HW := Lib.hid (And.intro hW hq)
  have HL0 := Lib.hid (h0.below hE0)
  have HF := Lib.hid hf
  have HN := Lib.hid hn.symm
  have HE0 := Lib.hid hE0
  have HTC := Lib.hid htc
  have HSAT := Lib.hid (And.intro True.intro (And.intro hsW True.intro))
  have HC := Lib.hid (show ∀ w', Ext W w' → IsConf w' (confV tc (.slice s1 s2 s3) (.slice d1 d2 d3)) c from fun w' h => ⟨_, _, by rw [← htc], hc.1.below (hE0.trans h), hc.2.below (hE0.trans h)⟩)
  have HCB := Lib.hid (show ∀ w', Below W.heap.size W w' → Ints w' (.slice s1 s2 s3) c.seqs ∧ IRows w' (.slice d1 d2 d3) c.shards from fun w' h => ⟨(hc.1.below hE0).below h, (hc.2.below hE0).below h⟩)
  have HFEW := Lib.hid (fun w1 (hE1 : Ext W w1) => few11_any _ l w1 ((h0.below hE0).below hE1))
  have hc0 : W.cell? ⟨q, 0, none⟩ = some (.int .i64 id) := cell_of_heap hsW 0
  have hc1 : W.cell? ⟨q, 1, none⟩ = some (.int .i64 tc) := cell_of_heap hsW 1
  have hc2 : W.cell? ⟨q, 2, none⟩ = some (.slice s1 s2 s3) := cell_of_heap hsW 2
  have hc3 : W.cell? ⟨q, 3, none⟩ = some (.slice d1 d2 d3) := cell_of_heap hsW 3
  clear h0 hf hn hW hq hE0 hc htc hsW
  go_enter Tryz.func5, Tryz.ntmps5
  go_upto_region 1 with fail
  rw [HW.out.1, HW.out.2]
  clear hbx hbs
  go_wp2_with fail
  refine (new11_any W id _ c (HC.out W (Ext.refl W))).mono ?_
  rintro e w1 ⟨h, hE1⟩
  rcases h with ⟨x, hmay, rfl, hR⟩ | ⟨_, rfl⟩
  case inr =>
    have HE1 := Lib.hid (HE0.out.trans hE1)
    clear hE1
    go_wp2_with fail
    refine (alive11_any w1).mono ?_
    rintro e w2 ⟨rfl, hE2⟩
    have HE2 := Lib.hid (HE1.out.trans hE2)
    clear hE2
    go_wp2_with fail
    go_ret
    exact ⟨rfl, HE2.out⟩
  have hs1 := Seat11.begun (Ext.refl W) hR hE1
  obtain ⟨S, hS⟩ : ∃ S : Nat → Prop, S = fun k => W.heap.size ≤ k ∧ k < w1.heap.size := ⟨_, rfl⟩
  rw [← hS] at hs1
  have HS1 := Lib.hid hs1
  have HMAY := Lib.hid hmay
  clear hR hE1 hs1 hS hmay hc0 hc1 hc2 hc3
  go_wp2_with fail
  refine (HFEW.out w1 HS1.out.ext).mono ?_
  rintro e w2 ⟨⟨b, rfl⟩, hE2⟩
  have HS2 := Lib.hid (HS1.out.extend hE2)
  clear hE2
  cases b with
  | false =>
    go_wp2_with fail
    refine (alive11_any w2).mono ?_
    rintro e w3 ⟨rfl, hE3⟩
    have HE3 := Lib.hid (HE0.out.trans (HS2.out.ext.trans hE3))
    clear hE3
    go_wp2_with fail
    go_ret
    exact ⟨rfl, HE3.out⟩
  | true =>
    go_wp2_with fail
    go_loopw [5, 37] (fun rv i wr => ∃ (k : Nat) (x : Nat) (S : Nat → Prop) (r : Rep.Rp), k ≤ n ∧ i = .int .i64 k ∧ rv = .pointer (some ⟨x, 0, none⟩) ∧ Hid (Seat11 W S x r wr ∧ Rep.Calm r ∧ r.id = id ∧ r.term = c.term)) (fun _ i _ => n - (intOf i).toNat)
    case atStart => exact ⟨0, _, _, _, by omega, rfl, rfl, Lib.hid ⟨HS2.out, Rep.new_calm id c.term, rfl, rfl⟩⟩
    case round =>
      obtain ⟨k, xr, Sr, r, hk, rfl, rfl, hI⟩ := hrel
      by_cases hlt : k < n
      · have hkl : k < l.length := by rw [HN.out]; exact hlt
        obtain ⟨b, off, a3, n3, c3, a4, n4, c4, a5, n5, c5, a6, n6, c6, rfl, hin, hldw⟩ := HL0.out.at k hkl
        have hld := hldw wr hI.out.1.ext
        obtain ⟨o, hO⟩ : ∃ o, l[k] = o := ⟨_, rfl⟩
        have hon := HF.out l[k] (List.getElem_mem hkl)
        rw [hO] at hld hin hon
        have HIN := Lib.hid hin
        have HON := Lib.hid hon
        clear hO hin hon hldw
        go_upto_region 7 with (first
          | (refine ldAny (by rfl) _ rfl rfl hld ?_)
          | (refine allocO11 (by rfl) rfl ?_; intro W1 q1 hat1 hE1 hq1)
          | (refine putO11 (by rfl) _ _ rfl rfl rfl hat1.out ⟨_, _, _, rfl⟩ ⟨_, _, _, rfl⟩ ⟨_, _, _, rfl⟩ ⟨_, _, _, rfl⟩ ?_; intro W2 hat2 hB2))
        have hq0 := hI.out.1.new (q := q1) (Nat.le_of_eq hq1.out.symm)
        have HS5 := Lib.hid ((hI.out.1.extend hE1.out).but hB2.out hq0.1 hq0.2)
        have hld4 := OpAt11.ld hat2.out
        have g0 : W2.cell? ⟨q1, 0, none⟩ = some (.int .i64 o.kind) := cell_of_heap hat2.out 0
        have hsW := heap_ext HSAT.out.2.1 HS5.out.ext
        have y0 : W2.cell? ⟨q, 0, none⟩ = some (.int .i64 id) := cell_of_heap hsW 0
        have y1 : W2.cell? ⟨q, 1, none⟩ = some (.int .i64 tc) := cell_of_heap hsW 1
        have y2 : W2.cell? ⟨q, 2, none⟩ = some (.slice s1 s2 s3) := cell_of_heap hsW 2
        have y3 : W2.cell? ⟨q, 3, none⟩ = some (.slice d1 d2 d3) := cell_of_heap hsW 3
        clear hq0 hE1 hq1 hat1 hB2 hld hsW
        by_cases hk2 : o.kind = 2
        · rw [hk2] at g0
          go_wp2_with fail
          go_roundw
          case rel => exact ⟨k + 1, _, _, _, by omega, by go_num, rfl, Lib.hid ⟨HS5.out, hI.out.2⟩⟩
          case measure => simp [intOf]; omega
        · have HK2 := Lib.hid hk2
          obtain ⟨kd, hkd⟩ : ∃ z, o.kind = z := ⟨_, rfl⟩
          rw [hkd] at g0 hk2
          obtain ⟨p5, va5, vp5, ev5, es5, hrep5⟩ := HS5.out.rep
          have HR5 := Lib.hid hrep5
          obtain ⟨sb, hsb⟩ : ∃ z, r.w.sealed = z := ⟨_, rfl⟩
          have HSB := Lib.hid hsb
          have HA2 := Lib.hid hat2.out
          clear hkd hrep5 hld4 hat2 y0 y1 y2 y3
          go_wp2_with fail
          refine (sealed11_any HR5.out.at').mono ?_
          rw [hsb]
          rintro e w6 ⟨rfl, rfl⟩
          clear hsb
          go_wp2_with fail
          refine (told11_own HS5.out.rep).mono ?_
          rintro e w7 ht7
          obtain ⟨v7, rfl, hE7, hc7⟩ := shown11_own ht7
          have HC7 := Lib.hid hc7
          have HS7 := Lib.hid (HS5.out.extend hE7)
          have HA7 := Lib.hid (heap_ext HA2.out hE7)
          clear ht7 hE7 hc7 g0
          go_wp2_with fail
          refine HC7.out.mono ?_
          rintro e w8 ⟨v8, rfl, hE8, ho8⟩
          have HS8 := Lib.hid (HS7.out.extend hE8)
          have HO8 := Lib.hid ho8
          have HLE := Lib.hid (show ∀ k, Sr k → k < W2.heap.size from fun k hk => (HS5.out.low k hk).2)
          obtain ⟨v8a, v8n, v8c, rfl, h8n⟩ := ho8.open
          have H8N := Lib.hid h8n
          have hat8 : OpAt11 w8 q1 o _ _ _ _ := heap_ext HA7.out hE8
          have hld8 := OpAt11.ld hat8
          have hsW := heap_ext HSAT.out.2.1 HS8.out.ext
          have y0 : w8.cell? ⟨q, 0, none⟩ = some (.int .i64 id) := cell_of_heap hsW 0
          have y1 : w8.cell? ⟨q, 1, none⟩ = some (.int .i64 tc) := cell_of_heap hsW 1
          have y2 : w8.cell? ⟨q, 2, none⟩ = some (.slice s1 s2 s3) := cell_of_heap hsW 2
          have y3 : w8.cell? ⟨q, 3, none⟩ = some (.slice d1 d2 d3) := cell_of_heap hsW 3
          clear ho8 hE8 h8n hat8 hsW
          go_wp2_with (refine ldAny (by rfl) _ rfl rfl hld8 ?_)
          have hz := HTC.out
          subst hz
          refine (does11_any HS8.out hI.out.2.1 id c (.slice s1 s2 s3) (.slice d1 d2 d3) (fun w' ht => HCB.out w' (HS8.out.since ht)) HMAY.out hI.out.2.2 o _ _ _ _ HON.out HK2.out (fun w' ht => HIN.out w' (HS8.out.since ht))).mono ?_
          rintro e w9 ⟨x9, mm, er, rfl, S9, hs9, ht9, _⟩
          have HS9 := Lib.hid hs9
          have HO9 := Lib.hid (HO8.out.tws ht9 fun k _ hk => HLE.out k hk)
          have HR9 := Lib.hid (show Rep.Calm (r.doN o) ∧ (r.doN o).id = id ∧ (r.doN o).term = c.term from ⟨hI.out.2.1.doN o HK2.out, (Rep.doN_keeps r o).1.trans hI.out.2.2.1, (Rep.doN_keeps r o).2.trans hI.out.2.2.2⟩)
          have HG := Lib.hid (Rep.doN_grows hI.out.2.1 o HK2.out)
          obtain ⟨r9, hr9⟩ : ∃ z, r.doN o = z := ⟨_, rfl⟩
          rw [hr9] at HS9 HR9 HG
          clear hr9 hs9 ht9 hld8 y0 y1 y2 y3
          go_wp2_with (first
            | (refine allocMR (by rfl) rfl ?_; intro W10 q10 hat10 hE10 hq10)
            | (refine putMR (m2 := mm) (r2 := .slice none 0 0) (e2 := .slice none 0 0) (s2 := .slice none 0 0) (d2 := .slice none 0 0) (by rfl) _ _ rfl rfl rfl hat10.out noSlice noSlice noSlice noSlice ?_; intro W11 hat11 hB11))
          have hq10b := HS9.out.new (q := q10) (Nat.le_of_eq hq10.out.symm)
          have HS11 := Lib.hid ((HS9.out.extend hE10.out).but hB11.out hq10b.1 hq10b.2)
          have HO11 := Lib.hid (HO9.out.blocks (w' := W11) fun k _ hk2 => (hB11.out.block k (Nat.lt_of_lt_of_le hk2 hE10.out.size) (by have := hq10.out; omega)).trans (hE10.out.block k hk2))
          clear hq10b hE10 hq10 hat10 hat11 hB11
          refine (told11_own HS11.out.rep).mono ?_
          rintro e w12 ht12
          obtain ⟨v12, rfl, hE12, hc12⟩ := shown11_own ht12
          have HC12 := Lib.hid hc12
          have HS12 := Lib.hid (HS11.out.extend hE12)
          have HO12 := Lib.hid (HO11.out.ext hE12)
          clear ht12 hE12 hc12
          go_wp2_with fail
          refine HC12.out.mono ?_
          rintro e w13 ⟨v13, rfl, hE13, ho13⟩
          have HS13 := Lib.hid (HS12.out.extend hE13)
          have HO13 := Lib.hid (HO12.out.ext hE13)
          have HP13 := Lib.hid ho13
          obtain ⟨v13a, v13n, v13c, rfl, h13n⟩ := ho13.open
          have H13N := Lib.hid h13n
          clear ho13 hE13 h13n
          go_wp2_with fail
          have hch : Ent.chain r9.w.l = v13n := (show Ent.chain r9.w.l = r9.w.l.length from HR9.out.1.ok.chain).trans H13N.out.symm
          refine (refChain5_any _ r9.w.l w13 HP13.out.ents (by have := HS13.out.len; omega)).mono ?_
          rw [hch]
          rintro e w14 ⟨rfl, hE14⟩
          have HS14 := Lib.hid (HS13.out.extend hE14)
          have HO14 := Lib.hid (HO13.out.ext hE14)
          have HP14 := Lib.hid (HP13.out.ext hE14)
          clear hE14 hch
          have hle : v8n ≤ v13n := by
            rw [H8N.out, H13N.out]
            exact HG.out.1.length_le
          have hlt1 : ¬ v13n < v8n := by omega
          have hlt2 : decide (v13n < v8n) = false := by simp; omega
          have hcap : v8n ≤ v13c := by
            obtain ⟨_, _, he, h1, _⟩ := HP14.out.ents.shape
            injection he with _ e2 e3
            rw [← H13N.out] at h1
            omega
          have hsl := fun w : World => runTo (P := Tryz.prog) (w := w) Tryz.underlying63 (by kernel_rfl : (Tryz.prog.info? 54).map (·.size) = some 6) (a := v13a) (n := v13n) (cap := v13c) v8n hcap .i64
          have HTK := Lib.hid (show r9.w.l.take v8n = r.w.l by rw [H8N.out]; exact (List.prefix_iff_eq_take.1 HG.out.1).symm)
          have HLE2 := Lib.hid hle
          clear hle hcap
          cases sb with
          | true =>
            have hsw := HG.out.2 HSB.out
            obtain ⟨p14, va14, vp14, ev14, es14, hrep14⟩ := HS14.out.rep
            have HR14 := Lib.hid hrep14
            have HSW := Lib.hid hsw
            clear hrep14 hsw
            go_wp2_with fail
            refine (sealed11_any HR14.out.at').mono ?_
            rw [HSW.out, HSB.out]
            rintro e w15 ⟨rfl, rfl⟩
            go_wp2_with fail
            refine (refSameAll11 _ _ r.w.l w14 (by have h1 := HP14.out.ents; rw [HSW.out] at h1; exact h1) HO14.out.ents).mono ?_
            rintro e w16 ⟨rfl, hE16⟩
            have HS16 := Lib.hid (HS14.out.extend hE16)
            have HO16 := Lib.hid (HO14.out.ext hE16)
            have HP16 := Lib.hid (HP14.out.ext hE16)
            clear hE16
            go_wp2_with fail
            refine (refSameAll11 _ _ r.w.l w16 (by have h1 := HP16.out.ents.take v8n (by have := HLE2.out; have := H13N.out; omega); rw [HTK.out] at h1; exact h1) HO16.out.ents).mono ?_
            rintro e w17 ⟨rfl, hE17⟩
            have HS17 := Lib.hid (HS16.out.extend hE17)
            clear hE17 hsl hlt1 hlt2
            go_wp2_with fail
            go_roundw
            case rel => exact ⟨k + 1, _, _, _, by omega, by go_num, rfl, Lib.hid ⟨HS17.out, HR9.out⟩⟩
            case measure => simp [intOf]; omega
          | false =>
            go_wp2_with fail
            refine (refSameAll11 _ _ r.w.l w14 (by have h1 := HP14.out.ents.take v8n (by have := HLE2.out; have := H13N.out; omega); rw [HTK.out] at h1; exact h1) HO14.out.ents).mono ?_
            rintro e w17 ⟨rfl, hE17⟩
            have HS17 := Lib.hid (HS14.out.extend hE17)
            clear hE17 hsl hlt1 hlt2
            go_wp2_with fail
            go_roundw
            case rel => exact ⟨k + 1, _, _, _, by omega, by go_num, rfl, Lib.hid ⟨HS17.out, HR9.out⟩⟩
            case measure => simp [intOf]; omega
      · obtain rfl : k = n := by omega
        go_wp2_with fail
        refine (alive11_any wr).mono ?_
        rintro e w5 ⟨rfl, hE5⟩
        have HS5 := Lib.hid (hI.out.1.extend hE5)
        clear hE5
        go_wp2_with fail
        go_ret
        exact ⟨rfl, HE0.out.trans HS5.out.ext⟩
namespace replicaSealed
theorem own : ownKnob Tryz.prog.godebug = none := by kernel_rfl
theorem laidOut : laidOutB Tryz.prog = true := by kernel_rfl
set_option linter.unusedVariables false in
set_option maxRecDepth 100000 in
theorem lifted (os : Os) (started : os.Started) (H : Type) (enc : TypeId × Value → H) :
    ReturnsInHanded {} Tryz.checked os 5 .any (Rows.replicaSealedSpec.pre6 enc Tryz.prog Tryz.f5 Rows.replicaSealedRow.domain false) (Rows.replicaSealedSpec.post enc Tryz.prog Tryz.f5 false true false false) := by
  refine returnsInHanded_of_change_sized (C := Tryz.checked) own started (by kernel_rfl) Tryz.func5
    (ChangeSpec.witness6 (enc := enc) (C := Tryz.checked) false ⟨#[], #[.agg #[.int .i64 0, .int .i64 0, .slice none 0 0, .slice none 0 0], .slice none 0 0], []⟩ 8 (by kernel_rfl) (by kernel_rfl) (by kernel_rfl) (by kernel_rfl)) ?_
  intro W base args ds gs before hval0 hW hcnd hsz _
  have hval : ∀ (j : Nat) t v, Tryz.f5.params[j]? = some t → args[j]? = some v → Value.okWide Tryz.prog W .any base t v := hval0
  have hW' := hW
  obtain ⟨p, q, hA0, hV, rfl, hfz, hnd⟩ := hW'
  have hA : DataW.TrodAll enc Tryz.prog W 0 (fun _ => true) true Tryz.f5.params.toList args.toList ds p := hA0
  rw [Tryz.params5] at hA hval
  obtain ⟨v0, vs0, d0, ds0, p0, q0, hargs, rfl, rfl, h0, r0⟩ := trodAll_cons hA
  obtain ⟨v1, vs1, d1, ds1, p1, q1, rfl, rfl, rfl, h1, r1⟩ := trodAll_cons r0
  obtain ⟨rfl, rfl, rfl⟩ := trodAll_nil r1
  obtain rfl : args = #[v0, v1] := by cases args; simp_all
  obtain ⟨rfl, rfl⟩ := trodVars_none hV
  have k0 := h0
  have lt0 : ∀ x ∈ p0, x.block < W.heap.size := by obtain ⟨m, hm⟩ := k0; exact DataW.trod_lt m _ _ _ hm
  obtain ⟨a0, l0, sv0, dv0, rfl, w0⟩ := seat_arg11 (hval 0 27 v0 rfl rfl) h0
  have k1 := h1
  have lt1 : ∀ x ∈ p1, x.block < W.heap.size := by obtain ⟨m, hm⟩ := k1; exact DataW.trod_lt m _ _ _ hm
  obtain ⟨a1, len1, cap1, rfl⟩ := okWide_slice Tryz.underlying29 (hval 1 29 v1 rfl rfl)
  obtain ⟨l1, w1, f1⟩ : ∃ l, Ops11 W (.slice a1 len1 cap1) l ∧ ∀ o ∈ l, Wf64 o.n := by
    obtain ⟨fuel, hf⟩ := h1
    obtain ⟨v, l, hcs, hb, hft⟩ := ops11_of_raw hf
    simp [Value.cells] at hcs
    subst hcs
    exact ⟨l, hb, hft⟩
  clear hA0 hval0
  refine (replicaSealed_walk a0 l0 sv0 dv0 a1 len1 cap1 l1 W w0 w1 f1).mono fun e W' ⟨he, bel⟩ => ?_
  subst he
  exact ⟨_, rfl, _, _, _, [], _, [], hW, trodAll_mk1 (shut_bool Tryz.underlying4 _), (trodAll_cons_mk (Below.trod laidOut (by kernel_rfl) (of_decide_eq_true (by kernel_rfl)) k0 bel lt0) (trodAll_cons_mk (Below.trod laidOut (by kernel_rfl) (of_decide_eq_true (by kernel_rfl)) k1 bel lt1) trodAll_mk0)), rfl, bel.frame _, fun h => by cases h⟩
theorem over : Rows.replicaSealedRow.holds Tryz.pinned (OpenSpec.ofChange Rows.replicaSealedSpec) :=
  OpenClaim.holds_of_wide 5 Tryz.f5 rfl rfl rfl rfl rfl rfl rfl ⟨rfl, rfl, rfl, rfl, rfl⟩ rfl rfl rfl rfl rfl (by kernel_rfl) Tryz.func5 (by kernel_rfl)
    (of_decide_eq_true (by kernel_rfl)) (by unfold Func.isWrapper; first | (rw [if_pos (by decide +kernel)]; kernel_rfl) | (rw [if_neg (by decide +kernel)]; exact ⟨rfl, rfl⟩))
    (fun os started H enc _ => lifted os started H enc)
theorem proved : Rows.ReplicaSealedSaid := over
end replicaSealed
end Go.Proofs.YtckdofhcifdpmaaGreat
