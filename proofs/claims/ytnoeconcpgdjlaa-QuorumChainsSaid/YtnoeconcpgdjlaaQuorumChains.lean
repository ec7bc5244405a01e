/-
  QuorumChains: the entries that a primary makes are a chain: for every input the statement's function returns true, and leaves what came in as it was.
-/
import Derived.Test.YtnoeconcpgdjlaaBsEnt
import Derived.Test.YtnoeconcpgdjlaaBsQuP
namespace Go.Proofs.Ytnoeconcpgdjlaa
set_option linter.unusedSimpArgs false
set_option linter.unusedVariables false
open Go.ChangeShapes Go.WideShapes Go.ChangeAt Go.RowKit

theorem chains_step (p : Quo.Pr) (o : Quo.Op) : ((o.kind = 0 ∨ o.kind = 1) ∧ p.doErr o = 0 → (p.doN o).l = p.l ++ [p.doE o]) ∧ (¬ ((o.kind = 0 ∨ o.kind = 1) ∧ p.doErr o = 0) → (p.doN o).l = p.l) := by
  have hs : ∀ e b, (p.err e b = 0 → (p.next e b).l = p.l ++ [p.made e b]) ∧ (p.err e b ≠ 0 → (p.next e b).l = p.l) := fun e b => by
    unfold Quo.Pr.next Quo.Pr.made
    constructor
    · intro h; rw [if_pos h, if_pos h]
    · intro h; rw [if_neg h]
  unfold Quo.Pr.doErr Quo.Pr.doN Quo.Pr.doE
  by_cases h0 : o.kind = 0
  · simp only [h0, if_true, true_or, true_and]
    exact ⟨fun h => (hs _ _).1 h, fun h => (hs _ _).2 h⟩
  · by_cases h1 : o.kind = 1
    · simp only [h1, if_true, or_true, true_and, show ¬ ((1 : Int) = 0) by decide, if_false]
      exact ⟨fun h => (hs _ _).1 h, fun h => (hs _ _).2 h⟩
    · simp only [h0, h1, if_false, false_or, false_and]
      refine ⟨fun h => h.elim, fun _ => ?_⟩
      split
      · exact (Quo.hear_keeps p o.m).2.1
      · rfl
theorem tEN12c : ElemN Try.prog 43 74 (.agg #[.int .i64 0, .int .i64 0, .slice none 0 0, .int .i64 0, .int .i64 0, .int .i64 0]) 6 64 := ⟨Try.underlying43, by kernel_rfl, rfl, by omega⟩
/-- The entries that were told, in a row of the statement's. -/
structure Got12 (W : World) (S K : Nat → Prop) (v : Value) (ps : List (Value × Ent.E)) (l : List Ent.E) (w : World) : Prop where
  row : w.ownsRow W.heap.size 74 6 v ps.length (entFlat ps)
  out : ∀ k, v.ownBlock = some k → ¬ S k ∧ ¬ K k
  ents : ps.map (·.2) = l
  cuts : ∀ q ∈ ps, RowN W.heap.size w q.1 q.2.cut
theorem Got12.ext {W w w' : World} {S K : Nat → Prop} {v : Value} {ps : List (Value × Ent.E)} {l : List Ent.E} (h : Got12 W S K v ps l w) (hE : Ext w w') : Got12 W S K v ps l w' := ⟨rowExt h.row hE, h.out, h.ents, fun q hq => (h.cuts q hq).ext hE⟩
theorem Got12.step {W w w' : World} {S K S' K' : Nat → Prop} {x : Nat} {p : Quo.Pr} {v : Value} {ps : List (Value × Ent.E)} {l : List Ent.E} (h : Got12 W S K v ps l w) (hp : IsPr w W.heap.size S K x p) (ht : TwS S w w') (h1 : ∀ k, k < w.heap.size → S' k → S k) (h2 : ∀ k, k < w.heap.size → K' k → K k) : Got12 W S' K' v ps l w' :=
  ⟨rowOwn h.row fun k hk => ht.block k (h.row.lt k hk).2 (h.out k hk).1, fun k hk => ⟨fun e => (h.out k hk).1 (h1 k (h.row.lt k hk).2 e), fun e => (h.out k hk).2 (h2 k (h.row.lt k hk).2 e)⟩, h.ents, fun q hq => (h.cuts q hq).pr12 hp ht⟩
theorem ownR_one12 (w : World) (t : Value) (e : Ent.E) : SlN 6 (w.alloc (.cells (entCells12 t e) 74)) (.slice (some ⟨w.heap.size, 0, none⟩) 1 1) 1 (entFlat [(t, e)]) :=
  SlN.ofOwn (base := w.heap.size) (e := 74) ⟨by simp [entFlat], .inr ⟨_, 1, _, rfl, Nat.le_refl _, heap_alloc_new w _, Nat.le_refl _, by simp [maxLen], by simp [entCells12], by rfl⟩⟩
set_option maxRecDepth 100000 in
set_option maxHeartbeats 40000000 in
theorem quorumChains_walk (cv : Value) (c : Term.C) (a : Option Addr) (n cp : Nat) (l : List Quo.Op) (W0 : World) (hc : IsConf W0 cv c) (h0 : Ops12 W0 (.slice a n cp) l) (hf : ∀ o ∈ l, Wf64 o.m.src) :
    Calls Try.prog 6 #[cv, .slice a n cp] W0 fun e W' => e = .returned (.bool true) ∧ Below W0.heap.size W0 W' := by
  obtain ⟨hn, hnc, hc9⟩ := h0.len
  have hbx := box_confR
  obtain ⟨s, d, rfl, hs, hd⟩ := hc
  obtain ⟨s1, s2, s3, rfl⟩ := intsSlice hs
  obtain ⟨d1, d2, d3, rfl⟩ := irowsSlice hd
  obtain ⟨tc, htc⟩ : ∃ z, c.term = z := ⟨_, rfl⟩
  unfold confV
  rw [htc]
  have hE0 : Ext W0 (W0.alloc (.cells #[.int .i64 tc, .slice s1 s2 s3, .slice d1 d2 d3] 25)) := Ext.alloc _ _
  have hq0 := heap_alloc_new W0 (.cells #[.int .i64 tc, .slice s1 s2 s3, .slice d1 d2 d3] 25)
  obtain ⟨W, hW⟩ : ∃ z, W0.alloc (.cells #[.int .i64 tc, .slice s1 s2 s3, .slice d1 d2 d3] 25) = z := ⟨_, rfl⟩
  obtain ⟨q, hq⟩ : ∃ z, W0.heap.size = z := ⟨_, rfl⟩
  rw [hW] at hE0 hq0
  rw [hq] at hq0
  have HW := Lib.hid (And.intro hW hq)
  have HQ0 := Lib.hid hq0
  have HE0 := Lib.hid hE0
  have HN := Lib.hid hn.symm
  have HL0 := Lib.hid (h0.below hE0)
  have HF := Lib.hid hf
  have HTC := Lib.hid htc
  have HCF := Lib.hid (show ∀ w', Ext W w' → IsConf w' (.agg #[.int .i64 tc, .slice s1 s2 s3, .slice d1 d2 d3]) c from fun w' h => ⟨_, _, by unfold confV; rw [htc], hs.below (hE0.trans h), hd.below (hE0.trans h)⟩)
  have HFEW := Lib.hid (fun w1 (hE1 : Ext W w1) => few12_any (.agg #[.int .i64 tc, .slice s1 s2 s3, .slice d1 d2 d3]) c _ l w1 ⟨_, _, by unfold confV; rw [htc], hs.below (hE0.trans hE1), hd.below (hE0.trans hE1)⟩ ((h0.below hE0).below hE1))
  have y0 : W.cell? ⟨q, 0, none⟩ = some (.int .i64 tc) := cell_of_heap hq0 0
  have y1 : W.cell? ⟨q, 1, none⟩ = some (.slice s1 s2 s3) := cell_of_heap hq0 1
  have y2 : W.cell? ⟨q, 2, none⟩ = some (.slice d1 d2 d3) := cell_of_heap hq0 2
  clear h0 hf hn hs hd hW hq hE0 hq0 htc
  go_enter Try.func6, Try.ntmps6
  go_upto_region 1 with fail
  rw [HW.out.1, HW.out.2]
  clear hbx
  go_wp2_with fail
  refine (new12_any W _ c (HCF.out W (Ext.refl W))).mono ?_
  rintro e w1 ⟨h, hE1⟩
  rcases h with ⟨x, hr, rfl, S1, K1, hR⟩ | ⟨_, rfl⟩
  case inr =>
    have HE1 := Lib.hid (HE0.out.trans hE1)
    clear hE1 y0 y1 y2
    go_wp2_with fail
    refine (alive12_any w1).mono ?_
    rintro e w2 ⟨rfl, hE2⟩
    have HE2 := Lib.hid (HE1.out.trans hE2)
    clear hE2
    go_wp2_with fail
    go_ret
    exact ⟨rfl, HE2.out⟩
  have HS1 := Lib.hid (Seat12.begun (Ext.refl W) hR hE1)
  have HR := Lib.hid hr
  have hq1 := heap_ext HQ0.out hE1
  have z0 : w1.cell? ⟨q, 0, none⟩ = some (.int .i64 tc) := cell_of_heap hq1 0
  have z1 : w1.cell? ⟨q, 1, none⟩ = some (.slice s1 s2 s3) := cell_of_heap hq1 1
  have z2 : w1.cell? ⟨q, 2, none⟩ = some (.slice d1 d2 d3) := cell_of_heap hq1 2
  clear hR hE1 y0 y1 y2 hr hq1
  go_wp2_with fail
  refine (HFEW.out w1 HS1.out.ext).mono ?_
  rintro e w2 ⟨⟨b, rfl⟩, hE2⟩
  have HS2 := Lib.hid (HS1.out.extend hE2)
  clear hE2 z0 z1 z2
  cases b with
  | false =>
    go_wp2_with fail
    refine (alive12_any w2).mono ?_
    rintro e w3 ⟨rfl, hE3⟩
    have HE3 := Lib.hid (HE0.out.trans (HS2.out.ext.trans hE3))
    clear hE3
    go_wp2_with fail
    go_ret
    exact ⟨rfl, HE3.out⟩
  | true =>
    go_wp2_with fail
    go_loopw [7, 9, 10, 11, 32] (fun v _ _ _ i wr => ∃ (k : Nat) (S K : Nat → Prop) (p : Quo.Pr) (ps : List (Value × Ent.E)), k ≤ n ∧ i = .int .i64 k ∧ (∃ a n c, v = .slice a n c) ∧ Hid (Seat12 W S K x p wr ∧ Got12 W S K v ps p.l wr)) (fun _ _ _ _ i _ => n - (intOf i).toNat)
    case atStart => exact ⟨0, _, _, _, [], by omega, rfl, ⟨_, _, _, rfl⟩, Lib.hid ⟨HS2.out, ⟨World.ownsRow_nil _ _ _ _, (fun k hk => by cases hk), rfl, (fun q hq => by cases hq)⟩⟩⟩
    case round =>
      obtain ⟨k, S, K, p, ps, hk, rfl, ⟨va, vn, vc, rfl⟩, hI⟩ := hrel
      by_cases hlt : k < n
      · have hkl : k < l.length := by rw [HN.out]; exact hlt
        obtain ⟨b, off, a2, n2, c2, a3, n3, c3, a4, n4, c4, a5, n5, c5, a6, n6, c6, rfl, hop, hldw⟩ := HL0.out.at k hkl
        have hld := hldw wr hI.out.1.ext
        obtain ⟨o, hO⟩ : ∃ o, l[k] = o := ⟨_, rfl⟩
        have hon := HF.out l[k] (List.getElem_mem hkl)
        rw [hO] at hld hop hon
        have HOP := Lib.hid hop
        have HON := Lib.hid hon
        clear hO hop hon hldw
        go_upto_region 8 with (first
          | (refine ldAny (by rfl) _ rfl rfl hld ?_)
          | (refine allocO12 (by rfl) rfl ?_; intro W1 q1 hat1 hE1 hq1)
          | (refine putO12 (by rfl) _ _ rfl rfl rfl hat1.out ⟨_, _, _, rfl⟩ ⟨_, _, _, rfl⟩ ⟨_, _, _, rfl⟩ ⟨_, _, _, rfl⟩ ⟨_, _, _, rfl⟩ ?_; intro W2 hat2 hB2))
        have hE2 : Ext wr W2 := Ext.newQ11 hE1.out (Nat.le_of_eq hq1.out.symm) hB2.out
        have HS3 := Lib.hid (hI.out.1.extend hE2)
        have HAT := Lib.hid hat2.out
        have HG3 := Lib.hid (hI.out.2.ext hE2)
        have HNEW := Lib.hid (show wr.heap.size ≤ q1 from Nat.le_of_eq hq1.out.symm)
        clear hE2 hat1 hE1 hq1 hat2 hB2 hld
        have hlo := HAT.out.ld
        go_wp2_with (refine ldAny (by rfl) _ rfl rfl hlo ?_)
        refine (does12_any HS3.out.pr o _ _ _ _ _ HON.out (HOP.out _ HS3.out.ext)).mono ?_
        rintro e w6 ⟨u, rfl, hu6, hl6⟩
        obtain ⟨S6, K6, hs6, ht6, hS6, hK6⟩ := HS3.out.step hl6
        have HS6 := Lib.hid hs6
        have HG6 := Lib.hid (HG3.out.step HS3.out.pr ht6 hS6 hK6)
        have HO6 := Lib.hid (show OpAt12 w6 q1 o _ _ _ _ _ from (ht6.block q1 (Array.getElem?_eq_some_iff.1 HAT.out).1 (fun e => by
          have h1 := hI.out.1.pr.lt (k := q1)
          have h2 := HNEW.out
          have h3 := (h1 e).2
          omega)).trans HAT.out)
        have HU6 := Lib.hid (hu6.lower HS3.out.ext.size)
        obtain ⟨ua, un, uc, rfl⟩ := intsSlice hu6.row.ints
        obtain ⟨em, hem⟩ : ∃ z, p.doE o = z := ⟨_, rfl⟩
        obtain ⟨er, her⟩ : ∃ z, p.doErr o = z := ⟨_, rfl⟩
        rw [hem] at HU6
        rw [hem, her]
        have HST := Lib.hid (chains_step p o)
        rw [hem, her] at HST
        clear hl6 hs6 hlo ht6 hS6 hK6 hu6 hem her
        go_upto_region 9 with (first
          | (refine allocER12 (by rfl) rfl ?_; intro W7 q7 hat7 hE7 hq7)
          | (refine putER12 (t2 := .slice ua un uc) (e2 := em) (by rfl) _ _ rfl rfl rfl hat7.out ⟨_, _, _, rfl⟩ ?_; intro W8 hat8 hB8))
        have hE8 : Ext w6 W8 := Ext.newQ11 hE7.out (Nat.le_of_eq hq7.out.symm) hB8.out
        have HS8 := Lib.hid (HS6.out.extend hE8)
        have HG8 := Lib.hid (HG6.out.ext hE8)
        have HU8 := Lib.hid (HU6.out.ext hE8)
        have HAT8 := Lib.hid hat8.out
        have y0 : W8.cell? ⟨q1, 0, none⟩ = some (.int .i64 o.kind) := cell_of_heap (heap_ext HO6.out hE8) 0
        obtain ⟨kd, hkd⟩ : ∃ z, o.kind = z := ⟨_, rfl⟩
        rw [hkd] at y0 HST
        have HSAME := Lib.hid (show ¬ ((kd = 0 ∨ kd = 1) ∧ er = 0) → Hid (Seat12 W S6 K6 x (p.doN o) W8 ∧ Got12 W S6 K6 (.slice va vn vc) ps (p.doN o).l W8) from fun h => Lib.hid ⟨HS8.out, by rw [HST.out.2 h]; exact HG8.out⟩)
        clear hE8 hat7 hE7 hq7 hat8 hB8 hkd
        by_cases he0 : er = 0
        case neg =>
          have he1 : (er == 0) = false := by simp [he0]
          go_wp2_with fail
          go_roundw
          case rel => exact ⟨k + 1, _, _, _, ps, by omega, by go_num, ⟨_, _, _, rfl⟩, HSAME.out (by omega)⟩
          case measure => simp [intOf]; omega
        case pos =>
          have HE0' := Lib.hid he0
          subst he0
          by_cases k2 : kd = 2
          case pos =>
            subst k2
            go_wp2_with fail
            go_roundw
            case rel => exact ⟨k + 1, _, _, _, ps, by omega, by go_num, ⟨_, _, _, rfl⟩, HSAME.out (by omega)⟩
            case measure => simp [intOf]; omega
          case neg =>
            have k2n : (kd != 2) = true := by simp [k2]
            have happ : (kd = 0 ∨ kd = 1) → ∀ (a : Act) (Q : Exit → Act → World → Prop), True := fun _ _ _ => trivial
            clear happ
            by_cases k0 : kd = 0
            case pos =>
              have hlist := HST.out.1 ⟨.inl k0, rfl⟩
              subst k0
              have hle := HAT8.out.ld ⟨_, _, _, rfl⟩
              have hEb : Ext W8 (W8.alloc (.cells (entCells12 (.slice ua un uc) em) 74)) := Ext.alloc _ _
              have HSL := Lib.hid (ownR_one12 W8 (.slice ua un uc) em)
              have HGr := Lib.hid (HG8.out.ext hEb)
              have HSr := Lib.hid (HS8.out.extend hEb)
              have HUr := Lib.hid (HU8.out.ext hEb)
              have hl512 : ps.length ≤ 512 := by
                have h1 := congrArg List.length HG8.out.ents
                rw [List.length_map] at h1
                rw [h1]
                exact hI.out.1.pr.ok.max
              have hone : ∀ y ∈ entFlat [(Value.slice ua un uc, em)], y.oneCell' = true := entFlat_one (w := W8) (by intro q hq; obtain rfl := List.mem_singleton.1 hq; exact HU8.out.row.ints)
              have hk1 : ps.length + 1 ≤ maxLen := by unfold maxLen; omega
              have hk2 : (ps.length + 1) * 64 ≤ 140737488355328 := by omega
              have HONE := Lib.hid (And.intro hone (And.intro hk1 hk2))
              have te := tEN12c
              clear hone hk1 hk2 hl512
              go_wp2_with (first
                | (refine ldAny (by rfl) _ rfl rfl hle ?_)
                | (refine opAny12 (.slice (some ⟨W8.heap.size, 0, none⟩) 1 1) (o := .buildSlice 43 _ _) rfl (by kernel_rfl) (w' := W8.alloc (.cells (entCells12 (.slice ua un uc) em) 74)) (by kernel_rfl) ?_)
                | (at_builtin; refine wpList_appN_at rfl (.tmp 59) (.tmp 61) te rfl rfl rfl HGr.out.row HSL.out (by decide) HONE.out.1 HONE.out.2.1 HONE.out.2.2 HSr.out.ext.size ?_; intro v9 w9 hown9 hg9 hw9))
              obtain ⟨a9, n9, c9, rfl⟩ := ownSlice hown9
              have hE9s : ∀ k, k < (W8.alloc (.cells (entCells12 (.slice ua un uc) em) 74)).heap.size → (Value.slice va vn vc).ownBlock ≠ some k → w9.heap[k]? = (W8.alloc (.cells (entCells12 (.slice ua un uc) em) 74)).heap[k]? := fun k hk hne => hg9.block k hk (fun e => hne e.symm)
              have hs9 : Seat12 W S6 K6 x (p.doN o) w9 := ⟨HSr.out.pr.keep fun k hk hs => hE9s k hk (fun e => hs.elim (HGr.out.out k e).1 (HGr.out.out k e).2), Below.grown HSr.out.ext hg9 HSr.out.ext.size (fun j hj => (HGr.out.row.lt j hj).1)⟩
              have hrn9 : ∀ {t : Value} {l : List Int}, RowN W.heap.size (W8.alloc (.cells (entCells12 (.slice ua un uc) em) 74)) t l → RowN W.heap.size w9 t l := fun {t l} ht => by
                obtain ⟨b, m, hb, ho⟩ := id ht
                refine ht.blocks fun g hg => hE9s g (ht.lt g hg).2 (fun e => ?_)
                obtain ⟨cur, hc⟩ := ownAt ho hg
                obtain ⟨cur2, hc2⟩ := ownAt HGr.out.row e
                rw [hc] at hc2
                injection hc2 with hc2
                injection hc2 with _ e2 _
                exact absurd e2 (by decide)
              have HN9 := Lib.hid (show Seat12 W S6 K6 x (p.doN o) w9 ∧ Got12 W S6 K6 (.slice a9 n9 c9) (ps ++ [(.slice ua un uc, em)]) (p.doN o).l w9 from ⟨hs9, by
                have h1 := hown9
                rw [← entFlat_append] at h1
                rw [List.length_append]
                exact h1, (fun k hk => by
                rcases hw9 with h | h
                · rw [hk] at h; exact HGr.out.out k h.symm
                · rw [hk] at h
                  injection h with h
                  have := HSr.out.new (q := k) (Nat.le_of_eq h.symm)
                  exact this.2), by rw [List.map_append, HGr.out.ents, hlist]; rfl, fun q hq => by
                rcases List.mem_append.1 hq with hq | hq
                · exact hrn9 (HGr.out.cuts q hq)
                · obtain rfl := List.mem_singleton.1 hq
                  exact hrn9 HUr.out⟩)
              clear hown9 hg9 hw9 hE9s hs9 hrn9 hEb hle hlist
              go_wp2_with fail
              go_roundw
              case rel => exact ⟨k + 1, _, _, _, _, by omega, by go_num, ⟨_, _, _, rfl⟩, HN9⟩
              case measure => simp [intOf]; omega
            case neg =>
              have k0n : (kd == 0) = false := by simp [k0]
              by_cases k1 : kd = 1
              case pos =>
                have hlist := HST.out.1 ⟨.inr k1, rfl⟩
                subst k1
                have hle := HAT8.out.ld ⟨_, _, _, rfl⟩
                have hEb : Ext W8 (W8.alloc (.cells (entCells12 (.slice ua un uc) em) 74)) := Ext.alloc _ _
                have HSL := Lib.hid (ownR_one12 W8 (.slice ua un uc) em)
                have HGr := Lib.hid (HG8.out.ext hEb)
                have HSr := Lib.hid (HS8.out.extend hEb)
                have HUr := Lib.hid (HU8.out.ext hEb)
                have hl512 : ps.length ≤ 512 := by
                  have h1 := congrArg List.length HG8.out.ents
                  rw [List.length_map] at h1
                  rw [h1]
                  exact hI.out.1.pr.ok.max
                have hone : ∀ y ∈ entFlat [(Value.slice ua un uc, em)], y.oneCell' = true := entFlat_one (w := W8) (by intro q hq; obtain rfl := List.mem_singleton.1 hq; exact HU8.out.row.ints)
                have hk1 : ps.length + 1 ≤ maxLen := by unfold maxLen; omega
                have hk2 : (ps.length + 1) * 64 ≤ 140737488355328 := by omega
                have HONE := Lib.hid (And.intro hone (And.intro hk1 hk2))
                have te := tEN12c
                clear hone hk1 hk2 hl512
                go_wp2_with (first
                  | (refine ldAny (by rfl) _ rfl rfl hle ?_)
                  | (refine opAny12 (.slice (some ⟨W8.heap.size, 0, none⟩) 1 1) (o := .buildSlice 43 _ _) rfl (by kernel_rfl) (w' := W8.alloc (.cells (entCells12 (.slice ua un uc) em) 74)) (by kernel_rfl) ?_)
                  | (at_builtin; refine wpList_appN_at rfl (.tmp 59) (.tmp 61) te rfl rfl rfl HGr.out.row HSL.out (by decide) HONE.out.1 HONE.out.2.1 HONE.out.2.2 HSr.out.ext.size ?_; intro v9 w9 hown9 hg9 hw9))
                obtain ⟨a9, n9, c9, rfl⟩ := ownSlice hown9
                have hE9s : ∀ k, k < (W8.alloc (.cells (entCells12 (.slice ua un uc) em) 74)).heap.size → (Value.slice va vn vc).ownBlock ≠ some k → w9.heap[k]? = (W8.alloc (.cells (entCells12 (.slice ua un uc) em) 74)).heap[k]? := fun k hk hne => hg9.block k hk (fun e => hne e.symm)
                have hs9 : Seat12 W S6 K6 x (p.doN o) w9 := ⟨HSr.out.pr.keep fun k hk hs => hE9s k hk (fun e => hs.elim (HGr.out.out k e).1 (HGr.out.out k e).2), Below.grown HSr.out.ext hg9 HSr.out.ext.size (fun j hj => (HGr.out.row.lt j hj).1)⟩
                have hrn9 : ∀ {t : Value} {l : List Int}, RowN W.heap.size (W8.alloc (.cells (entCells12 (.slice ua un uc) em) 74)) t l → RowN W.heap.size w9 t l := fun {t l} ht => by
                  obtain ⟨b, m, hb, ho⟩ := id ht
                  refine ht.blocks fun g hg => hE9s g (ht.lt g hg).2 (fun e => ?_)
                  obtain ⟨cur, hc⟩ := ownAt ho hg
                  obtain ⟨cur2, hc2⟩ := ownAt HGr.out.row e
                  rw [hc] at hc2
                  injection hc2 with hc2
                  injection hc2 with _ e2 _
                  exact absurd e2 (by decide)
                have HN9 := Lib.hid (show Seat12 W S6 K6 x (p.doN o) w9 ∧ Got12 W S6 K6 (.slice a9 n9 c9) (ps ++ [(.slice ua un uc, em)]) (p.doN o).l w9 from ⟨hs9, by
                  have h1 := hown9
                  rw [← entFlat_append] at h1
                  rw [List.length_append]
                  exact h1, (fun k hk => by
                  rcases hw9 with h | h
                  · rw [hk] at h; exact HGr.out.out k h.symm
                  · rw [hk] at h
                    injection h with h
                    have := HSr.out.new (q := k) (Nat.le_of_eq h.symm)
                    exact this.2), by rw [List.map_append, HGr.out.ents, hlist]; rfl, fun q hq => by
                  rcases List.mem_append.1 hq with hq | hq
                  · exact hrn9 (HGr.out.cuts q hq)
                  · obtain rfl := List.mem_singleton.1 hq
                    exact hrn9 HUr.out⟩)
                clear hown9 hg9 hw9 hE9s hs9 hrn9 hEb hle hlist
                go_wp2_with fail
                go_roundw
                case rel => exact ⟨k + 1, _, _, _, _, by omega, by go_num, ⟨_, _, _, rfl⟩, HN9⟩
                case measure => simp [intOf]; omega
              case neg =>
                have k1n : (kd == 1) = false := by simp [k1]
                go_wp2_with fail
                go_roundw
                case rel => exact ⟨k + 1, _, _, _, ps, by omega, by go_num, ⟨_, _, _, rfl⟩, HSAME.out (by omega)⟩
                case measure => simp [intOf]; omega
      · obtain rfl : k = n := by omega
        have hents : Ents wr (.slice va vn vc) p.l := by
          have h1 := ents_of_flat (fun q hq => (hI.out.2.cuts q hq).row.ints) (SlN.ofOwn hI.out.2.row)
          rw [hI.out.2.ents] at h1
          exact h1
        have hvn : vn = p.l.length := by rw [← hI.out.2.ents, List.length_map]; exact ownLen hI.out.2.row
        have HEN := Lib.hid hents
        have hch : (Ent.chain p.l : Int) = (vn : Int) := by
          have h1 := hI.out.1.pr.ok.chain
          unfold Ent.isChain at h1
          rw [h1, hvn]
        have HCH := Lib.hid hch
        have HVN := Lib.hid hvn
        obtain ⟨wt, hwt⟩ : ∃ z, z = wr := ⟨_, rfl⟩
        subst hwt
        clear hents hvn hch
        go_wp2_with fail
        refine (alive12_any wt).mono ?_
        rintro e w3 ⟨rfl, hE3⟩
        have HS3 := Lib.hid (hI.out.1.extend hE3)
        have HEN3 := Lib.hid (HEN.out.below hE3)
        clear hE3
        go_wp2_with fail
        refine (chain5_any _ p.l w3 HEN3.out).mono ?_
        rw [HCH.out]
        rintro e w4 ⟨rfl, hE4⟩
        have HS4 := Lib.hid (HS3.out.extend hE4)
        clear hE4
        go_wp2_with fail
        obtain ⟨kb4, ev4, es4, hp4⟩ := HS4.out.pr
        refine (len12_any hp4.at').mono ?_
        rw [← HVN.out]
        rintro e w5 ⟨rfl, rfl⟩
        clear hp4
        go_wp2_with fail
        go_ret
        exact ⟨rfl, HE0.out.trans HS4.out.ext⟩
namespace quorumChains
theorem own : ownKnob Try.prog.godebug = none := by kernel_rfl
theorem laidOut : laidOutB Try.prog = true := by kernel_rfl
set_option linter.unusedVariables false in
set_option maxRecDepth 100000 in
theorem lifted (os : Os) (started : os.Started) (H : Type) (enc : TypeId × Value → H) :
    ReturnsInHanded {} Try.checked os 6 .any (Rows.quorumChainsSpec.pre6 enc Try.prog Try.f6 Rows.quorumChainsRow.domain false) (Rows.quorumChainsSpec.post enc Try.prog Try.f6 false true false false) := by
  refine returnsInHanded_of_change_sized (C := Try.checked) own started (by kernel_rfl) Try.func6
    (ChangeSpec.witness6 (enc := enc) (C := Try.checked) false ⟨#[], #[.agg #[.int .i64 0, .slice none 0 0, .slice none 0 0], .slice none 0 0], []⟩ 8 (by kernel_rfl) (by kernel_rfl) (by kernel_rfl) (by kernel_rfl)) ?_
  intro W base args ds gs before hval0 hW hcnd hsz _
  have hval : ∀ (j : Nat) t v, Try.f6.params[j]? = some t → args[j]? = some v → Value.okWide Try.prog W .any base t v := hval0
  have hW' := hW
  obtain ⟨p, q, hA0, hV, rfl, hfz, hnd⟩ := hW'
  have hA : DataW.TrodAll enc Try.prog W 0 (fun _ => true) true Try.f6.params.toList args.toList ds p := hA0
  rw [Try.params6] at hA hval
  obtain ⟨v0, vs0, d0, ds0, p0, q0, hargs, rfl, rfl, h0, r0⟩ := trodAll_cons hA
  obtain ⟨v1, vs1, d1, ds1, p1, q1, rfl, rfl, rfl, h1, r1⟩ := trodAll_cons r0
  obtain ⟨rfl, rfl, rfl⟩ := trodAll_nil r1
  obtain rfl : args = #[v0, v1] := by cases args; simp_all
  obtain ⟨rfl, rfl⟩ := trodVars_none hV
  have k0 := h0
  have lt0 : ∀ x ∈ p0, x.block < W.heap.size := by obtain ⟨m, hm⟩ := k0; exact DataW.trod_lt m _ _ _ hm
  obtain ⟨l0, w0⟩ := conf_arg (hval 0 25 v0 rfl rfl) h0
  have k1 := h1
  have lt1 : ∀ x ∈ p1, x.block < W.heap.size := by obtain ⟨m, hm⟩ := k1; exact DataW.trod_lt m _ _ _ hm
  obtain ⟨a1, len1, cap1, rfl⟩ := okWide_slice Try.underlying53 (hval 1 53 v1 rfl rfl)
  obtain ⟨l1, w1, f1⟩ : ∃ l, Ops12 W (.slice a1 len1 cap1) l ∧ ∀ o ∈ l, Wf64 o.m.src := by
    obtain ⟨fuel, hf⟩ := h1
    obtain ⟨v, l, hcs, hb, hft⟩ := ops12_of_raw hf
    simp [Value.cells] at hcs
    subst hcs
    exact ⟨l, hb, hft⟩
  clear hA0 hval0
  refine (quorumChains_walk _ l0 a1 len1 cap1 l1 W w0 w1 f1).mono fun e W' ⟨he, bel⟩ => ?_
  subst he
  exact ⟨_, rfl, _, _, _, [], _, [], hW, trodAll_mk1 (shut_bool Try.underlying4 _), (trodAll_cons_mk (Below.trod laidOut (by kernel_rfl) (of_decide_eq_true (by kernel_rfl)) k0 bel lt0) (trodAll_cons_mk (Below.trod laidOut (by kernel_rfl) (of_decide_eq_true (by kernel_rfl)) k1 bel lt1) trodAll_mk0)), rfl, bel.frame _, fun h => by cases h⟩
theorem over : Rows.quorumChainsRow.holds Try.pinned (OpenSpec.ofChange Rows.quorumChainsSpec) :=
  OpenClaim.holds_of_wide 6 Try.f6 rfl rfl rfl rfl rfl rfl rfl ⟨rfl, rfl, rfl, rfl, rfl⟩ rfl rfl rfl rfl rfl (by kernel_rfl) Try.func6 (by kernel_rfl)
    (of_decide_eq_true (by kernel_rfl)) (by unfold Func.isWrapper; first | (rw [if_pos (by decide +kernel)]; kernel_rfl) | (rw [if_neg (by decide +kernel)]; exact ⟨rfl, rfl⟩))
    (fun os started H enc _ => lifted os started H enc)
theorem proved : Rows.QuorumChainsSaid := over
end quorumChains
end Go.Proofs.Ytnoeconcpgdjlaa
