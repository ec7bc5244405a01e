/-
  Merged: Layer 12: a sealer's Heard.
-/
import Derived.Test.YtnoeconcpgdjlaaBsQuJ

namespace Go.Proofs.Ytnoeconcpgdjlaa
set_option linter.unusedSimpArgs false
set_option linter.unusedVariables false
set_option maxRecDepth 100000
open Go.RowKit Go.ChangeMaps
/- Layer 12: a sealer's Heard. -/
theorem zeroU12 (w : World) : (zeroValue 91).run Try.prog w = .ok (.agg #[]) w := by kernel_rfl
theorem SeAt.look {w : World} {B x kb : Nat} {sv ev : Value} {es : List (Value × Ent.E)} {s : Quo.Se} (h : SeAt w B x kb sv ev es s) {n : Int} (hn : Wf64 n) : ∃ (b : Bool), (Instr.lookup 86 (.map (some kb)) (.int .i64 n) true).run Try.prog w = .ok (.tuple #[.agg #[], .bool b]) w ∧ (b = true ↔ n ∈ s.ps.map (·.1)) := by
  by_cases hm : n ∈ s.ps.map (·.1)
  · exact ⟨true, h.map.found int12_keyed Try.underlying86 (set12_mem hm), ⟨fun _ => hm, fun _ => rfl⟩⟩
  · exact ⟨false, h.map.lost int12_keyed Try.underlying86 (int12_key hn) (set12_not hm) (zeroU12 w), ⟨(fun e => by cases e), fun e => absurd e hm⟩⟩
theorem Quo.sehears_not {s : Quo.Se} {n : Int} {l : List Ent.E} (h : ¬ (n ∈ s.c.seqs ∧ Ent.chain l = l.length ∧ n ∉ s.ps.map (·.1))) : s.hears n l = false := by
  unfold Quo.Se.hears
  rw [decide_eq_false h]
  rfl
theorem Quo.sehears_is {s : Quo.Se} {n : Int} {l : List Ent.E} (h : n ∈ s.c.seqs ∧ Ent.chain l = l.length ∧ n ∉ s.ps.map (·.1)) {b : Bool} {k : Nat} (hk : k = min l.length s.long.length) (hb : b = true ↔ l.take k = s.long.take k) : s.hears n l = b := by
  unfold Quo.Se.hears Quo.agrees
  rw [decide_eq_true h, ← hk, Bool.true_and]
  cases b with
  | true => exact decide_eq_true (hb.1 rfl)
  | false => exact decide_eq_false fun e => by have := hb.2 e; cases this
/-- What a hearing turns. -/
theorem SeAt.heard {w w1 : World} {B x kb : Nat} {sv ev : Value} {es : List (Value × Ent.E)} {s s' : Quo.Se} (h : SeAt w B x kb sv ev es s) (hB : But kb w w1) (hmap : MapB Try.prog 3 w1 kb (set12 s'.ps)) (hc : s'.c = s.c) :
    w1.heap[x]? = w.heap[x]? ∧ (s'.long = s.long → SeAt w1 B x kb sv ev es s') ∧ ∀ w2 u qs, Ext w1 w2 → w2.ownsRow B 74 6 u qs.length (entFlat qs) → (∀ q ∈ qs, RowN B w2 q.1 q.2.cut) → qs.map (·.2) = s'.long → SeAt (w2.setCell ⟨x, 3, none⟩ u) B x kb sv u qs s' := by
  have hne : ∀ (k : Nat) {cs : Array Value} {t : TypeId} {fr : Nat × Nat}, w.heap[k]? = some (.cells cs t fr) → k ≠ kb := fun k {cs t fr} hk e => h.map.no_cells (by rw [← e]; exact hk)
  have hx : w1.heap[x]? = w.heap[x]? := hB.block x h.lt (hne x h.heap)
  have hrow : ∀ {b n : Nat} {t : TypeId} {sz : Nat} {v : Value} {xs : List Value}, w.ownsRow b t sz v n xs → ∀ k, v.ownBlock = some k → w1.heap[k]? = w.heap[k]? := fun ho k hk => by
    obtain ⟨cur, hcur⟩ := ownAt ho hk
    exact hB.block k (ho.lt k hk).2 (hne k hcur)
  have hrn : ∀ {v : Value} {l : List Int}, RowN B w v l → RowN B w1 v l := fun hv => by
    obtain ⟨b, n, hb, ho⟩ := id hv
    exact hv.blocks (hrow ho)
  refine ⟨hx, fun hl => ⟨by rw [hc]; exact hx.trans h.heap, by rw [hc]; exact hrn h.seqs, rowOwn h.row (hrow h.row), by rw [hl]; exact h.ents, fun q hq => hrn (h.cuts q hq), hmap⟩, fun w2 u qs hE ho hq hl => ?_⟩
  have hx2 := heap_ext (hx.trans h.heap) hE
  have hb2 : But x w2 (w2.setCell ⟨x, 3, none⟩ u) := butSet _ _ _ _
  have hnx : ∀ {b n : Nat} {t : TypeId} {sz : Nat} {v : Value} {xs : List Value}, w2.ownsRow b t sz v n xs → t ≠ 88 → ∀ k, v.ownBlock = some k → (w2.setCell ⟨x, 3, none⟩ u).heap[k]? = w2.heap[k]? := fun ho ht k hk => by
    obtain ⟨cur, hcur⟩ := ownAt ho hk
    refine hb2.block k (ho.lt k hk).2 (fun e => ?_)
    rw [e, hx2] at hcur
    injection hcur with hcur
    injection hcur with _ e2 _
    exact ht e2.symm
  have hrn2 : ∀ {v : Value} {l : List Int}, RowN B w2 v l → RowN B (w2.setCell ⟨x, 3, none⟩ u) v l := fun hv => by
    obtain ⟨b, n, hb, ho⟩ := id hv
    exact hv.blocks (hnx ho (by decide))
  refine ⟨?_, hrn2 (by rw [hc]; exact (hrn h.seqs).ext hE), rowOwn ho (hnx ho (by decide)), hl, fun q h => hrn2 (hq q h), hmap.block ((hb2.block kb (Nat.lt_of_lt_of_le hmap.lt hE.size) (fun e => h.map.no_cells (by rw [e]; exact h.heap))).trans (hE.block kb hmap.lt))⟩
  rw [hc]
  exact heap_setCell hx2 3 u
def GivesHeardS12 (B : Nat) (S : Nat → Prop) (x : Nat) (w : World) (s : Quo.Se) (n : Int) (l : List Ent.E) (e : Ending) (w' : World) : Prop := e = .returned (.bool (s.hears n l)) ∧ LeavesSe B S x w (s.hear n l) w'
set_option maxHeartbeats 40000000 in
theorem heardS12_any {w : World} {B x : Nat} {S : Nat → Prop} {s : Quo.Se} (h : IsSe w B S x s) (n : Int) (hn : Wf64 n) (v : Value) (ps : List (Value × Ent.E)) (hps : ps.length ≤ 13107) (hv : ∀ w', TwS S w w' → SlN 6 w' v ps.length (entFlat ps) ∧ ∀ q ∈ ps, Ints w' q.1 q.2.cut) :
    Calls Try.prog 13 #[.pointer (some ⟨x, 0, none⟩), .int .i64 n, v] w (GivesHeardS12 B S x w s n (ps.map (·.2))) := by
  obtain ⟨kb, sv, ev, es, h⟩ := h
  obtain ⟨b, hlk, hb⟩ := h.at'.look hn
  have H := Lib.hid h
  have HB := Lib.hid hb
  have HV := Lib.hid hv
  obtain ⟨l, hl⟩ : ∃ l, ps.map (·.2) = l := ⟨_, rfl⟩
  have HL := Lib.hid hl
  have HPS := Lib.hid hps
  have hents : ∀ w', TwS S w w' → Ents w' v l := fun w' ht => by
    have := ents_of_flat (hv w' ht).2 (hv w' ht).1
    rw [hl] at this
    exact this
  have HENT := Lib.hid hents
  obtain ⟨va, vc, hva, hvc, hvm⟩ := (hents w (TwS.ext (Ext.refl _))).shape
  subst hva
  obtain ⟨N, hN⟩ : ∃ N, l.length = N := ⟨_, rfl⟩
  have HN := Lib.hid hN
  rw [hN] at hvc HENT HV ⊢
  obtain ⟨sa, sn, sc, rfl⟩ := h.at'.seqs.slice
  obtain ⟨ea, ec, hea, hec, hem, _⟩ := h.at'.open
  subst hea
  obtain ⟨M, hM⟩ : ∃ M, es.length = M := ⟨_, rfl⟩
  have HM := Lib.hid (show s.long.length = M by rw [← hM]; exact h.at'.len.symm)
  rw [hM] at H hec
  rw [hl]
  unfold maxLen at hem
  have x2 : w.cell? ⟨x, 2, none⟩ = some (.map (some kb)) := cell_of_heap h.at'.heap 2
  have hE1 : Ext w (w.alloc (.cells #[] 91)) := Ext.alloc _ _
  obtain ⟨w1, hw1⟩ : ∃ z, w.alloc (.cells #[] 91) = z := ⟨_, rfl⟩
  rw [hw1] at hE1
  have HW1 := Lib.hid hw1
  have HE1 := Lib.hid hE1
  have h1 := H.out.ext hE1
  have H1 := Lib.hid h1
  have y0 : w1.cell? ⟨x, 0, none⟩ = some (.slice sa sn sc) := cell_of_heap h1.at'.heap 0
  have y3 : w1.cell? ⟨x, 3, none⟩ = some (.slice ea M ec) := cell_of_heap h1.at'.heap 3
  have hno : ∀ W, ¬ (n ∈ s.c.seqs ∧ Ent.chain l = l.length ∧ n ∉ s.ps.map (·.1)) → Ext w W → GivesHeardS12 B S x w s n l (.returned (.bool false)) W := fun W hc hE => by
    have h0 := Quo.sehears_not hc
    refine ⟨by rw [h0], ?_⟩
    unfold Quo.Se.hear
    rw [if_neg (by rw [h0]; simp)]
    exact LeavesSe.refl ⟨_, _, _, _, H.out⟩ hE
  have HNO := Lib.hid hno
  clear h hb hv hl hps hents hN hM hw1 hE1 h1 hno
  go_enter Try.func13, Try.ntmps13
  go_upto_region 2 with fail
  rw [HW1.out]
  cases b with
  | true =>
    have hin := HB.out.1 rfl
    have HIN := Lib.hid hin
    clear hin hlk
    go_wp2_with fail
    go_ret
    exact HNO.out _ (fun e => e.2.2 HIN.out) HE1.out
  | false =>
    have HNI := Lib.hid (show n ∉ s.ps.map (·.1) from fun e => by have := HB.out.2 e; cases this)
    clear hlk
    go_wp2_with fail
    refine (has6_any _ s.c.seqs n w1 H1.out.at'.seqs.row.ints).mono ?_
    rintro e w2 ⟨rfl, rfl⟩
    obtain ⟨hs, hhs⟩ : ∃ z, hasI s.c.seqs n = z := ⟨_, rfl⟩
    rw [hhs]
    have HHS := Lib.hid hhs
    clear hhs
    cases hs with
    | false =>
      go_wp2_with fail
      go_ret
      refine HNO.out _ (fun e => ?_) HE1.out
      have h1 := HHS.out
      unfold hasI at h1
      rw [List.contains_iff_mem.2 e.1] at h1
      cases h1
    | true =>
      have HSQ := Lib.hid (show n ∈ s.c.seqs by have h1 := HHS.out; unfold hasI at h1; exact List.contains_iff_mem.1 h1)
      go_wp2_with fail
      refine (chain5_any _ l w1 (HENT.out w1 (TwS.ext HE1.out))).mono ?_
      rintro e w2 ⟨rfl, hE2⟩
      obtain ⟨C, hC⟩ : ∃ C, Ent.chain l = C := ⟨_, rfl⟩
      rw [hC]
      have HC := Lib.hid hC
      have HE2 := Lib.hid (HE1.out.trans hE2)
      have h2 := H1.out.ext hE2
      have H2 := Lib.hid h2
      have z2 : w2.cell? ⟨x, 2, none⟩ = some (.map (some kb)) := cell_of_heap h2.at'.heap 2
      have z3 : w2.cell? ⟨x, 3, none⟩ = some (.slice ea M ec) := cell_of_heap h2.at'.heap 3
      clear hC hE2 h2 y0 y3 x2
      by_cases hCN : C = N
      case neg =>
        have hci : ((C : Int) != (N : Int)) = true := by rw [bne_iff_ne]; omega
        go_wp2_with fail
        go_ret
        exact HNO.out _ (fun e => hCN (by rw [← HC.out, ← HN.out]; exact e.2.1)) HE2.out
      case pos =>
        have hci : ((C : Int) != (N : Int)) = false := by rw [hCN]; simp
        have HALL := Lib.hid (show n ∈ s.c.seqs ∧ Ent.chain l = l.length ∧ n ∉ s.ps.map (·.1) from ⟨HSQ.out, by rw [HC.out, hCN, HN.out], HNI.out⟩)
        clear hCN
        go_upto_region 4 with fail
        obtain ⟨K, hK⟩ : ∃ K, min N M = K := ⟨_, rfl⟩
        have HKN := Lib.hid (show K ≤ N ∧ K ≤ M ∧ K = min l.length s.long.length from ⟨by omega, by omega, by rw [HN.out, HM.out]; exact hK.symm⟩)
        go_cut [9] (fun s9 wx => s9 = .int .i64 (K : Nat) ∧ wx = w2)
        case first =>
          by_cases hlt : (M : Int) < (N : Int)
          · have hmn : K = M := by omega
            have hmi : min (N : Int) (M : Int) = (K : Int) := by omega
            have HMN := Lib.hid hmi
            clear hK hmn hmi
            go_wp2_with fail
            go_meet
            exact ⟨by rw [HMN.out], rfl⟩
          · have hmn : K = N := by omega
            have hmi : min (N : Int) (M : Int) = (K : Int) := by omega
            have HMN := Lib.hid hmi
            clear hK hmn hmi
            go_wp2_with fail
            go_meet
            exact ⟨by rw [HMN.out], rfl⟩
        case rest =>
          obtain ⟨rfl, hwc⟩ := hcut
          obtain ⟨W2, hw2⟩ : ∃ z, z = wc := ⟨_, rfl⟩
          subst hw2
          subst hwc
          have HK := Lib.hid hK
          have sl1 : ∀ wy : World, (Instr.sliceAt 43 (.slice va N vc) none (some (.int .i64 (K : Int))) none).run Try.prog wy = .ok (.slice va K vc) wy := fun wy => runTo (size := 6) Try.underlying43 (by kernel_rfl) K (by omega) .i64
          have sl2 : ∀ wy : World, (Instr.sliceAt 43 (.slice ea M ec) none (some (.int .i64 (K : Int))) none).run Try.prog wy = .ok (.slice ea K ec) wy := fun wy => runTo (size := 6) Try.underlying43 (by kernel_rfl) K (by omega) .i64
          have hEd := Ext.drew W2
          have hv1 := (HENT.out W2.drew (TwS.ext (HE2.out.trans hEd))).take K (by have := HKN.out; have := HN.out; omega)
          have hv2 := ((H2.out.ext hEd).at'.entsAt).take K (by have := HKN.out; have := HM.out; omega)
          have HEQ := Lib.hid (equalE_any _ _ (l.take K) (s.long.take K) W2.drew hv1 hv2)
          have k3 : W2.drew.cell? ⟨x, 3, none⟩ = some (.slice ea M ec) := cell_of_heap (H2.out.ext hEd).at'.heap 3
          have HED := Lib.hid (HE2.out.trans hEd)
          clear hK hEd hv1 hv2
          go_upto_region 5 with fail
          go_still_tail 9, (by kernel_rfl)
          change wpList _ _ _ _ _ W2.drew
          go_wp2_with fail
          refine HEQ.out.mono ?_
          rintro e w3 ⟨b, rfl, hbi, hE3⟩
          have HHR := Lib.hid (Quo.sehears_is HALL.out HKN.out.2.2 hbi)
          have HE3 := Lib.hid (HED.out.trans hE3)
          clear hbi hE3 sl1 sl2 k3 z2 z3
          cases b with
          | false =>
            go_wp2_with fail
            go_ret
            refine ⟨by rw [HHR.out]; rfl, ?_⟩
            unfold Quo.Se.hear
            rw [if_neg (by rw [HHR.out]; simp)]
            exact LeavesSe.refl ⟨_, _, _, _, H.out⟩ HE3.out
          | true =>
            have h3 := H.out.ext HE3.out
            have H3 := Lib.hid h3
            have x2 : w3.cell? ⟨x, 2, none⟩ = some (.map (some kb)) := cell_of_heap h3.at'.heap 2
            obtain ⟨o, hrun, hmap⟩ := h3.at'.map.put int12_keyed Try.underlying86 (int12_key hn) (set12_not HNI.out) (val := .agg #[])
            rw [← set12_snoc s.ps n l] at hmap
            have hB4 := butBlock w3 kb o
            obtain ⟨w4, hw4⟩ : ∃ z, setBlock w3 kb o = z := ⟨_, rfl⟩
            rw [hw4] at hrun hmap hB4
            have HB4 := Lib.hid (And.intro hB4 hmap)
            clear h3 hmap hB4 hw4
            have HHE := Lib.hid (show s.hear n l = ⟨s.c, s.ps ++ [(n, l)]⟩ by unfold Quo.Se.hear; rw [if_pos HHR.out])
            have HLG := Lib.hid (show (s.hear n l).long = if s.long.length < l.length then l else s.long by rw [HHE.out]; exact Quo.longest_snoc _ _)
            have HTU := Lib.hid (H3.out.at'.heard (s' := s.hear n l) HB4.out.1 (by rw [HHE.out]; exact HB4.out.2) (by rw [HHE.out]))
            have hTW : TwS S w3 w4 := TwS.but HB4.out.1 (H.out.sub _ (.inr (.inl rfl)))
            have HT4 := Lib.hid ((TwS.ext HE3.out).trans hTW)
            clear hTW
            by_cases hlt : (K : Int) < (N : Int)
            case neg =>
              have hlong : (s.hear n l).long = s.long := by
                rw [HLG.out, if_neg]
                have := HKN.out.2.1; have := HN.out; have := HM.out
                omega
              have HFIN := Lib.hid (show LeavesSe B S x w (s.hear n l) w4 from ⟨S, ⟨_, _, _, _, H.out.sub, fun k hk => ⟨(H.out.lt k hk).1, Nat.lt_of_lt_of_le (H.out.lt k hk).2 HT4.out.size⟩, HTU.out.2.1 hlong, H.out.ok.hear _ _, by rw [hlong]; exact H.out.short⟩, HT4.out, fun _ _ h => h⟩)
              clear hlong
              go_wp2_with fail
              go_ret
              exact ⟨by rw [HHR.out]; rfl, HFIN.out⟩
            case pos =>
              have hlong : (s.hear n l).long = l := by
                rw [HLG.out, if_pos]
                have := HN.out; have := HM.out; have := HKN.out.2.2
                omega
              have HLONG := Lib.hid hlong
              have hv4 := HV.out w4 HT4.out
              have hcut : ∀ q ∈ ps, q.2.cut.length ≤ 1000000 := fun q hq => by
                have hm : q.2 ∈ l := by rw [← HL.out]; exact List.mem_map.2 ⟨q, hq, rfl⟩
                have hch : Ent.isChain l := by unfold Ent.isChain; exact HALL.out.2.1
                have := cut_le12 (Ent.isChain_right _ _ rfl hch _ hm)
                omega
              have HOW := Lib.hid (own12_any _ ps w4 hv4.1 hv4.2 HPS.out hcut)
              clear hlong hv4 hcut
              go_wp2_with fail
              refine HOW.out.mono ?_
              rintro e w5 ⟨u, qs, rfl, hE5, hrow, hqs, hq⟩
              have hB5 : B ≤ w4.heap.size := Nat.le_trans (Nat.le_trans (H.out.lt x (H.out.sub _ (.inl rfl))).1 (Nat.le_of_lt (H.out.lt x (H.out.sub _ (.inl rfl))).2)) HT4.out.size
              obtain ⟨ua, un, uc, rfl⟩ := ownSlice hrow
              have hat5 := HTU.out.2.2 w5 _ qs hE5 (rowLower hrow hB5) (fun q h => (hq q h).lower hB5) (by rw [hqs, HL.out, HLONG.out])
              have hx5 := heap_ext (HTU.out.1.trans H3.out.at'.heap) hE5
              have z5 := frozen_of_heap hx5 3
              have y5 := cell_of_heap hx5 3
              simp at y5
              have hB6 : But x w5 (w5.setCell ⟨x, 3, none⟩ (.slice ua un uc)) := butSet _ _ _ _
              have HFIN := Lib.hid (show LeavesSe B S x w (s.hear n l) (w5.setCell ⟨x, 3, none⟩ (.slice ua un uc)) from ⟨fun k => S k ∨ (w4.heap.size ≤ k ∧ k < w5.heap.size), ⟨_, _, _, _, fun k hk => by
                rcases hk with rfl | rfl | hk | hk | ⟨q, hq', hk⟩
                · exact .inl (H.out.sub _ (.inl rfl))
                · exact .inl (H.out.sub _ (.inr (.inl rfl)))
                · exact .inl (H.out.sub _ (.inr (.inr (.inl hk))))
                · exact .inr (hrow.lt k hk)
                · exact .inr ((hq q hq').lt k hk), fun k hk => by
                have hz : (w5.setCell ⟨x, 3, none⟩ (.slice ua un uc)).heap.size = w5.heap.size := by simp
                rw [hz]
                rcases hk with hk | hk
                · exact ⟨(H.out.lt k hk).1, Nat.lt_of_lt_of_le (H.out.lt k hk).2 (Nat.le_trans HT4.out.size hE5.size)⟩
                · exact ⟨Nat.le_trans hB5 hk.1, hk.2⟩, hat5, H.out.ok.hear _ _, by rw [HLONG.out, ← HL.out, List.length_map]; exact HPS.out⟩, (HT4.out.trans (TwS.ext hE5)).trans (TwS.but hB6 (H.out.sub _ (.inl rfl))), fun k hk h => h.elim id (fun h => by have := HT4.out.size; omega)⟩)
              clear hE5 hrow hqs hq hat5 hx5 hB6 hB5
              go_wp2_with fail
              go_ret
              exact ⟨by rw [HHR.out]; rfl, HFIN.out⟩
end Go.Proofs.Ytnoeconcpgdjlaa
