/-
  SegmentOpens: a segment that is opened anew, of what was synced, has all that was appended, and as many trimmed: for every input the statement's function returns true, and leaves what came in as it was.
-/
import Derived.Test.YtfgjhagfpafmoaaBsRec
import Derived.Test.YtfgjhagfpafmoaaSgJ
import Derived.Test.YtfgjhagfpafmoaaSgL
import Derived.Test.YtfgjhagfpafmoaaSgM
import Derived.Test.YtfgjhagfpafmoaaSgRow2
namespace Go.Proofs.Ytfgjhagfpafmoaa
set_option linter.unusedSimpArgs false
set_option linter.unusedVariables false
open Go.ChangeShapes Go.WideShapes Go.ChangeAt Go.RowKit

theorem ldSeg9 {w : World} {q i : Nat} {x : Option Addr} (h : w.cell? ⟨q, i, none⟩ = some (.pointer x)) : (Instr.loadAt 24 (.pointer (some ⟨q, i, none⟩))).run Try.prog w = .ok (.pointer x) w := by
  simp [go_sem, h]
theorem Seg.trim_bad {G : Seg.Sg} {n : Int} (h : n < 0 ∨ (G.len : Int) < n) : G.trimErr n = 1 ∧ G.trim n = G := by
  unfold Seg.Sg.trimErr Seg.Sg.trim Seg.Sg.tcase
  rw [if_pos h]
  exact ⟨rfl, rfl⟩
theorem Seg.opens_step {G : Seg.Sg} {l : List Rec.R} {T : Nat} (hok : G.Ok) (hw : G.w = ⟨l, T, false⟩) (ho : G.s.off = false) :
    G.sync.w = ⟨l, T, false⟩ ∧ (Seg.ofStore (Page.fromBytes (Page.bytes (G.sync.s.l.take G.sync.s.k)))).w = ⟨l, T, false⟩ ∧ (Seg.ofStore (Page.fromBytes (Page.bytes (G.sync.s.l.take G.sync.s.k)))).safe = l.length := by
  have hs : G.sync.w = ⟨l, T, false⟩ := (Seg.Sg.sync_w G).trans hw
  have h1 : G.sync.s = ⟨G.s.l, G.s.l.length, false⟩ := by
    unfold Seg.Sg.sync
    rw [if_neg (by simp [ho])]
    show G.s.sync = _
    unfold Page.St.sync
    rw [if_neg (by simp [ho]), ho]
  refine ⟨hs, ?_⟩
  rw [Page.syn_scan hok.sync.ok, h1]
  show Seg.readF (G.s.l.take G.s.l.length) = _ ∧ (Seg.readF (G.s.l.take G.s.l.length)).l.length = _
  rw [List.take_length]
  have h2 : Seg.readF G.s.l = ⟨l, T, false⟩ := hw
  rw [h2]
  exact ⟨rfl, rfl⟩

set_option maxRecDepth 100000 in
set_option maxHeartbeats 40000000 in
theorem segmentOpens_walk (a : Option Addr) (n c : Nat) (l : List Rec.R) (cut : Int) (W : World) (h0 : Recs W (.slice a n c) l) (h1 : -9223372036854775808 ≤ cut ∧ cut ≤ 9223372036854775807) :
    Calls Try.prog 5 #[.slice a n c, .int .i64 cut] W fun e W' => e = .returned (.bool true) ∧ Below W.heap.size W W' := by
  have HL0 := Lib.hid h0
  have hln : l.length = n ∧ n ≤ c ∧ c ≤ 9223372036854775807 := by
    obtain ⟨_, _, e, h1, h2, _⟩ := h0
    injection e with e1 e2 e3
    subst e3
    unfold maxLen at h2
    omega
  obtain ⟨hln, hnc, hc9⟩ := hln
  have HN := Lib.hid hln
  obtain ⟨B, hB⟩ : ∃ B, W.heap.size = B := ⟨_, rfl⟩
  have HB := Lib.hid hB
  clear h0 hln hB
  go_enter Try.func5, Try.ntmps5
  go_wp2_with fail
  refine (opened9_any (.slice none 0 0) [] W (bytes_none W)).mono ?_
  rintro e w2 ⟨p, g, rfl, hs2, hE2⟩
  rw [Seg.row_nil, HB.out] at hs2
  obtain ⟨w3, hw3⟩ : ∃ w3, w2.alloc (.cells #[.pointer (some ⟨p, 0, none⟩), .pointer (some ⟨g, 0, none⟩)] 26) = w3 := ⟨_, rfl⟩
  obtain ⟨Y, hY⟩ : ∃ Y, w2.heap.size = Y := ⟨_, rfl⟩
  have hE3 : Ext w2 w3 := by rw [← hw3]; exact Ext.alloc _ _
  have hy3 : w3.heap[Y]? = some (.cells #[.pointer (some ⟨p, 0, none⟩), .pointer (some ⟨g, 0, none⟩)] 26 (0, 0)) := by rw [← hw3, ← hY]; exact heap_alloc_new _ _
  have hBl : Below B W w3 := by rw [← HB.out]; exact hE2.trans hE3
  have HI0 := Lib.hid (And.intro (hs2.ext hE3).full (And.intro hBl hy3))
  have HW3 := Lib.hid (And.intro hw3 hY)
  clear hs2 hE2 hw3 hY hE3 hy3 hBl
  go_upto_region 2 with fail
  rw [HW3.out.1, HW3.out.2]
  have hend : ∀ w', Below B W w' → Below W.heap.size W w' := fun w' h => by rw [HB.out]; exact h
  have HEND := Lib.hid hend
  clear hend
  by_cases h40 : 40 < n
  · go_wp2_with fail
    refine (alive9_any _).mono ?_
    rintro e w4 ⟨rfl, hE4⟩
    have hfin := (HEND.out w3 HI0.out.2.1).trans (hE4.mono (HEND.out w3 HI0.out.2.1).size)
    clear hE4
    go_wp2_with fail
    go_ret
    exact ⟨rfl, hfin⟩
  have d1 : decide (40 < (n : Int)) = false := decide_eq_false (by omega)
  go_wp2_with fail
  clear d1
  go_loopw [29] (fun i wr => ∃ (k : Nat), k ≤ n ∧ i = .int .i64 k ∧ Hid (IsSeg wr B wr.heap.size g p (Seg.row (l.take k)) ∧ Below B W wr ∧ wr.heap[Y]? = some (.cells #[.pointer (some ⟨p, 0, none⟩), .pointer (some ⟨g, 0, none⟩)] 26 (0, 0)) ∧ (∀ x ∈ l.take k, Rec.right x = true))) (fun i _ => n - (intOf i).toNat)
  case atStart => exact ⟨0, by omega, rfl, Lib.hid ⟨by rw [List.take_zero]; exact HI0.out.1, HI0.out.2.1, HI0.out.2.2, fun x hx => by rw [List.take_zero] at hx; cases hx⟩⟩
  case round =>
    obtain ⟨k, hk, rfl, hI⟩ := hrel
    by_cases hlt : k < n
    · have hkl : k < l.length := by rw [HN.out]; exact hlt
      obtain ⟨_, _, e1, _, _, _, hc⟩ := HL0.out
      obtain ⟨ab, ao, rfl, t9, p0, p1, p2, p3, ht9⟩ := hc k hkl
      injection e1 with e1 e2 e3
      subst e1
      obtain ⟨a1, a2, a3, rfl⟩ : ∃ x y z, t9 = .slice x y z := by
        obtain ⟨x, cc, e, _⟩ := ht9.open
        exact ⟨x, _, cc, e⟩
      have hbw := HEND.out wr hI.out.2.1
      have p0 := cell_below p0 hbw
      have p1 := cell_below p1 hbw
      have p2 := cell_below p2 hbw
      have p3 := cell_below p3 hbw
      obtain ⟨R9, hR9⟩ : ∃ R, l[k] = R := ⟨_, rfl⟩
      rw [hR9] at p0 p1 p3 ht9
      obtain ⟨y0, hy0⟩ : ∃ q : Int, R9.client = q := ⟨_, rfl⟩
      obtain ⟨y1, hy1⟩ : ∃ q : Int, R9.number = q := ⟨_, rfl⟩
      obtain ⟨y3, hy3⟩ : ∃ q : ByteArray, (⟨R9.data.toArray⟩ : ByteArray) = q := ⟨_, rfl⟩
      have hrec : ∀ w', Below W.heap.size W w' → IsRec w' (.agg #[.int .i64 y0, .int .i64 y1, .slice a1 a2 a3, .string y3]) R9 := fun w' h => by
        rw [← hy0, ← hy1, ← hy3]
        exact ⟨_, rfl, ht9.below h⟩
      rw [hy0] at p0
      rw [hy1] at p1
      rw [hy3] at p3
      have HREC := Lib.hid hrec
      have HR9 := Lib.hid hR9
      clear hrec hR9 hy0 hy1 hy3 ht9 hc e2 e3 hbw
      obtain ⟨w4, hw4⟩ : ∃ w4, wr.alloc (.cells #[.int .i64 y0, .int .i64 y1, .slice a1 a2 a3, .string y3] 35) = w4 := ⟨_, rfl⟩
      obtain ⟨Z, hZ⟩ : ∃ Z, wr.heap.size = Z := ⟨_, rfl⟩
      have hE4 : Ext wr w4 := by rw [← hw4]; exact Ext.alloc _ _
      have hz4 : w4.heap[Z]? = some (.cells #[.int .i64 y0, .int .i64 y1, .slice a1 a2 a3, .string y3] 35 (0, 0)) := by rw [← hw4, ← hZ]; exact heap_alloc_new _ _
      have hBwr : B ≤ wr.heap.size := by rw [← HB.out]; exact (HEND.out wr hI.out.2.1).size
      have hBw4 : Below B W w4 := hI.out.2.1.trans (hE4.mono hBwr)
      have hBs : B ≤ w4.heap.size := Nat.le_trans hBwr hE4.size
      obtain ⟨va, vp, lv, ps, hseg⟩ := (hI.out.1.ext hE4).full
      have happ := append9_any hseg (Nat.le_refl _) (k : Int) (by omega) (.agg #[.int .i64 y0, .int .i64 y1, .slice a1 a2 a3, .string y3]) R9 (fun w' ht => HREC.out w' (HEND.out w' (hBw4.trans (ht.below hBs))))
      have HAPP := Lib.hid happ
      have hy4 := heap_ext hI.out.2.2.1 hE4
      have HW4 := Lib.hid (And.intro hw4 (And.intro hZ (And.intro hy4 (And.intro hBw4 hBs))))
      have g4 : w4.cell? ⟨Y, 1, none⟩ = some (.pointer (some ⟨g, 0, none⟩)) := cell_of_heap hy4 1
      have z0 : w4.cell? ⟨Z, 0, none⟩ = some (.int .i64 y0) := cell_of_heap hz4 0
      have z1 : w4.cell? ⟨Z, 1, none⟩ = some (.int .i64 y1) := cell_of_heap hz4 1
      have z2 : w4.cell? ⟨Z, 2, none⟩ = some (.slice a1 a2 a3) := cell_of_heap hz4 2
      have z3 : w4.cell? ⟨Z, 3, none⟩ = some (.string y3) := cell_of_heap hz4 3
      clear hw4 hZ hE4 hz4 hBwr hBw4 hBs hseg happ hy4
      go_upto_region 7 with fail
      rw [HW4.out.1, HW4.out.2.1]
      go_wp2_with fail
      refine HAPP.out.mono ?_
      clear g4 z0 z1 z2 z3 p0 p1 p2 p3
      rintro e w5 ⟨rfl, hs5, ht5, hk5⟩
      have hy5 : w5.heap[Y]? = some (.cells #[.pointer (some ⟨p, 0, none⟩), .pointer (some ⟨g, 0, none⟩)] 26 (0, 0)) := (hk5.2 Y _ _ _ HW4.out.2.2.1 (by decide) (by decide) (by decide) (by decide) (by decide)).trans HW4.out.2.2.1
      have hBw5 : Below B W w5 := HW4.out.2.2.2.1.trans (ht5.below HW4.out.2.2.2.2)
      have htk : (l.take k).length = k := by rw [List.length_take]; omega
      cases hr : Rec.right R9 with
      | false =>
        obtain ⟨he, _⟩ := Seg.row_bad (l := l.take k) (k : Int) hr
        rw [he]
        have HB5 := Lib.hid hBw5
        clear he hs5 ht5 hk5 hy5 hBw5 htk
        go_wp2_with fail
        refine (alive9_any w5).mono ?_
        rintro e w6 ⟨rfl, hE6⟩
        have hfin := (HEND.out w5 HB5.out).trans (hE6.mono (HEND.out w5 HB5.out).size)
        clear hE6
        go_wp2_with fail
        go_ret
        exact ⟨rfl, hfin⟩
      | true =>
        have hra := Seg.row_app hI.out.2.2.2 hr (by omega)
        rw [htk] at hra
        have hsn : l.take k ++ [R9] = l.take (k + 1) := by rw [List.take_succ_eq_append_getElem hkl, HR9.out]
        rw [hsn] at hra
        rw [hra.1]
        rw [hra.2] at hs5
        have hall : ∀ x ∈ l.take (k + 1), Rec.right x = true := by
          intro x hx
          rw [← hsn] at hx
          rcases List.mem_append.1 hx with hx | hx
          · exact hI.out.2.2.2 x hx
          · rw [List.mem_singleton.1 hx]
            exact hr
        have HI5 := Lib.hid (And.intro hs5 (And.intro hBw5 (And.intro hy5 hall)))
        clear hra hsn hs5 ht5 hk5 hy5 hBw5 htk hall hr
        go_wp2_with fail
        go_roundw
        case rel => exact ⟨k + 1, by omega, by go_num, HI5⟩
        case measure => simp [intOf]; omega
    · obtain rfl : k = n := by omega
      have hfull : l.take k = l := List.take_of_length_le (by rw [HN.out]; exact Nat.le_refl _)
      rw [hfull] at hI
      have HN40 := Lib.hid h40
      have hok : Seg.Sg.Ok (Seg.row l) := by
        obtain ⟨va, vp, lv, ps, hseg⟩ := hI.out.1
        refine ⟨hseg.sto.ok, fun h => ?_, Nat.zero_le _⟩
        have h : (0 : Nat) = (l.map Seg.recFrame).length := h
        rw [List.length_map] at h
        rw [Seg.row_len hI.out.2.2.2, ← h]
        rfl
      have HOK := Lib.hid hok
      clear hfull hok
      have hBwr : B ≤ wr.heap.size := by rw [← HB.out]; exact (HEND.out wr hI.out.2.1).size
      have HBWR := Lib.hid hBwr
      clear hBwr
      have hl40 : l.length ≤ 50 := by rw [HN.out]; omega
      have hrb : (Page.bytes (Seg.row l).s.l).length + 40 ≤ 65536 := by
        have := Seg.row_bytes hI.out.2.2.2
        show (Page.bytes (l.map Seg.recFrame)).length + 40 ≤ 65536
        omega
      have hcase : ∃ (T : Nat) (er : Int), (Seg.row l).trimErr cut = er ∧ ((Seg.row l).trim cut).w = ⟨l, T, false⟩ ∧ ((Seg.row l).trim cut).s.off = false ∧ ((er = 0 ∧ 0 ≤ cut ∧ cut ≤ (k : Int)) ∨ (er = 1 ∧ cut < 0) ∨ (er = 1 ∧ 0 ≤ cut ∧ (k : Int) < cut)) := by
        by_cases hgood : 0 ≤ cut ∧ cut ≤ (k : Int)
        · obtain ⟨M, rfl⟩ : ∃ M : Nat, cut = (M : Int) := ⟨cut.toNat, by omega⟩
          have ht1 := Seg.trim_step HOK.out.ok (Seg.row_w hI.out.2.2.2) rfl hrb hl40 M (by rw [HN.out]; omega)
          exact ⟨_, _, ht1.1, ht1.2.1, ht1.2.2.1, .inl ⟨rfl, hgood⟩⟩
        · have hlen := Seg.row_len hI.out.2.2.2
          have hb := Seg.trim_bad (G := Seg.row l) (n := cut) (by rw [hlen, HN.out]; omega)
          rw [hb.2]
          exact ⟨_, _, hb.1, Seg.row_w hI.out.2.2.2, rfl, by omega⟩
      obtain ⟨T, er, her, hGw, hGo, hcase⟩ := hcase
      have hos := Seg.opens_step (HOK.out.trim cut) hGw hGo
      obtain ⟨va, vp, lv, ps, hseg⟩ := hI.out.1
      have htr := trim9_any hseg (Nat.le_refl _) cut
      rw [her] at htr
      have hokt := HOK.out.trim cut
      obtain ⟨G1, hG1⟩ : ∃ G, (Seg.row l).trim cut = G := ⟨_, rfl⟩
      rw [hG1] at htr hos hokt
      have HT1 := Lib.hid htr
      have HG := Lib.hid (And.intro hokt hos)
      have HCASE := Lib.hid hcase
      have g0 : wr.cell? ⟨Y, 1, none⟩ = some (.pointer (some ⟨g, 0, none⟩)) := cell_of_heap hI.out.2.2.1 1
      clear hl40 hrb her hGw hGo hcase hos hseg htr hokt hG1
      go_wp2_with fail
      refine HT1.out.mono ?_
      rintro e w5 ⟨rfl, hs5, ht5, hk5⟩
      have hy5 : w5.heap[Y]? = some (.cells #[.pointer (some ⟨p, 0, none⟩), .pointer (some ⟨g, 0, none⟩)] 26 (0, 0)) := (hk5.2 Y _ _ _ hI.out.2.2.1 (by decide) (by decide) (by decide) (by decide) (by decide)).trans hI.out.2.2.1
      have hBw5 : Below B W w5 := hI.out.2.1.trans (ht5.below HBWR.out)
      have hBs5 : B ≤ w5.heap.size := Nat.le_trans HBWR.out ht5.size
      obtain ⟨va, vp, lv, ps, hseg⟩ := hs5
      have HSY := Lib.hid (sync9_any hseg (Nat.le_refl _) HG.out.1)
      have g5 : w5.cell? ⟨Y, 1, none⟩ = some (.pointer (some ⟨g, 0, none⟩)) := cell_of_heap hy5 1
      have H5 := Lib.hid (And.intro hy5 (And.intro hBw5 hBs5))
      clear g0 ht5 hk5 hy5 hBw5 hBs5 hseg
      go_wp2_with fail
      refine HSY.out.mono ?_
      rintro e w6 ⟨rfl, hs6, ht6, hk6⟩
      have hy6 : w6.heap[Y]? = some (.cells #[.pointer (some ⟨p, 0, none⟩), .pointer (some ⟨g, 0, none⟩)] 26 (0, 0)) := (hk6.2 Y _ _ _ H5.out.1 (by decide) (by decide) (by decide) (by decide) (by decide)).trans H5.out.1
      have hBw6 : Below B W w6 := H5.out.2.1.trans (ht6.below H5.out.2.2)
      have hBs6 : B ≤ w6.heap.size := Nat.le_trans H5.out.2.2 ht6.size
      obtain ⟨va, vp, lv, ps, hseg⟩ := hs6
      have g6 : w6.cell? ⟨Y, 0, none⟩ = some (.pointer (some ⟨p, 0, none⟩)) := cell_of_heap hy6 0
      have HBY := Lib.hid (bytes8_any hseg.sto)
      have H6 := Lib.hid (And.intro hseg (And.intro hy6 (And.intro hBw6 hBs6)))
      clear g5 ht6 hk6 hy6 hBw6 hBs6 hseg
      go_wp2_with fail
      refine HBY.out.mono ?_
      rintro e w7 ⟨v7, rfl, ho7, hE7⟩
      have hop := opened9_any v7 _ w7 ho7.bytes
      obtain ⟨H, hH⟩ : ∃ H, Seg.ofStore (Page.fromBytes (Page.bytes (G1.sync.s.l.take G1.sync.s.k))) = H := ⟨_, rfl⟩
      rw [hH] at hop
      have hg2 := HG.out.2
      rw [hH] at hg2
      have HOP := Lib.hid hop
      have HG2 := Lib.hid hg2
      have HE7 := Lib.hid hE7
      clear ho7 hop hg2 hH hE7 g6
      go_wp2_with fail
      refine HOP.out.mono ?_
      rintro e w8 ⟨p2, g2, rfl, hs8, hE8⟩
      obtain ⟨w9, hw9⟩ : ∃ w9, w8.alloc (.cells #[.pointer (some ⟨p2, 0, none⟩), .pointer (some ⟨g2, 0, none⟩)] 26) = w9 := ⟨_, rfl⟩
      obtain ⟨Q, hQ⟩ : ∃ Q, w8.heap.size = Q := ⟨_, rfl⟩
      have hE9 : Ext w8 w9 := by rw [← hw9]; exact Ext.alloc _ _
      have hq9 : w9.heap[Q]? = some (.cells #[.pointer (some ⟨p2, 0, none⟩), .pointer (some ⟨g2, 0, none⟩)] 26 (0, 0)) := by rw [← hw9, ← hQ]; exact heap_alloc_new _ _
      have hE69 : Ext w6 w9 := Ext.trans (show Ext w6 w7 from HE7.out) (Ext.trans hE8 hE9)
      obtain ⟨va2, vp2, lv2, ps2, hseg2⟩ := hs8.ext hE9
      have hseg := H6.out.1.ext hE69
      have HYL := Lib.hid (fun (w' : World) (hE : Ext w9 w') => show Calls Try.prog 12 #[.pointer (some ⟨g2, 0, none⟩)] w' fun e w'' => e = .returned (.int .i64 (k : Nat)) ∧ Ext w' w'' from by
        have h := hseg2.len_any hE
        unfold Seg.Sg.len at h
        rw [HG2.out.2.1, HN.out] at h
        exact h)
      have HYT := Lib.hid (fun (w' : World) (hE : Ext w9 w') => show Calls Try.prog 13 #[.pointer (some ⟨g2, 0, none⟩)] w' fun e w'' => e = .returned (.int .i64 (T : Nat)) ∧ Ext w' w'' from by
        have h := segtrim_any (hseg2.ext hE).seg
        rw [HG2.out.2.1] at h
        exact h.mono fun e w'' ⟨he, hw⟩ => ⟨he, by rw [← hw]; exact Ext.refl _⟩)
      have HXT := Lib.hid (fun (w' : World) (hE : Ext w9 w') => show Calls Try.prog 13 #[.pointer (some ⟨g, 0, none⟩)] w' fun e w'' => e = .returned (.int .i64 (T : Nat)) ∧ Ext w' w'' from by
        have h := segtrim_any (hseg.ext hE).seg
        rw [HG2.out.1] at h
        exact h.mono fun e w'' ⟨he, hw⟩ => ⟨he, by rw [← hw]; exact Ext.refl _⟩)
      have HYS := Lib.hid (fun (w' : World) (hE : Ext w9 w') => show Calls Try.prog 11 #[.pointer (some ⟨g2, 0, none⟩)] w' fun e w'' => e = .returned (.int .i64 (k : Nat)) ∧ Ext w' w'' from by
        have h := segsafe_any (hseg2.ext hE).seg
        rw [HG2.out.2.2, HN.out] at h
        exact h.mono fun e w'' ⟨he, hw⟩ => ⟨he, by rw [← hw]; exact Ext.refl _⟩)
      have HYA := Lib.hid (fun (w' : World) (hE : Ext w9 w') => show Calls Try.prog 14 #[.pointer (some ⟨g2, 0, none⟩)] w' fun e w'' => ∃ u, e = .returned u ∧ Ext w' w'' ∧ Recs w'' u (l.drop T) from by
        have h := all9_any (hseg2.ext hE)
        rw [HG2.out.2.1] at h
        exact h.mono fun e w'' ⟨u, qs, he, ho, hq, hE2⟩ => ⟨u, he, hE2, by have := ho.recs; rw [hq] at this; exact this⟩)
      have HXA := Lib.hid (fun (w' : World) (hE : Ext w9 w') => show Calls Try.prog 14 #[.pointer (some ⟨g, 0, none⟩)] w' fun e w'' => ∃ u, e = .returned u ∧ Ext w' w'' ∧ Recs w'' u (l.drop T) from by
        have h := all9_any (hseg.ext hE)
        rw [HG2.out.1] at h
        exact h.mono fun e w'' ⟨u, qs, he, ho, hq, hE2⟩ => ⟨u, he, hE2, by have := ho.recs; rw [hq] at this; exact this⟩)
      have hB9 : Below B W w9 := H6.out.2.2.1.trans (hE69.mono H6.out.2.2.2)
      have H9 := Lib.hid (And.intro (heap_ext H6.out.2.1 hE69) (And.intro hq9 (And.intro hB9 (Nat.le_trans H6.out.2.2.2 hE69.size))))
      have HW9 := Lib.hid (And.intro hw9 hQ)
      clear hs8 hE8 hw9 hQ hE9 hq9 hE69 hseg2 hseg hB9
      go_upto_region 13 with fail
      rw [HW9.out.1, HW9.out.2]
      rcases HCASE.out with ⟨rfl, hc0, hc1⟩ | ⟨rfl, hc0⟩ | ⟨rfl, hc0, hc1⟩
      · obtain ⟨cu, hcu⟩ : ∃ cu, cut = cu := ⟨_, rfl⟩
        clear hcu
        go_upto_region 15 with fail
        refine wp_region_facts (by kernel_rfl) Ext (fun iop v w => match iop with
            | 0 => v = .bool true
            | 1 => v = .bool true
            | 2 => v = .int .i64 0
            | 3 => v = .bool true
            | 4 => v = .int .i64 cut
            | 5 => v = .bool true
            | 6 => v = .bool true
            | 7 => v = .int .i64 cut
            | 8 => v = .slice a k c
            | 9 => v = .int .i64 (k : Nat)
            | 10 => v = .bool true
            | 11 => v = .bool true
            | 12 => v = .bool true
            | 13 => v = .bool true
            | 14 => v = .bool true
            | 15 => v = .pointer (some ⟨Q, 1, none⟩)
            | 16 => v = .pointer (some ⟨g2, 0, none⟩)
            | 17 => v = .int .i64 (k : Nat)
            | 18 => v = .slice a k c
            | 19 => v = .int .i64 (k : Nat)
            | 20 => v = .bool true
            | 21 => v = .bool true
            | 22 => v = .bool true
            | 23 => v = .pointer (some ⟨Q, 1, none⟩)
            | 24 => v = .pointer (some ⟨g2, 0, none⟩)
            | 25 => v = .int .i64 (T : Nat)
            | 26 => v = .pointer (some ⟨Y, 1, none⟩)
            | 27 => v = .pointer (some ⟨g, 0, none⟩)
            | 28 => v = .int .i64 (T : Nat)
            | 29 => v = .bool true
            | 30 => v = .bool true
            | 31 => v = .bool true
            | 32 => v = .pointer (some ⟨Q, 1, none⟩)
            | 33 => v = .pointer (some ⟨g2, 0, none⟩)
            | 34 => v = .int .i64 (k : Nat)
            | 35 => v = .slice a k c
            | 36 => v = .int .i64 (k : Nat)
            | 37 => v = .bool true
            | 38 => v = .bool true
            | 39 => v = .bool true
            | 40 => v = .pointer (some ⟨Q, 1, none⟩)
            | 41 => v = .pointer (some ⟨g2, 0, none⟩)
            | 42 => Recs w v (l.drop T)
            | 43 => v = .pointer (some ⟨Y, 1, none⟩)
            | 44 => v = .pointer (some ⟨g, 0, none⟩)
            | 45 => Recs w v (l.drop T)
            | 46 => v = .bool true
            | 47 => v = .bool true
            | _ => v = .bool true
            ) (by kernel_rfl) (fun _ _ _ h k => Ext.trans h k) (fun a => Ext.refl a) (Ext.drew _) ?_ ?_ ?_
        · intro iop v wa wb hF hL
          iterate 42 (rcases iop with _ | iop; exact hF)
          rcases iop with _ | iop; (first | exact hF | exact Recs.below hF hL)
          iterate 2 (rcases iop with _ | iop; exact hF)
          rcases iop with _ | iop; (first | exact hF | exact Recs.below hF hL)
          iterate 2 (rcases iop with _ | iop; exact hF)
          exact hF
        · refine Obls.cons ?_ (Obls.cons ?_ (Obls.cons ?_ (Obls.cons ?_ (Obls.cons ?_ (Obls.cons ?_ (Obls.cons ?_ (Obls.cons ?_ (Obls.cons ?_ (Obls.cons ?_ (Obls.cons ?_ (Obls.cons ?_ (Obls.cons ?_ (Obls.cons ?_ (Obls.cons ?_ (Obls.cons ?_ (Obls.cons ?_ (Obls.cons ?_ (Obls.cons ?_ (Obls.cons ?_ (Obls.cons ?_ (Obls.cons ?_ (Obls.cons ?_ (Obls.cons ?_ (Obls.cons ?_ (Obls.cons ?_ (Obls.cons ?_ (Obls.cons ?_ (Obls.cons ?_ (Obls.cons ?_ (Obls.cons ?_ (Obls.cons ?_ (Obls.cons ?_ (Obls.cons ?_ (Obls.cons ?_ (Obls.cons ?_ (Obls.cons ?_ (Obls.cons ?_ (Obls.cons ?_ (Obls.cons ?_ (Obls.cons ?_ (Obls.cons ?_ (Obls.cons ?_ (Obls.cons ?_ (Obls.cons ?_ (Obls.cons ?_ (Obls.cons ?_ (Obls.cons ?_ (Obls.cons ?_ (Obls.nil)))))))))))))))))))))))))))))))))))))))))))))))))
          · intro ev wy hp hl hk hd
            clear hk hd
            refine Yield.call rfl hp Try.func9 rfl (by kernel_rfl) ?_
            simp only [List.map_toArray, List.map_nil]
            exact (alive9_any wy).mono fun _ _ ⟨he, hb⟩ => ⟨_, he, hb, by first | rfl | simp⟩
          · intro ev wy hp hl hk hd
            have e58 : ev (.tmp 58) = .bool true := hk 58 (by decide)
            clear hk hd
            exact Yield.mv rfl ⟨Ext.refl _, e58⟩
          · intro ev wy hp hl hk hd
            have e9 : ev (.tmp 9) = .int .i64 0 := hk 9 (by decide)
            clear hk
            refine ⟨fun _ _ _ => ?_, fun _ hx hne => absurd hx hne⟩
            clear hd
            exact Yield.mv rfl ⟨Ext.refl _, e9⟩
          · intro ev wy hp hl hk hd
            have e60 : ev (.tmp 60) = .int .i64 0 := hk 60 (by decide)
            clear hk
            refine ⟨fun _ _ _ => ?_, fun _ hx hne => absurd hx hne⟩
            clear hd
            exact Yield.op (v := .bool true) (w' := wy) (by simp [execOp, go_sem, e60, hp.const]) ⟨Ext.refl _, rfl⟩
          · intro ev wy hp hl hk hd
            have e1 : ev (.tmp 1) = .int .i64 cut := hk 1 (by decide)
            clear hk
            refine ⟨fun _ _ _ => ?_, fun _ hx hne => absurd hx hne⟩
            clear hd
            exact Yield.mv rfl ⟨Ext.refl _, e1⟩
          · intro ev wy hp hl hk hd
            have e62 : ev (.tmp 62) = .int .i64 cut := hk 62 (by decide)
            clear hk
            refine ⟨fun _ _ _ => ?_, fun _ hx hne => absurd hx hne⟩
            clear hd
            exact Yield.op (v := .bool true) (w' := wy) (by simp [execOp, go_sem, e62, hp.const]; omega) ⟨Ext.refl _, rfl⟩
          · intro ev wy hp hl hk hd
            have e63 : ev (.tmp 63) = .bool true := hk 63 (by decide)
            clear hk
            refine ⟨fun _ _ _ => ?_, fun _ hx hne => absurd hx hne⟩
            clear hd
            exact Yield.mv rfl ⟨Ext.refl _, e63⟩
          · intro ev wy hp hl hk hd
            have e1 : ev (.tmp 1) = .int .i64 cut := hk 1 (by decide)
            clear hk
            refine ⟨fun _ _ _ => ?_, fun _ hx hne => absurd hx hne⟩
            clear hd
            exact Yield.mv rfl ⟨Ext.refl _, e1⟩
          · intro ev wy hp hl hk hd
            have e0 : ev (.tmp 0) = .slice a k c := hk 0 (by decide)
            clear hk
            refine ⟨fun _ _ _ => ?_, fun _ hx hne => absurd hx hne⟩
            clear hd
            exact Yield.mv rfl ⟨Ext.refl _, e0⟩
          · intro ev wy hp hl hk hd
            have e66 : ev (.tmp 66) = .slice a k c := hk 66 (by decide)
            clear hk
            refine ⟨fun _ _ _ => ?_, fun _ hx hne => absurd hx hne⟩
            clear hd
            exact Yield.op (v := .int .i64 (k : Nat)) (w' := wy) (by simp [execOp, go_sem, e66]) ⟨Ext.refl _, rfl⟩
          · intro ev wy hp hl hk hd
            have e65 : ev (.tmp 65) = .int .i64 cut := hk 65 (by decide)
            have e67 : ev (.tmp 67) = .int .i64 (k : Nat) := hk 67 (by decide)
            clear hk
            refine ⟨fun _ _ _ => ?_, fun _ hx hne => absurd hx hne⟩
            clear hd
            exact Yield.op (v := .bool true) (w' := wy) (by simp [execOp, go_sem, e65, e67]; omega) ⟨Ext.refl _, rfl⟩
          · intro ev wy hp hl hk hd
            have e64 : ev (.tmp 64) = .bool true := hk 64 (by decide)
            have e68 : ev (.tmp 68) = .bool true := hk 68 (by decide)
            clear hk
            refine ⟨fun _ _ _ => ?_, fun _ hx hne => absurd hx hne⟩
            clear hd
            exact Yield.pick (t := true) rfl e64 ⟨Ext.refl _, e68⟩
          · intro ev wy hp hl hk hd
            have e61 : ev (.tmp 61) = .bool true := hk 61 (by decide)
            have e69 : ev (.tmp 69) = .bool true := hk 69 (by decide)
            clear hk
            refine ⟨fun _ _ _ => ?_, fun _ hx hne => absurd hx hne⟩
            clear hd
            exact Yield.op (v := .bool true) (w' := wy) (by simp [execOp, go_sem, e61, e69]) ⟨Ext.refl _, rfl⟩
          · intro ev wy hp hl hk hd
            have e59 : ev (.tmp 59) = .bool true := hk 59 (by decide)
            have e70 : ev (.tmp 70) = .bool true := hk 70 (by decide)
            clear hk hd
            exact Yield.pick (t := true) rfl e59 ⟨Ext.refl _, e70⟩
          · intro ev wy hp hl hk hd
            have e71 : ev (.tmp 71) = .bool true := hk 71 (by decide)
            clear hk hd
            exact Yield.mv rfl ⟨Ext.refl _, e71⟩
          · intro ev wy hp hl hk hd
            have e10 : ev (.tmp 10) = .pointer (some ⟨Q, 0, none⟩) := hk 10 (by decide)
            clear hk
            refine ⟨fun _ _ _ => ?_, fun _ hx hne => absurd hx hne⟩
            clear hd
            exact Yield.op (v := .pointer (some ⟨Q, 1, none⟩)) (w' := wy) (by simp [execOp, go_sem, e10]) ⟨Ext.refl _, rfl⟩
          · intro ev wy hp hl hk hd
            have e73 : ev (.tmp 73) = .pointer (some ⟨Q, 1, none⟩) := hk 73 (by decide)
            clear hk
            refine ⟨fun _ _ _ => ?_, fun _ hx hne => absurd hx hne⟩
            clear hd
            exact Yield.load rfl e73 (ldSeg9 (cell_of_heap (heap_ext H9.out.2.1 hl) 1)) ⟨Ext.refl _, rfl⟩
          · intro ev wy hp hl hk hd
            have e74 : ev (.tmp 74) = .pointer (some ⟨g2, 0, none⟩) := hk 74 (by decide)
            clear hk
            refine ⟨fun _ _ _ => ?_, fun _ hx hne => absurd hx hne⟩
            clear hd
            refine Yield.call rfl hp Try.func12 rfl (by kernel_rfl) ?_
            simp only [List.map_toArray, List.map_cons, List.map_nil, e74]
            exact (HYL.out wy hl).mono fun _ _ ⟨he, hb⟩ => ⟨_, he, hb, by first | rfl | simp⟩
          · intro ev wy hp hl hk hd
            have e0 : ev (.tmp 0) = .slice a k c := hk 0 (by decide)
            clear hk
            refine ⟨fun _ _ _ => ?_, fun _ hx hne => absurd hx hne⟩
            clear hd
            exact Yield.mv rfl ⟨Ext.refl _, e0⟩
          · intro ev wy hp hl hk hd
            have e76 : ev (.tmp 76) = .slice a k c := hk 76 (by decide)
            clear hk
            refine ⟨fun _ _ _ => ?_, fun _ hx hne => absurd hx hne⟩
            clear hd
            exact Yield.op (v := .int .i64 (k : Nat)) (w' := wy) (by simp [execOp, go_sem, e76]) ⟨Ext.refl _, rfl⟩
          · intro ev wy hp hl hk hd
            have e75 : ev (.tmp 75) = .int .i64 (k : Nat) := hk 75 (by decide)
            have e77 : ev (.tmp 77) = .int .i64 (k : Nat) := hk 77 (by decide)
            clear hk
            refine ⟨fun _ _ _ => ?_, fun _ hx hne => absurd hx hne⟩
            clear hd
            exact Yield.op (v := .bool true) (w' := wy) (by simp [execOp, go_sem, e75, e77]) ⟨Ext.refl _, rfl⟩
          · intro ev wy hp hl hk hd
            have e72 : ev (.tmp 72) = .bool true := hk 72 (by decide)
            have e78 : ev (.tmp 78) = .bool true := hk 78 (by decide)
            clear hk hd
            exact Yield.pick (t := true) rfl e72 ⟨Ext.refl _, e78⟩
          · intro ev wy hp hl hk hd
            have e79 : ev (.tmp 79) = .bool true := hk 79 (by decide)
            clear hk hd
            exact Yield.mv rfl ⟨Ext.refl _, e79⟩
          · intro ev wy hp hl hk hd
            have e10 : ev (.tmp 10) = .pointer (some ⟨Q, 0, none⟩) := hk 10 (by decide)
            clear hk
            refine ⟨fun _ _ _ => ?_, fun _ hx hne => absurd hx hne⟩
            clear hd
            exact Yield.op (v := .pointer (some ⟨Q, 1, none⟩)) (w' := wy) (by simp [execOp, go_sem, e10]) ⟨Ext.refl _, rfl⟩
          · intro ev wy hp hl hk hd
            have e81 : ev (.tmp 81) = .pointer (some ⟨Q, 1, none⟩) := hk 81 (by decide)
            clear hk
            refine ⟨fun _ _ _ => ?_, fun _ hx hne => absurd hx hne⟩
            clear hd
            exact Yield.load rfl e81 (ldSeg9 (cell_of_heap (heap_ext H9.out.2.1 hl) 1)) ⟨Ext.refl _, rfl⟩
          · intro ev wy hp hl hk hd
            have e82 : ev (.tmp 82) = .pointer (some ⟨g2, 0, none⟩) := hk 82 (by decide)
            clear hk
            refine ⟨fun _ _ _ => ?_, fun _ hx hne => absurd hx hne⟩
            clear hd
            refine Yield.call rfl hp Try.func13 rfl (by kernel_rfl) ?_
            simp only [List.map_toArray, List.map_cons, List.map_nil, e82]
            exact (HYT.out wy hl).mono fun _ _ ⟨he, hb⟩ => ⟨_, he, hb, by first | rfl | simp⟩
          · intro ev wy hp hl hk hd
            have e5 : ev (.tmp 5) = .pointer (some ⟨Y, 0, none⟩) := hk 5 (by decide)
            clear hk
            refine ⟨fun _ _ _ => ?_, fun _ hx hne => absurd hx hne⟩
            clear hd
            exact Yield.op (v := .pointer (some ⟨Y, 1, none⟩)) (w' := wy) (by simp [execOp, go_sem, e5]) ⟨Ext.refl _, rfl⟩
          · intro ev wy hp hl hk hd
            have e84 : ev (.tmp 84) = .pointer (some ⟨Y, 1, none⟩) := hk 84 (by decide)
            clear hk
            refine ⟨fun _ _ _ => ?_, fun _ hx hne => absurd hx hne⟩
            clear hd
            exact Yield.load rfl e84 (ldSeg9 (cell_of_heap (heap_ext H9.out.1 hl) 1)) ⟨Ext.refl _, rfl⟩
          · intro ev wy hp hl hk hd
            have e85 : ev (.tmp 85) = .pointer (some ⟨g, 0, none⟩) := hk 85 (by decide)
            clear hk
            refine ⟨fun _ _ _ => ?_, fun _ hx hne => absurd hx hne⟩
            clear hd
            refine Yield.call rfl hp Try.func13 rfl (by kernel_rfl) ?_
            simp only [List.map_toArray, List.map_cons, List.map_nil, e85]
            exact (HXT.out wy hl).mono fun _ _ ⟨he, hb⟩ => ⟨_, he, hb, by first | rfl | simp⟩
          · intro ev wy hp hl hk hd
            have e83 : ev (.tmp 83) = .int .i64 (T : Nat) := hk 83 (by decide)
            have e86 : ev (.tmp 86) = .int .i64 (T : Nat) := hk 86 (by decide)
            clear hk
            refine ⟨fun _ _ _ => ?_, fun _ hx hne => absurd hx hne⟩
            clear hd
            exact Yield.op (v := .bool true) (w' := wy) (by simp [execOp, go_sem, e83, e86]) ⟨Ext.refl _, rfl⟩
          · intro ev wy hp hl hk hd
            have e80 : ev (.tmp 80) = .bool true := hk 80 (by decide)
            have e87 : ev (.tmp 87) = .bool true := hk 87 (by decide)
            clear hk hd
            exact Yield.pick (t := true) rfl e80 ⟨Ext.refl _, e87⟩
          · intro ev wy hp hl hk hd
            have e88 : ev (.tmp 88) = .bool true := hk 88 (by decide)
            clear hk hd
            exact Yield.mv rfl ⟨Ext.refl _, e88⟩
          · intro ev wy hp hl hk hd
            have e10 : ev (.tmp 10) = .pointer (some ⟨Q, 0, none⟩) := hk 10 (by decide)
            clear hk
            refine ⟨fun _ _ _ => ?_, fun _ hx hne => absurd hx hne⟩
            clear hd
            exact Yield.op (v := .pointer (some ⟨Q, 1, none⟩)) (w' := wy) (by simp [execOp, go_sem, e10]) ⟨Ext.refl _, rfl⟩
          · intro ev wy hp hl hk hd
            have e90 : ev (.tmp 90) = .pointer (some ⟨Q, 1, none⟩) := hk 90 (by decide)
            clear hk
            refine ⟨fun _ _ _ => ?_, fun _ hx hne => absurd hx hne⟩
            clear hd
            exact Yield.load rfl e90 (ldSeg9 (cell_of_heap (heap_ext H9.out.2.1 hl) 1)) ⟨Ext.refl _, rfl⟩
          · intro ev wy hp hl hk hd
            have e91 : ev (.tmp 91) = .pointer (some ⟨g2, 0, none⟩) := hk 91 (by decide)
            clear hk
            refine ⟨fun _ _ _ => ?_, fun _ hx hne => absurd hx hne⟩
            clear hd
            refine Yield.call rfl hp Try.func11 rfl (by kernel_rfl) ?_
            simp only [List.map_toArray, List.map_cons, List.map_nil, e91]
            exact (HYS.out wy hl).mono fun _ _ ⟨he, hb⟩ => ⟨_, he, hb, by first | rfl | simp⟩
          · intro ev wy hp hl hk hd
            have e0 : ev (.tmp 0) = .slice a k c := hk 0 (by decide)
            clear hk
            refine ⟨fun _ _ _ => ?_, fun _ hx hne => absurd hx hne⟩
            clear hd
            exact Yield.mv rfl ⟨Ext.refl _, e0⟩
          · intro ev wy hp hl hk hd
            have e93 : ev (.tmp 93) = .slice a k c := hk 93 (by decide)
            clear hk
            refine ⟨fun _ _ _ => ?_, fun _ hx hne => absurd hx hne⟩
            clear hd
            exact Yield.op (v := .int .i64 (k : Nat)) (w' := wy) (by simp [execOp, go_sem, e93]) ⟨Ext.refl _, rfl⟩
          · intro ev wy hp hl hk hd
            have e92 : ev (.tmp 92) = .int .i64 (k : Nat) := hk 92 (by decide)
            have e94 : ev (.tmp 94) = .int .i64 (k : Nat) := hk 94 (by decide)
            clear hk
            refine ⟨fun _ _ _ => ?_, fun _ hx hne => absurd hx hne⟩
            clear hd
            exact Yield.op (v := .bool true) (w' := wy) (by simp [execOp, go_sem, e92, e94]) ⟨Ext.refl _, rfl⟩
          · intro ev wy hp hl hk hd
            have e89 : ev (.tmp 89) = .bool true := hk 89 (by decide)
            have e95 : ev (.tmp 95) = .bool true := hk 95 (by decide)
            clear hk hd
            exact Yield.pick (t := true) rfl e89 ⟨Ext.refl _, e95⟩
          · intro ev wy hp hl hk hd
            have e96 : ev (.tmp 96) = .bool true := hk 96 (by decide)
            clear hk hd
            exact Yield.mv rfl ⟨Ext.refl _, e96⟩
          · intro ev wy hp hl hk hd
            have e10 : ev (.tmp 10) = .pointer (some ⟨Q, 0, none⟩) := hk 10 (by decide)
            clear hk
            refine ⟨fun _ _ _ => ?_, fun _ hx hne => absurd hx hne⟩
            clear hd
            exact Yield.op (v := .pointer (some ⟨Q, 1, none⟩)) (w' := wy) (by simp [execOp, go_sem, e10]) ⟨Ext.refl _, rfl⟩
          · intro ev wy hp hl hk hd
            have e98 : ev (.tmp 98) = .pointer (some ⟨Q, 1, none⟩) := hk 98 (by decide)
            clear hk
            refine ⟨fun _ _ _ => ?_, fun _ hx hne => absurd hx hne⟩
            clear hd
            exact Yield.load rfl e98 (ldSeg9 (cell_of_heap (heap_ext H9.out.2.1 hl) 1)) ⟨Ext.refl _, rfl⟩
          · intro ev wy hp hl hk hd
            have e99 : ev (.tmp 99) = .pointer (some ⟨g2, 0, none⟩) := hk 99 (by decide)
            clear hk
            refine ⟨fun _ _ _ => ?_, fun _ hx hne => absurd hx hne⟩
            clear hd
            refine Yield.call rfl hp Try.func14 rfl (by kernel_rfl) ?_
            simp only [List.map_toArray, List.map_cons, List.map_nil, e99]
            exact (HYA.out wy hl).mono fun _ _ ⟨u, he, hb, hu⟩ => ⟨u, he, hb, hu⟩
          · intro ev wy hp hl hk hd
            have e5 : ev (.tmp 5) = .pointer (some ⟨Y, 0, none⟩) := hk 5 (by decide)
            clear hk
            refine ⟨fun _ _ _ => ?_, fun _ hx hne => absurd hx hne⟩
            clear hd
            exact Yield.op (v := .pointer (some ⟨Y, 1, none⟩)) (w' := wy) (by simp [execOp, go_sem, e5]) ⟨Ext.refl _, rfl⟩
          · intro ev wy hp hl hk hd
            have e101 : ev (.tmp 101) = .pointer (some ⟨Y, 1, none⟩) := hk 101 (by decide)
            clear hk
            refine ⟨fun _ _ _ => ?_, fun _ hx hne => absurd hx hne⟩
            clear hd
            exact Yield.load rfl e101 (ldSeg9 (cell_of_heap (heap_ext H9.out.1 hl) 1)) ⟨Ext.refl _, rfl⟩
          · intro ev wy hp hl hk hd
            have e102 : ev (.tmp 102) = .pointer (some ⟨g, 0, none⟩) := hk 102 (by decide)
            clear hk
            refine ⟨fun _ _ _ => ?_, fun _ hx hne => absurd hx hne⟩
            clear hd
            refine Yield.call rfl hp Try.func14 rfl (by kernel_rfl) ?_
            simp only [List.map_toArray, List.map_cons, List.map_nil, e102]
            exact (HXA.out wy hl).mono fun _ _ ⟨u, he, hb, hu⟩ => ⟨u, he, hb, hu⟩
          · intro ev wy hp hl hk hd
            have f100 : (fun (v : Value) (w : World) => Recs w v (l.drop T)) (ev (.tmp 100)) wy := hk 100 (by decide)
            generalize hx100 : ev (.tmp 100) = x100 at *
            have f103 : (fun (v : Value) (w : World) => Recs w v (l.drop T)) (ev (.tmp 103)) wy := hk 103 (by decide)
            generalize hx103 : ev (.tmp 103) = x103 at *
            clear hk
            refine ⟨fun _ _ _ => ?_, fun _ hx hne => absurd hx hne⟩
            clear hd
            refine Yield.call rfl hp Try.func19 rfl (by kernel_rfl) ?_
            simp only [List.map_toArray, List.map_cons, List.map_nil, hx100, hx103]
            exact (refSameAll9 x100 x103 (l.drop T) wy f100 f103).mono fun _ _ ⟨he, hb⟩ => ⟨_, he, hb, by first | rfl | simp⟩
          · intro ev wy hp hl hk hd
            have e97 : ev (.tmp 97) = .bool true := hk 97 (by decide)
            have e104 : ev (.tmp 104) = .bool true := hk 104 (by decide)
            clear hk hd
            exact Yield.pick (t := true) rfl e97 ⟨Ext.refl _, e104⟩
          · intro ev wy hp hl hk hd
            have e105 : ev (.tmp 105) = .bool true := hk 105 (by decide)
            clear hk hd
            exact Yield.as rfl ⟨Ext.refl _, e105⟩
        · intro vals wz hz hv
          have g58 : vals 0 = .bool true := hv 0 (by decide)
          have g59 : vals 1 = .bool true := hv 1 (by decide)
          have g60 : vals 2 = .int .i64 0 := hv 2 (by decide)
          have g61 : vals 3 = .bool true := hv 3 (by decide)
          have g62 : vals 4 = .int .i64 cut := hv 4 (by decide)
          have g63 : vals 5 = .bool true := hv 5 (by decide)
          have g64 : vals 6 = .bool true := hv 6 (by decide)
          have g65 : vals 7 = .int .i64 cut := hv 7 (by decide)
          have g66 : vals 8 = .slice a k c := hv 8 (by decide)
          have g67 : vals 9 = .int .i64 (k : Nat) := hv 9 (by decide)
          have g68 : vals 10 = .bool true := hv 10 (by decide)
          have g69 : vals 11 = .bool true := hv 11 (by decide)
          have g70 : vals 12 = .bool true := hv 12 (by decide)
          have g71 : vals 13 = .bool true := hv 13 (by decide)
          have g72 : vals 14 = .bool true := hv 14 (by decide)
          have g73 : vals 15 = .pointer (some ⟨Q, 1, none⟩) := hv 15 (by decide)
          have g74 : vals 16 = .pointer (some ⟨g2, 0, none⟩) := hv 16 (by decide)
          have g75 : vals 17 = .int .i64 (k : Nat) := hv 17 (by decide)
          have g76 : vals 18 = .slice a k c := hv 18 (by decide)
          have g77 : vals 19 = .int .i64 (k : Nat) := hv 19 (by decide)
          have g78 : vals 20 = .bool true := hv 20 (by decide)
          have g79 : vals 21 = .bool true := hv 21 (by decide)
          have g80 : vals 22 = .bool true := hv 22 (by decide)
          have g81 : vals 23 = .pointer (some ⟨Q, 1, none⟩) := hv 23 (by decide)
          have g82 : vals 24 = .pointer (some ⟨g2, 0, none⟩) := hv 24 (by decide)
          have g83 : vals 25 = .int .i64 (T : Nat) := hv 25 (by decide)
          have g84 : vals 26 = .pointer (some ⟨Y, 1, none⟩) := hv 26 (by decide)
          have g85 : vals 27 = .pointer (some ⟨g, 0, none⟩) := hv 27 (by decide)
          have g86 : vals 28 = .int .i64 (T : Nat) := hv 28 (by decide)
          have g87 : vals 29 = .bool true := hv 29 (by decide)
          have g88 : vals 30 = .bool true := hv 30 (by decide)
          have g89 : vals 31 = .bool true := hv 31 (by decide)
          have g90 : vals 32 = .pointer (some ⟨Q, 1, none⟩) := hv 32 (by decide)
          have g91 : vals 33 = .pointer (some ⟨g2, 0, none⟩) := hv 33 (by decide)
          have g92 : vals 34 = .int .i64 (k : Nat) := hv 34 (by decide)
          have g93 : vals 35 = .slice a k c := hv 35 (by decide)
          have g94 : vals 36 = .int .i64 (k : Nat) := hv 36 (by decide)
          have g95 : vals 37 = .bool true := hv 37 (by decide)
          have g96 : vals 38 = .bool true := hv 38 (by decide)
          have g97 : vals 39 = .bool true := hv 39 (by decide)
          have g98 : vals 40 = .pointer (some ⟨Q, 1, none⟩) := hv 40 (by decide)
          have g99 : vals 41 = .pointer (some ⟨g2, 0, none⟩) := hv 41 (by decide)
          have g100 : (fun (v : Value) (w : World) => Recs w v (l.drop T)) (vals 42) wz := hv 42 (by decide)
          have g101 : vals 43 = .pointer (some ⟨Y, 1, none⟩) := hv 43 (by decide)
          have g102 : vals 44 = .pointer (some ⟨g, 0, none⟩) := hv 44 (by decide)
          have g103 : (fun (v : Value) (w : World) => Recs w v (l.drop T)) (vals 45) wz := hv 45 (by decide)
          have g104 : vals 46 = .bool true := hv 46 (by decide)
          have g105 : vals 47 = .bool true := hv 47 (by decide)
          have g4 : vals 48 = .bool true := hv 48 (by decide)
          clear hv
          simp only [putAll, Act.put, List.setIfInBounds_toArray, List.set_cons_zero, List.set_cons_succ, g58, g59, g60, g61, g62, g63, g64, g65, g66, g67, g68, g69, g70, g71, g72, g73, g74, g75, g76, g77, g78, g79, g80, g81, g82, g83, g84, g85, g86, g87, g88, g89, g90, g91, g92, g93, g94, g95, g96, g97, g98, g99, g101, g102, g104, g105, g4]
          clear g58
          clear g59
          clear g60
          clear g61
          clear g62
          clear g63
          clear g64
          clear g65
          clear g66
          clear g67
          clear g68
          clear g69
          clear g70
          clear g71
          clear g72
          clear g73
          clear g74
          clear g75
          clear g76
          clear g77
          clear g78
          clear g79
          clear g80
          clear g81
          clear g82
          clear g83
          clear g84
          clear g85
          clear g86
          clear g87
          clear g88
          clear g89
          clear g90
          clear g91
          clear g92
          clear g93
          clear g94
          clear g95
          clear g96
          clear g97
          clear g98
          clear g99
          generalize vals 42 = v100 at *
          clear g101
          clear g102
          generalize vals 45 = v103 at *
          clear g104
          clear g105
          clear g4
          have hfin := HEND.out wz (H9.out.2.2.1.trans (hz.mono H9.out.2.2.2))
          clear hz
          go_wp2_with fail
          go_ret
          exact ⟨rfl, hfin⟩
      · obtain ⟨cu, hcu⟩ : ∃ cu, cut = cu := ⟨_, rfl⟩
        clear hcu
        go_upto_region 15 with fail
        refine wp_region_facts (by kernel_rfl) Ext (fun iop v w => match iop with
            | 0 => v = .bool true
            | 1 => v = .bool true
            | 2 => v = .int .i64 1
            | 3 => v = .bool false
            | 4 => v = .int .i64 cut
            | 5 => v = .bool false
            | 6 => v = .bool false
            | 7 => v = undef
            | 8 => v = undef
            | 9 => v = undef
            | 10 => v = undef
            | 11 => v = .bool false
            | 12 => v = .bool true
            | 13 => v = .bool true
            | 14 => v = .bool true
            | 15 => v = .pointer (some ⟨Q, 1, none⟩)
            | 16 => v = .pointer (some ⟨g2, 0, none⟩)
            | 17 => v = .int .i64 (k : Nat)
            | 18 => v = .slice a k c
            | 19 => v = .int .i64 (k : Nat)
            | 20 => v = .bool true
            | 21 => v = .bool true
            | 22 => v = .bool true
            | 23 => v = .pointer (some ⟨Q, 1, none⟩)
            | 24 => v = .pointer (some ⟨g2, 0, none⟩)
            | 25 => v = .int .i64 (T : Nat)
            | 26 => v = .pointer (some ⟨Y, 1, none⟩)
            | 27 => v = .pointer (some ⟨g, 0, none⟩)
            | 28 => v = .int .i64 (T : Nat)
            | 29 => v = .bool true
            | 30 => v = .bool true
            | 31 => v = .bool true
            | 32 => v = .pointer (some ⟨Q, 1, none⟩)
            | 33 => v = .pointer (some ⟨g2, 0, none⟩)
            | 34 => v = .int .i64 (k : Nat)
            | 35 => v = .slice a k c
            | 36 => v = .int .i64 (k : Nat)
            | 37 => v = .bool true
            | 38 => v = .bool true
            | 39 => v = .bool true
            | 40 => v = .pointer (some ⟨Q, 1, none⟩)
            | 41 => v = .pointer (some ⟨g2, 0, none⟩)
            | 42 => Recs w v (l.drop T)
            | 43 => v = .pointer (some ⟨Y, 1, none⟩)
            | 44 => v = .pointer (some ⟨g, 0, none⟩)
            | 45 => Recs w v (l.drop T)
            | 46 => v = .bool true
            | 47 => v = .bool true
            | _ => v = .bool true
            ) (by kernel_rfl) (fun _ _ _ h k => Ext.trans h k) (fun a => Ext.refl a) (Ext.drew _) ?_ ?_ ?_
        · intro iop v wa wb hF hL
          iterate 42 (rcases iop with _ | iop; exact hF)
          rcases iop with _ | iop; (first | exact hF | exact Recs.below hF hL)
          iterate 2 (rcases iop with _ | iop; exact hF)
          rcases iop with _ | iop; (first | exact hF | exact Recs.below hF hL)
          iterate 2 (rcases iop with _ | iop; exact hF)
          exact hF
        · refine Obls.cons ?_ (Obls.cons ?_ (Obls.cons ?_ (Obls.cons ?_ (Obls.cons ?_ (Obls.cons ?_ (Obls.cons ?_ (Obls.cons ?_ (Obls.cons ?_ (Obls.cons ?_ (Obls.cons ?_ (Obls.cons ?_ (Obls.cons ?_ (Obls.cons ?_ (Obls.cons ?_ (Obls.cons ?_ (Obls.cons ?_ (Obls.cons ?_ (Obls.cons ?_ (Obls.cons ?_ (Obls.cons ?_ (Obls.cons ?_ (Obls.cons ?_ (Obls.cons ?_ (Obls.cons ?_ (Obls.cons ?_ (Obls.cons ?_ (Obls.cons ?_ (Obls.cons ?_ (Obls.cons ?_ (Obls.cons ?_ (Obls.cons ?_ (Obls.cons ?_ (Obls.cons ?_ (Obls.cons ?_ (Obls.cons ?_ (Obls.cons ?_ (Obls.cons ?_ (Obls.cons ?_ (Obls.cons ?_ (Obls.cons ?_ (Obls.cons ?_ (Obls.cons ?_ (Obls.cons ?_ (Obls.cons ?_ (Obls.cons ?_ (Obls.cons ?_ (Obls.cons ?_ (Obls.cons ?_ (Obls.nil)))))))))))))))))))))))))))))))))))))))))))))))))
          · intro ev wy hp hl hk hd
            clear hk hd
            refine Yield.call rfl hp Try.func9 rfl (by kernel_rfl) ?_
            simp only [List.map_toArray, List.map_nil]
            exact (alive9_any wy).mono fun _ _ ⟨he, hb⟩ => ⟨_, he, hb, by first | rfl | simp⟩
          · intro ev wy hp hl hk hd
            have e58 : ev (.tmp 58) = .bool true := hk 58 (by decide)
            clear hk hd
            exact Yield.mv rfl ⟨Ext.refl _, e58⟩
          · intro ev wy hp hl hk hd
            have e9 : ev (.tmp 9) = .int .i64 1 := hk 9 (by decide)
            clear hk
            refine ⟨fun _ _ _ => ?_, fun _ hx hne => absurd hx hne⟩
            clear hd
            exact Yield.mv rfl ⟨Ext.refl _, e9⟩
          · intro ev wy hp hl hk hd
            have e60 : ev (.tmp 60) = .int .i64 1 := hk 60 (by decide)
            clear hk
            refine ⟨fun _ _ _ => ?_, fun _ hx hne => absurd hx hne⟩
            clear hd
            exact Yield.op (v := .bool false) (w' := wy) (by simp [execOp, go_sem, e60, hp.const]) ⟨Ext.refl _, rfl⟩
          · intro ev wy hp hl hk hd
            have e1 : ev (.tmp 1) = .int .i64 cut := hk 1 (by decide)
            clear hk
            refine ⟨fun _ _ _ => ?_, fun _ hx hne => absurd hx hne⟩
            clear hd
            exact Yield.mv rfl ⟨Ext.refl _, e1⟩
          · intro ev wy hp hl hk hd
            have e62 : ev (.tmp 62) = .int .i64 cut := hk 62 (by decide)
            clear hk
            refine ⟨fun _ _ _ => ?_, fun _ hx hne => absurd hx hne⟩
            clear hd
            exact Yield.op (v := .bool false) (w' := wy) (by simp [execOp, go_sem, e62, hp.const]; omega) ⟨Ext.refl _, rfl⟩
          · intro ev wy hp hl hk hd
            have e63 : ev (.tmp 63) = .bool false := hk 63 (by decide)
            clear hk
            refine ⟨fun _ _ _ => ?_, fun _ hx hne => absurd hx hne⟩
            clear hd
            exact Yield.mv rfl ⟨Ext.refl _, e63⟩
          · intro ev wy hp hl hk hd
            have e1 : ev (.tmp 1) = .int .i64 cut := hk 1 (by decide)
            clear hk
            exact ⟨fun x hx he => (by rw [show x = .bool false from hx] at he; cases he), fun _ _ _ => rfl⟩
          · intro ev wy hp hl hk hd
            have e0 : ev (.tmp 0) = .slice a k c := hk 0 (by decide)
            clear hk
            exact ⟨fun x hx he => (by rw [show x = .bool false from hx] at he; cases he), fun _ _ _ => rfl⟩
          · intro ev wy hp hl hk hd
            have e66 : ev (.tmp 66) = undef := hk 66 (by decide)
            clear hk
            exact ⟨fun x hx he => (by rw [show x = .bool false from hx] at he; cases he), fun _ _ _ => rfl⟩
          · intro ev wy hp hl hk hd
            have e65 : ev (.tmp 65) = undef := hk 65 (by decide)
            have e67 : ev (.tmp 67) = undef := hk 67 (by decide)
            clear hk
            exact ⟨fun x hx he => (by rw [show x = .bool false from hx] at he; cases he), fun _ _ _ => rfl⟩
          · intro ev wy hp hl hk hd
            have e64 : ev (.tmp 64) = .bool false := hk 64 (by decide)
            have e68 : ev (.tmp 68) = undef := hk 68 (by decide)
            clear hk
            refine ⟨fun _ _ _ => ?_, fun _ hx hne => absurd hx hne⟩
            clear hd
            exact Yield.pick (t := false) rfl e64 ⟨Ext.refl _, hp.const _⟩
          · intro ev wy hp hl hk hd
            have e61 : ev (.tmp 61) = .bool false := hk 61 (by decide)
            have e69 : ev (.tmp 69) = .bool false := hk 69 (by decide)
            clear hk
            refine ⟨fun _ _ _ => ?_, fun _ hx hne => absurd hx hne⟩
            clear hd
            exact Yield.op (v := .bool true) (w' := wy) (by simp [execOp, go_sem, e61, e69]) ⟨Ext.refl _, rfl⟩
          · intro ev wy hp hl hk hd
            have e59 : ev (.tmp 59) = .bool true := hk 59 (by decide)
            have e70 : ev (.tmp 70) = .bool true := hk 70 (by decide)
            clear hk hd
            exact Yield.pick (t := true) rfl e59 ⟨Ext.refl _, e70⟩
          · intro ev wy hp hl hk hd
            have e71 : ev (.tmp 71) = .bool true := hk 71 (by decide)
            clear hk hd
            exact Yield.mv rfl ⟨Ext.refl _, e71⟩
          · intro ev wy hp hl hk hd
            have e10 : ev (.tmp 10) = .pointer (some ⟨Q, 0, none⟩) := hk 10 (by decide)
            clear hk
            refine ⟨fun _ _ _ => ?_, fun _ hx hne => absurd hx hne⟩
            clear hd
            exact Yield.op (v := .pointer (some ⟨Q, 1, none⟩)) (w' := wy) (by simp [execOp, go_sem, e10]) ⟨Ext.refl _, rfl⟩
          · intro ev wy hp hl hk hd
            have e73 : ev (.tmp 73) = .pointer (some ⟨Q, 1, none⟩) := hk 73 (by decide)
            clear hk
            refine ⟨fun _ _ _ => ?_, fun _ hx hne => absurd hx hne⟩
            clear hd
            exact Yield.load rfl e73 (ldSeg9 (cell_of_heap (heap_ext H9.out.2.1 hl) 1)) ⟨Ext.refl _, rfl⟩
          · intro ev wy hp hl hk hd
            have e74 : ev (.tmp 74) = .pointer (some ⟨g2, 0, none⟩) := hk 74 (by decide)
            clear hk
            refine ⟨fun _ _ _ => ?_, fun _ hx hne => absurd hx hne⟩
            clear hd
            refine Yield.call rfl hp Try.func12 rfl (by kernel_rfl) ?_
            simp only [List.map_toArray, List.map_cons, List.map_nil, e74]
            exact (HYL.out wy hl).mono fun _ _ ⟨he, hb⟩ => ⟨_, he, hb, by first | rfl | simp⟩
          · intro ev wy hp hl hk hd
            have e0 : ev (.tmp 0) = .slice a k c := hk 0 (by decide)
            clear hk
            refine ⟨fun _ _ _ => ?_, fun _ hx hne => absurd hx hne⟩
            clear hd
            exact Yield.mv rfl ⟨Ext.refl _, e0⟩
          · intro ev wy hp hl hk hd
            have e76 : ev (.tmp 76) = .slice a k c := hk 76 (by decide)
            clear hk
            refine ⟨fun _ _ _ => ?_, fun _ hx hne => absurd hx hne⟩
            clear hd
            exact Yield.op (v := .int .i64 (k : Nat)) (w' := wy) (by simp [execOp, go_sem, e76]) ⟨Ext.refl _, rfl⟩
          · intro ev wy hp hl hk hd
            have e75 : ev (.tmp 75) = .int .i64 (k : Nat) := hk 75 (by decide)
            have e77 : ev (.tmp 77) = .int .i64 (k : Nat) := hk 77 (by decide)
            clear hk
            refine ⟨fun _ _ _ => ?_, fun _ hx hne => absurd hx hne⟩
            clear hd
            exact Yield.op (v := .bool true) (w' := wy) (by simp [execOp, go_sem, e75, e77]) ⟨Ext.refl _, rfl⟩
          · intro ev wy hp hl hk hd
            have e72 : ev (.tmp 72) = .bool true := hk 72 (by decide)
            have e78 : ev (.tmp 78) = .bool true := hk 78 (by decide)
            clear hk hd
            exact Yield.pick (t := true) rfl e72 ⟨Ext.refl _, e78⟩
          · intro ev wy hp hl hk hd
            have e79 : ev (.tmp 79) = .bool true := hk 79 (by decide)
            clear hk hd
            exact Yield.mv rfl ⟨Ext.refl _, e79⟩
          · intro ev wy hp hl hk hd
            have e10 : ev (.tmp 10) = .pointer (some ⟨Q, 0, none⟩) := hk 10 (by decide)
            clear hk
            refine ⟨fun _ _ _ => ?_, fun _ hx hne => absurd hx hne⟩
            clear hd
            exact Yield.op (v := .pointer (some ⟨Q, 1, none⟩)) (w' := wy) (by simp [execOp, go_sem, e10]) ⟨Ext.refl _, rfl⟩
          · intro ev wy hp hl hk hd
            have e81 : ev (.tmp 81) = .pointer (some ⟨Q, 1, none⟩) := hk 81 (by decide)
            clear hk
            refine ⟨fun _ _ _ => ?_, fun _ hx hne => absurd hx hne⟩
            clear hd
            exact Yield.load rfl e81 (ldSeg9 (cell_of_heap (heap_ext H9.out.2.1 hl) 1)) ⟨Ext.refl _, rfl⟩
          · intro ev wy hp hl hk hd
            have e82 : ev (.tmp 82) = .pointer (some ⟨g2, 0, none⟩) := hk 82 (by decide)
            clear hk
            refine ⟨fun _ _ _ => ?_, fun _ hx hne => absurd hx hne⟩
            clear hd
            refine Yield.call rfl hp Try.func13 rfl (by kernel_rfl) ?_
            simp only [List.map_toArray, List.map_cons, List.map_nil, e82]
            exact (HYT.out wy hl).mono fun _ _ ⟨he, hb⟩ => ⟨_, he, hb, by first | rfl | simp⟩
          · intro ev wy hp hl hk hd
            have e5 : ev (.tmp 5) = .pointer (some ⟨Y, 0, none⟩) := hk 5 (by decide)
            clear hk
            refine ⟨fun _ _ _ => ?_, fun _ hx hne => absurd hx hne⟩
            clear hd
            exact Yield.op (v := .pointer (some ⟨Y, 1, none⟩)) (w' := wy) (by simp [execOp, go_sem, e5]) ⟨Ext.refl _, rfl⟩
          · intro ev wy hp hl hk hd
            have e84 : ev (.tmp 84) = .pointer (some ⟨Y, 1, none⟩) := hk 84 (by decide)
            clear hk
            refine ⟨fun _ _ _ => ?_, fun _ hx hne => absurd hx hne⟩
            clear hd
            exact Yield.load rfl e84 (ldSeg9 (cell_of_heap (heap_ext H9.out.1 hl) 1)) ⟨Ext.refl _, rfl⟩
          · intro ev wy hp hl hk hd
            have e85 : ev (.tmp 85) = .pointer (some ⟨g, 0, none⟩) := hk 85 (by decide)
            clear hk
            refine ⟨fun _ _ _ => ?_, fun _ hx hne => absurd hx hne⟩
            clear hd
            refine Yield.call rfl hp Try.func13 rfl (by kernel_rfl) ?_
            simp only [List.map_toArray, List.map_cons, List.map_nil, e85]
            exact (HXT.out wy hl).mono fun _ _ ⟨he, hb⟩ => ⟨_, he, hb, by first | rfl | simp⟩
          · intro ev wy hp hl hk hd
            have e83 : ev (.tmp 83) = .int .i64 (T : Nat) := hk 83 (by decide)
            have e86 : ev (.tmp 86) = .int .i64 (T : Nat) := hk 86 (by decide)
            clear hk
            refine ⟨fun _ _ _ => ?_, fun _ hx hne => absurd hx hne⟩
            clear hd
            exact Yield.op (v := .bool true) (w' := wy) (by simp [execOp, go_sem, e83, e86]) ⟨Ext.refl _, rfl⟩
          · intro ev wy hp hl hk hd
            have e80 : ev (.tmp 80) = .bool true := hk 80 (by decide)
            have e87 : ev (.tmp 87) = .bool true := hk 87 (by decide)
            clear hk hd
            exact Yield.pick (t := true) rfl e80 ⟨Ext.refl _, e87⟩
          · intro ev wy hp hl hk hd
            have e88 : ev (.tmp 88) = .bool true := hk 88 (by decide)
            clear hk hd
            exact Yield.mv rfl ⟨Ext.refl _, e88⟩
          · intro ev wy hp hl hk hd
            have e10 : ev (.tmp 10) = .pointer (some ⟨Q, 0, none⟩) := hk 10 (by decide)
            clear hk
            refine ⟨fun _ _ _ => ?_, fun _ hx hne => absurd hx hne⟩
            clear hd
            exact Yield.op (v := .pointer (some ⟨Q, 1, none⟩)) (w' := wy) (by simp [execOp, go_sem, e10]) ⟨Ext.refl _, rfl⟩
          · intro ev wy hp hl hk hd
            have e90 : ev (.tmp 90) = .pointer (some ⟨Q, 1, none⟩) := hk 90 (by decide)
            clear hk
            refine ⟨fun _ _ _ => ?_, fun _ hx hne => absurd hx hne⟩
            clear hd
            exact Yield.load rfl e90 (ldSeg9 (cell_of_heap (heap_ext H9.out.2.1 hl) 1)) ⟨Ext.refl _, rfl⟩
          · intro ev wy hp hl hk hd
            have e91 : ev (.tmp 91) = .pointer (some ⟨g2, 0, none⟩) := hk 91 (by decide)
            clear hk
            refine ⟨fun _ _ _ => ?_, fun _ hx hne => absurd hx hne⟩
            clear hd
            refine Yield.call rfl hp Try.func11 rfl (by kernel_rfl) ?_
            simp only [List.map_toArray, List.map_cons, List.map_nil, e91]
            exact (HYS.out wy hl).mono fun _ _ ⟨he, hb⟩ => ⟨_, he, hb, by first | rfl | simp⟩
          · intro ev wy hp hl hk hd
            have e0 : ev (.tmp 0) = .slice a k c := hk 0 (by decide)
            clear hk
            refine ⟨fun _ _ _ => ?_, fun _ hx hne => absurd hx hne⟩
            clear hd
            exact Yield.mv rfl ⟨Ext.refl _, e0⟩
          · intro ev wy hp hl hk hd
            have e93 : ev (.tmp 93) = .slice a k c := hk 93 (by decide)
            clear hk
            refine ⟨fun _ _ _ => ?_, fun _ hx hne => absurd hx hne⟩
            clear hd
            exact Yield.op (v := .int .i64 (k : Nat)) (w' := wy) (by simp [execOp, go_sem, e93]) ⟨Ext.refl _, rfl⟩
          · intro ev wy hp hl hk hd
            have e92 : ev (.tmp 92) = .int .i64 (k : Nat) := hk 92 (by decide)
            have e94 : ev (.tmp 94) = .int .i64 (k : Nat) := hk 94 (by decide)
            clear hk
            refine ⟨fun _ _ _ => ?_, fun _ hx hne => absurd hx hne⟩
            clear hd
            exact Yield.op (v := .bool true) (w' := wy) (by simp [execOp, go_sem, e92, e94]) ⟨Ext.refl _, rfl⟩
          · intro ev wy hp hl hk hd
            have e89 : ev (.tmp 89) = .bool true := hk 89 (by decide)
            have e95 : ev (.tmp 95) = .bool true := hk 95 (by decide)
            clear hk hd
            exact Yield.pick (t := true) rfl e89 ⟨Ext.refl _, e95⟩
          · intro ev wy hp hl hk hd
            have e96 : ev (.tmp 96) = .bool true := hk 96 (by decide)
            clear hk hd
            exact Yield.mv rfl ⟨Ext.refl _, e96⟩
          · intro ev wy hp hl hk hd
            have e10 : ev (.tmp 10) = .pointer (some ⟨Q, 0, none⟩) := hk 10 (by decide)
            clear hk
            refine ⟨fun _ _ _ => ?_, fun _ hx hne => absurd hx hne⟩
            clear hd
            exact Yield.op (v := .pointer (some ⟨Q, 1, none⟩)) (w' := wy) (by simp [execOp, go_sem, e10]) ⟨Ext.refl _, rfl⟩
          · intro ev wy hp hl hk hd
            have e98 : ev (.tmp 98) = .pointer (some ⟨Q, 1, none⟩) := hk 98 (by decide)
            clear hk
            refine ⟨fun _ _ _ => ?_, fun _ hx hne => absurd hx hne⟩
            clear hd
            exact Yield.load rfl e98 (ldSeg9 (cell_of_heap (heap_ext H9.out.2.1 hl) 1)) ⟨Ext.refl _, rfl⟩
          · intro ev wy hp hl hk hd
            have e99 : ev (.tmp 99) = .pointer (some ⟨g2, 0, none⟩) := hk 99 (by decide)
            clear hk
            refine ⟨fun _ _ _ => ?_, fun _ hx hne => absurd hx hne⟩
            clear hd
            refine Yield.call rfl hp Try.func14 rfl (by kernel_rfl) ?_
            simp only [List.map_toArray, List.map_cons, List.map_nil, e99]
            exact (HYA.out wy hl).mono fun _ _ ⟨u, he, hb, hu⟩ => ⟨u, he, hb, hu⟩
          · intro ev wy hp hl hk hd
            have e5 : ev (.tmp 5) = .pointer (some ⟨Y, 0, none⟩) := hk 5 (by decide)
            clear hk
            refine ⟨fun _ _ _ => ?_, fun _ hx hne => absurd hx hne⟩
            clear hd
            exact Yield.op (v := .pointer (some ⟨Y, 1, none⟩)) (w' := wy) (by simp [execOp, go_sem, e5]) ⟨Ext.refl _, rfl⟩
          · intro ev wy hp hl hk hd
            have e101 : ev (.tmp 101) = .pointer (some ⟨Y, 1, none⟩) := hk 101 (by decide)
            clear hk
            refine ⟨fun _ _ _ => ?_, fun _ hx hne => absurd hx hne⟩
            clear hd
            exact Yield.load rfl e101 (ldSeg9 (cell_of_heap (heap_ext H9.out.1 hl) 1)) ⟨Ext.refl _, rfl⟩
          · intro ev wy hp hl hk hd
            have e102 : ev (.tmp 102) = .pointer (some ⟨g, 0, none⟩) := hk 102 (by decide)
            clear hk
            refine ⟨fun _ _ _ => ?_, fun _ hx hne => absurd hx hne⟩
            clear hd
            refine Yield.call rfl hp Try.func14 rfl (by kernel_rfl) ?_
            simp only [List.map_toArray, List.map_cons, List.map_nil, e102]
            exact (HXA.out wy hl).mono fun _ _ ⟨u, he, hb, hu⟩ => ⟨u, he, hb, hu⟩
          · intro ev wy hp hl hk hd
            have f100 : (fun (v : Value) (w : World) => Recs w v (l.drop T)) (ev (.tmp 100)) wy := hk 100 (by decide)
            generalize hx100 : ev (.tmp 100) = x100 at *
            have f103 : (fun (v : Value) (w : World) => Recs w v (l.drop T)) (ev (.tmp 103)) wy := hk 103 (by decide)
            generalize hx103 : ev (.tmp 103) = x103 at *
            clear hk
            refine ⟨fun _ _ _ => ?_, fun _ hx hne => absurd hx hne⟩
            clear hd
            refine Yield.call rfl hp Try.func19 rfl (by kernel_rfl) ?_
            simp only [List.map_toArray, List.map_cons, List.map_nil, hx100, hx103]
            exact (refSameAll9 x100 x103 (l.drop T) wy f100 f103).mono fun _ _ ⟨he, hb⟩ => ⟨_, he, hb, by first | rfl | simp⟩
          · intro ev wy hp hl hk hd
            have e97 : ev (.tmp 97) = .bool true := hk 97 (by decide)
            have e104 : ev (.tmp 104) = .bool true := hk 104 (by decide)
            clear hk hd
            exact Yield.pick (t := true) rfl e97 ⟨Ext.refl _, e104⟩
          · intro ev wy hp hl hk hd
            have e105 : ev (.tmp 105) = .bool true := hk 105 (by decide)
            clear hk hd
            exact Yield.as rfl ⟨Ext.refl _, e105⟩
        · intro vals wz hz hv
          have g58 : vals 0 = .bool true := hv 0 (by decide)
          have g59 : vals 1 = .bool true := hv 1 (by decide)
          have g60 : vals 2 = .int .i64 1 := hv 2 (by decide)
          have g61 : vals 3 = .bool false := hv 3 (by decide)
          have g62 : vals 4 = .int .i64 cut := hv 4 (by decide)
          have g63 : vals 5 = .bool false := hv 5 (by decide)
          have g64 : vals 6 = .bool false := hv 6 (by decide)
          have g65 : vals 7 = undef := hv 7 (by decide)
          have g66 : vals 8 = undef := hv 8 (by decide)
          have g67 : vals 9 = undef := hv 9 (by decide)
          have g68 : vals 10 = undef := hv 10 (by decide)
          have g69 : vals 11 = .bool false := hv 11 (by decide)
          have g70 : vals 12 = .bool true := hv 12 (by decide)
          have g71 : vals 13 = .bool true := hv 13 (by decide)
          have g72 : vals 14 = .bool true := hv 14 (by decide)
          have g73 : vals 15 = .pointer (some ⟨Q, 1, none⟩) := hv 15 (by decide)
          have g74 : vals 16 = .pointer (some ⟨g2, 0, none⟩) := hv 16 (by decide)
          have g75 : vals 17 = .int .i64 (k : Nat) := hv 17 (by decide)
          have g76 : vals 18 = .slice a k c := hv 18 (by decide)
          have g77 : vals 19 = .int .i64 (k : Nat) := hv 19 (by decide)
          have g78 : vals 20 = .bool true := hv 20 (by decide)
          have g79 : vals 21 = .bool true := hv 21 (by decide)
          have g80 : vals 22 = .bool true := hv 22 (by decide)
          have g81 : vals 23 = .pointer (some ⟨Q, 1, none⟩) := hv 23 (by decide)
          have g82 : vals 24 = .pointer (some ⟨g2, 0, none⟩) := hv 24 (by decide)
          have g83 : vals 25 = .int .i64 (T : Nat) := hv 25 (by decide)
          have g84 : vals 26 = .pointer (some ⟨Y, 1, none⟩) := hv 26 (by decide)
          have g85 : vals 27 = .pointer (some ⟨g, 0, none⟩) := hv 27 (by decide)
          have g86 : vals 28 = .int .i64 (T : Nat) := hv 28 (by decide)
          have g87 : vals 29 = .bool true := hv 29 (by decide)
          have g88 : vals 30 = .bool true := hv 30 (by decide)
          have g89 : vals 31 = .bool true := hv 31 (by decide)
          have g90 : vals 32 = .pointer (some ⟨Q, 1, none⟩) := hv 32 (by decide)
          have g91 : vals 33 = .pointer (some ⟨g2, 0, none⟩) := hv 33 (by decide)
          have g92 : vals 34 = .int .i64 (k : Nat) := hv 34 (by decide)
          have g93 : vals 35 = .slice a k c := hv 35 (by decide)
          have g94 : vals 36 = .int .i64 (k : Nat) := hv 36 (by decide)
          have g95 : vals 37 = .bool true := hv 37 (by decide)
          have g96 : vals 38 = .bool true := hv 38 (by decide)
          have g97 : vals 39 = .bool true := hv 39 (by decide)
          have g98 : vals 40 = .pointer (some ⟨Q, 1, none⟩) := hv 40 (by decide)
          have g99 : vals 41 = .pointer (some ⟨g2, 0, none⟩) := hv 41 (by decide)
          have g100 : (fun (v : Value) (w : World) => Recs w v (l.drop T)) (vals 42) wz := hv 42 (by decide)
          have g101 : vals 43 = .pointer (some ⟨Y, 1, none⟩) := hv 43 (by decide)
          have g102 : vals 44 = .pointer (some ⟨g, 0, none⟩) := hv 44 (by decide)
          have g103 : (fun (v : Value) (w : World) => Recs w v (l.drop T)) (vals 45) wz := hv 45 (by decide)
          have g104 : vals 46 = .bool true := hv 46 (by decide)
          have g105 : vals 47 = .bool true := hv 47 (by decide)
          have g4 : vals 48 = .bool true := hv 48 (by decide)
          clear hv
          simp only [putAll, Act.put, List.setIfInBounds_toArray, List.set_cons_zero, List.set_cons_succ, g58, g59, g60, g61, g62, g63, g64, g65, g66, g67, g68, g69, g70, g71, g72, g73, g74, g75, g76, g77, g78, g79, g80, g81, g82, g83, g84, g85, g86, g87, g88, g89, g90, g91, g92, g93, g94, g95, g96, g97, g98, g99, g101, g102, g104, g105, g4]
          clear g58
          clear g59
          clear g60
          clear g61
          clear g62
          clear g63
          clear g64
          clear g65
          clear g66
          clear g67
          clear g68
          clear g69
          clear g70
          clear g71
          clear g72
          clear g73
          clear g74
          clear g75
          clear g76
          clear g77
          clear g78
          clear g79
          clear g80
          clear g81
          clear g82
          clear g83
          clear g84
          clear g85
          clear g86
          clear g87
          clear g88
          clear g89
          clear g90
          clear g91
          clear g92
          clear g93
          clear g94
          clear g95
          clear g96
          clear g97
          clear g98
          clear g99
          generalize vals 42 = v100 at *
          clear g101
          clear g102
          generalize vals 45 = v103 at *
          clear g104
          clear g105
          clear g4
          have hfin := HEND.out wz (H9.out.2.2.1.trans (hz.mono H9.out.2.2.2))
          clear hz
          go_wp2_with fail
          go_ret
          exact ⟨rfl, hfin⟩
      · obtain ⟨cu, hcu⟩ : ∃ cu, cut = cu := ⟨_, rfl⟩
        clear hcu
        go_upto_region 15 with fail
        refine wp_region_facts (by kernel_rfl) Ext (fun iop v w => match iop with
            | 0 => v = .bool true
            | 1 => v = .bool true
            | 2 => v = .int .i64 1
            | 3 => v = .bool false
            | 4 => v = .int .i64 cut
            | 5 => v = .bool true
            | 6 => v = .bool true
            | 7 => v = .int .i64 cut
            | 8 => v = .slice a k c
            | 9 => v = .int .i64 (k : Nat)
            | 10 => v = .bool false
            | 11 => v = .bool false
            | 12 => v = .bool true
            | 13 => v = .bool true
            | 14 => v = .bool true
            | 15 => v = .pointer (some ⟨Q, 1, none⟩)
            | 16 => v = .pointer (some ⟨g2, 0, none⟩)
            | 17 => v = .int .i64 (k : Nat)
            | 18 => v = .slice a k c
            | 19 => v = .int .i64 (k : Nat)
            | 20 => v = .bool true
            | 21 => v = .bool true
            | 22 => v = .bool true
            | 23 => v = .pointer (some ⟨Q, 1, none⟩)
            | 24 => v = .pointer (some ⟨g2, 0, none⟩)
            | 25 => v = .int .i64 (T : Nat)
            | 26 => v = .pointer (some ⟨Y, 1, none⟩)
            | 27 => v = .pointer (some ⟨g, 0, none⟩)
            | 28 => v = .int .i64 (T : Nat)
            | 29 => v = .bool true
            | 30 => v = .bool true
            | 31 => v = .bool true
            | 32 => v = .pointer (some ⟨Q, 1, none⟩)
            | 33 => v = .pointer (some ⟨g2, 0, none⟩)
            | 34 => v = .int .i64 (k : Nat)
            | 35 => v = .slice a k c
            | 36 => v = .int .i64 (k : Nat)
            | 37 => v = .bool true
            | 38 => v = .bool true
            | 39 => v = .bool true
            | 40 => v = .pointer (some ⟨Q, 1, none⟩)
            | 41 => v = .pointer (some ⟨g2, 0, none⟩)
            | 42 => Recs w v (l.drop T)
            | 43 => v = .pointer (some ⟨Y, 1, none⟩)
            | 44 => v = .pointer (some ⟨g, 0, none⟩)
            | 45 => Recs w v (l.drop T)
            | 46 => v = .bool true
            | 47 => v = .bool true
            | _ => v = .bool true
            ) (by kernel_rfl) (fun _ _ _ h k => Ext.trans h k) (fun a => Ext.refl a) (Ext.drew _) ?_ ?_ ?_
        · intro iop v wa wb hF hL
          iterate 42 (rcases iop with _ | iop; exact hF)
          rcases iop with _ | iop; (first | exact hF | exact Recs.below hF hL)
          iterate 2 (rcases iop with _ | iop; exact hF)
          rcases iop with _ | iop; (first | exact hF | exact Recs.below hF hL)
          iterate 2 (rcases iop with _ | iop; exact hF)
          exact hF
        · refine Obls.cons ?_ (Obls.cons ?_ (Obls.cons ?_ (Obls.cons ?_ (Obls.cons ?_ (Obls.cons ?_ (Obls.cons ?_ (Obls.cons ?_ (Obls.cons ?_ (Obls.cons ?_ (Obls.cons ?_ (Obls.cons ?_ (Obls.cons ?_ (Obls.cons ?_ (Obls.cons ?_ (Obls.cons ?_ (Obls.cons ?_ (Obls.cons ?_ (Obls.cons ?_ (Obls.cons ?_ (Obls.cons ?_ (Obls.cons ?_ (Obls.cons ?_ (Obls.cons ?_ (Obls.cons ?_ (Obls.cons ?_ (Obls.cons ?_ (Obls.cons ?_ (Obls.cons ?_ (Obls.cons ?_ (Obls.cons ?_ (Obls.cons ?_ (Obls.cons ?_ (Obls.cons ?_ (Obls.cons ?_ (Obls.cons ?_ (Obls.cons ?_ (Obls.cons ?_ (Obls.cons ?_ (Obls.cons ?_ (Obls.cons ?_ (Obls.cons ?_ (Obls.cons ?_ (Obls.cons ?_ (Obls.cons ?_ (Obls.cons ?_ (Obls.cons ?_ (Obls.cons ?_ (Obls.cons ?_ (Obls.nil)))))))))))))))))))))))))))))))))))))))))))))))))
          · intro ev wy hp hl hk hd
            clear hk hd
            refine Yield.call rfl hp Try.func9 rfl (by kernel_rfl) ?_
            simp only [List.map_toArray, List.map_nil]
            exact (alive9_any wy).mono fun _ _ ⟨he, hb⟩ => ⟨_, he, hb, by first | rfl | simp⟩
          · intro ev wy hp hl hk hd
            have e58 : ev (.tmp 58) = .bool true := hk 58 (by decide)
            clear hk hd
            exact Yield.mv rfl ⟨Ext.refl _, e58⟩
          · intro ev wy hp hl hk hd
            have e9 : ev (.tmp 9) = .int .i64 1 := hk 9 (by decide)
            clear hk
            refine ⟨fun _ _ _ => ?_, fun _ hx hne => absurd hx hne⟩
            clear hd
            exact Yield.mv rfl ⟨Ext.refl _, e9⟩
          · intro ev wy hp hl hk hd
            have e60 : ev (.tmp 60) = .int .i64 1 := hk 60 (by decide)
            clear hk
            refine ⟨fun _ _ _ => ?_, fun _ hx hne => absurd hx hne⟩
            clear hd
            exact Yield.op (v := .bool false) (w' := wy) (by simp [execOp, go_sem, e60, hp.const]) ⟨Ext.refl _, rfl⟩
          · intro ev wy hp hl hk hd
            have e1 : ev (.tmp 1) = .int .i64 cut := hk 1 (by decide)
            clear hk
            refine ⟨fun _ _ _ => ?_, fun _ hx hne => absurd hx hne⟩
            clear hd
            exact Yield.mv rfl ⟨Ext.refl _, e1⟩
          · intro ev wy hp hl hk hd
            have e62 : ev (.tmp 62) = .int .i64 cut := hk 62 (by decide)
            clear hk
            refine ⟨fun _ _ _ => ?_, fun _ hx hne => absurd hx hne⟩
            clear hd
            exact Yield.op (v := .bool true) (w' := wy) (by simp [execOp, go_sem, e62, hp.const]; omega) ⟨Ext.refl _, rfl⟩
          · intro ev wy hp hl hk hd
            have e63 : ev (.tmp 63) = .bool true := hk 63 (by decide)
            clear hk
            refine ⟨fun _ _ _ => ?_, fun _ hx hne => absurd hx hne⟩
            clear hd
            exact Yield.mv rfl ⟨Ext.refl _, e63⟩
          · intro ev wy hp hl hk hd
            have e1 : ev (.tmp 1) = .int .i64 cut := hk 1 (by decide)
            clear hk
            refine ⟨fun _ _ _ => ?_, fun _ hx hne => absurd hx hne⟩
            clear hd
            exact Yield.mv rfl ⟨Ext.refl _, e1⟩
          · intro ev wy hp hl hk hd
            have e0 : ev (.tmp 0) = .slice a k c := hk 0 (by decide)
            clear hk
            refine ⟨fun _ _ _ => ?_, fun _ hx hne => absurd hx hne⟩
            clear hd
            exact Yield.mv rfl ⟨Ext.refl _, e0⟩
          · intro ev wy hp hl hk hd
            have e66 : ev (.tmp 66) = .slice a k c := hk 66 (by decide)
            clear hk
            refine ⟨fun _ _ _ => ?_, fun _ hx hne => absurd hx hne⟩
            clear hd
            exact Yield.op (v := .int .i64 (k : Nat)) (w' := wy) (by simp [execOp, go_sem, e66]) ⟨Ext.refl _, rfl⟩
          · intro ev wy hp hl hk hd
            have e65 : ev (.tmp 65) = .int .i64 cut := hk 65 (by decide)
            have e67 : ev (.tmp 67) = .int .i64 (k : Nat) := hk 67 (by decide)
            clear hk
            refine ⟨fun _ _ _ => ?_, fun _ hx hne => absurd hx hne⟩
            clear hd
            exact Yield.op (v := .bool false) (w' := wy) (by simp [execOp, go_sem, e65, e67]; omega) ⟨Ext.refl _, rfl⟩
          · intro ev wy hp hl hk hd
            have e64 : ev (.tmp 64) = .bool true := hk 64 (by decide)
            have e68 : ev (.tmp 68) = .bool false := hk 68 (by decide)
            clear hk
            refine ⟨fun _ _ _ => ?_, fun _ hx hne => absurd hx hne⟩
            clear hd
            exact Yield.pick (t := true) rfl e64 ⟨Ext.refl _, e68⟩
          · intro ev wy hp hl hk hd
            have e61 : ev (.tmp 61) = .bool false := hk 61 (by decide)
            have e69 : ev (.tmp 69) = .bool false := hk 69 (by decide)
            clear hk
            refine ⟨fun _ _ _ => ?_, fun _ hx hne => absurd hx hne⟩
            clear hd
            exact Yield.op (v := .bool true) (w' := wy) (by simp [execOp, go_sem, e61, e69]) ⟨Ext.refl _, rfl⟩
          · intro ev wy hp hl hk hd
            have e59 : ev (.tmp 59) = .bool true := hk 59 (by decide)
            have e70 : ev (.tmp 70) = .bool true := hk 70 (by decide)
            clear hk hd
            exact Yield.pick (t := true) rfl e59 ⟨Ext.refl _, e70⟩
          · intro ev wy hp hl hk hd
            have e71 : ev (.tmp 71) = .bool true := hk 71 (by decide)
            clear hk hd
            exact Yield.mv rfl ⟨Ext.refl _, e71⟩
          · intro ev wy hp hl hk hd
            have e10 : ev (.tmp 10) = .pointer (some ⟨Q, 0, none⟩) := hk 10 (by decide)
            clear hk
            refine ⟨fun _ _ _ => ?_, fun _ hx hne => absurd hx hne⟩
            clear hd
            exact Yield.op (v := .pointer (some ⟨Q, 1, none⟩)) (w' := wy) (by simp [execOp, go_sem, e10]) ⟨Ext.refl _, rfl⟩
          · intro ev wy hp hl hk hd
            have e73 : ev (.tmp 73) = .pointer (some ⟨Q, 1, none⟩) := hk 73 (by decide)
            clear hk
            refine ⟨fun _ _ _ => ?_, fun _ hx hne => absurd hx hne⟩
            clear hd
            exact Yield.load rfl e73 (ldSeg9 (cell_of_heap (heap_ext H9.out.2.1 hl) 1)) ⟨Ext.refl _, rfl⟩
          · intro ev wy hp hl hk hd
            have e74 : ev (.tmp 74) = .pointer (some ⟨g2, 0, none⟩) := hk 74 (by decide)
            clear hk
            refine ⟨fun _ _ _ => ?_, fun _ hx hne => absurd hx hne⟩
            clear hd
            refine Yield.call rfl hp Try.func12 rfl (by kernel_rfl) ?_
            simp only [List.map_toArray, List.map_cons, List.map_nil, e74]
            exact (HYL.out wy hl).mono fun _ _ ⟨he, hb⟩ => ⟨_, he, hb, by first | rfl | simp⟩
          · intro ev wy hp hl hk hd
            have e0 : ev (.tmp 0) = .slice a k c := hk 0 (by decide)
            clear hk
            refine ⟨fun _ _ _ => ?_, fun _ hx hne => absurd hx hne⟩
            clear hd
            exact Yield.mv rfl ⟨Ext.refl _, e0⟩
          · intro ev wy hp hl hk hd
            have e76 : ev (.tmp 76) = .slice a k c := hk 76 (by decide)
            clear hk
            refine ⟨fun _ _ _ => ?_, fun _ hx hne => absurd hx hne⟩
            clear hd
            exact Yield.op (v := .int .i64 (k : Nat)) (w' := wy) (by simp [execOp, go_sem, e76]) ⟨Ext.refl _, rfl⟩
          · intro ev wy hp hl hk hd
            have e75 : ev (.tmp 75) = .int .i64 (k : Nat) := hk 75 (by decide)
            have e77 : ev (.tmp 77) = .int .i64 (k : Nat) := hk 77 (by decide)
            clear hk
            refine ⟨fun _ _ _ => ?_, fun _ hx hne => absurd hx hne⟩
            clear hd
            exact Yield.op (v := .bool true) (w' := wy) (by simp [execOp, go_sem, e75, e77]) ⟨Ext.refl _, rfl⟩
          · intro ev wy hp hl hk hd
            have e72 : ev (.tmp 72) = .bool true := hk 72 (by decide)
            have e78 : ev (.tmp 78) = .bool true := hk 78 (by decide)
            clear hk hd
            exact Yield.pick (t := true) rfl e72 ⟨Ext.refl _, e78⟩
          · intro ev wy hp hl hk hd
            have e79 : ev (.tmp 79) = .bool true := hk 79 (by decide)
            clear hk hd
            exact Yield.mv rfl ⟨Ext.refl _, e79⟩
          · intro ev wy hp hl hk hd
            have e10 : ev (.tmp 10) = .pointer (some ⟨Q, 0, none⟩) := hk 10 (by decide)
            clear hk
            refine ⟨fun _ _ _ => ?_, fun _ hx hne => absurd hx hne⟩
            clear hd
            exact Yield.op (v := .pointer (some ⟨Q, 1, none⟩)) (w' := wy) (by simp [execOp, go_sem, e10]) ⟨Ext.refl _, rfl⟩
          · intro ev wy hp hl hk hd
            have e81 : ev (.tmp 81) = .pointer (some ⟨Q, 1, none⟩) := hk 81 (by decide)
            clear hk
            refine ⟨fun _ _ _ => ?_, fun _ hx hne => absurd hx hne⟩
            clear hd
            exact Yield.load rfl e81 (ldSeg9 (cell_of_heap (heap_ext H9.out.2.1 hl) 1)) ⟨Ext.refl _, rfl⟩
          · intro ev wy hp hl hk hd
            have e82 : ev (.tmp 82) = .pointer (some ⟨g2, 0, none⟩) := hk 82 (by decide)
            clear hk
            refine ⟨fun _ _ _ => ?_, fun _ hx hne => absurd hx hne⟩
            clear hd
            refine Yield.call rfl hp Try.func13 rfl (by kernel_rfl) ?_
            simp only [List.map_toArray, List.map_cons, List.map_nil, e82]
            exact (HYT.out wy hl).mono fun _ _ ⟨he, hb⟩ => ⟨_, he, hb, by first | rfl | simp⟩
          · intro ev wy hp hl hk hd
            have e5 : ev (.tmp 5) = .pointer (some ⟨Y, 0, none⟩) := hk 5 (by decide)
            clear hk
            refine ⟨fun _ _ _ => ?_, fun _ hx hne => absurd hx hne⟩
            clear hd
            exact Yield.op (v := .pointer (some ⟨Y, 1, none⟩)) (w' := wy) (by simp [execOp, go_sem, e5]) ⟨Ext.refl _, rfl⟩
          · intro ev wy hp hl hk hd
            have e84 : ev (.tmp 84) = .pointer (some ⟨Y, 1, none⟩) := hk 84 (by decide)
            clear hk
            refine ⟨fun _ _ _ => ?_, fun _ hx hne => absurd hx hne⟩
            clear hd
            exact Yield.load rfl e84 (ldSeg9 (cell_of_heap (heap_ext H9.out.1 hl) 1)) ⟨Ext.refl _, rfl⟩
          · intro ev wy hp hl hk hd
            have e85 : ev (.tmp 85) = .pointer (some ⟨g, 0, none⟩) := hk 85 (by decide)
            clear hk
            refine ⟨fun _ _ _ => ?_, fun _ hx hne => absurd hx hne⟩
            clear hd
            refine Yield.call rfl hp Try.func13 rfl (by kernel_rfl) ?_
            simp only [List.map_toArray, List.map_cons, List.map_nil, e85]
            exact (HXT.out wy hl).mono fun _ _ ⟨he, hb⟩ => ⟨_, he, hb, by first | rfl | simp⟩
          · intro ev wy hp hl hk hd
            have e83 : ev (.tmp 83) = .int .i64 (T : Nat) := hk 83 (by decide)
            have e86 : ev (.tmp 86) = .int .i64 (T : Nat) := hk 86 (by decide)
            clear hk
            refine ⟨fun _ _ _ => ?_, fun _ hx hne => absurd hx hne⟩
            clear hd
            exact Yield.op (v := .bool true) (w' := wy) (by simp [execOp, go_sem, e83, e86]) ⟨Ext.refl _, rfl⟩
          · intro ev wy hp hl hk hd
            have e80 : ev (.tmp 80) = .bool true := hk 80 (by decide)
            have e87 : ev (.tmp 87) = .bool true := hk 87 (by decide)
            clear hk hd
            exact Yield.pick (t := true) rfl e80 ⟨Ext.refl _, e87⟩
          · intro ev wy hp hl hk hd
            have e88 : ev (.tmp 88) = .bool true := hk 88 (by decide)
            clear hk hd
            exact Yield.mv rfl ⟨Ext.refl _, e88⟩
          · intro ev wy hp hl hk hd
            have e10 : ev (.tmp 10) = .pointer (some ⟨Q, 0, none⟩) := hk 10 (by decide)
            clear hk
            refine ⟨fun _ _ _ => ?_, fun _ hx hne => absurd hx hne⟩
            clear hd
            exact Yield.op (v := .pointer (some ⟨Q, 1, none⟩)) (w' := wy) (by simp [execOp, go_sem, e10]) ⟨Ext.refl _, rfl⟩
          · intro ev wy hp hl hk hd
            have e90 : ev (.tmp 90) = .pointer (some ⟨Q, 1, none⟩) := hk 90 (by decide)
            clear hk
            refine ⟨fun _ _ _ => ?_, fun _ hx hne => absurd hx hne⟩
            clear hd
            exact Yield.load rfl e90 (ldSeg9 (cell_of_heap (heap_ext H9.out.2.1 hl) 1)) ⟨Ext.refl _, rfl⟩
          · intro ev wy hp hl hk hd
            have e91 : ev (.tmp 91) = .pointer (some ⟨g2, 0, none⟩) := hk 91 (by decide)
            clear hk
            refine ⟨fun _ _ _ => ?_, fun _ hx hne => absurd hx hne⟩
            clear hd
            refine Yield.call rfl hp Try.func11 rfl (by kernel_rfl) ?_
            simp only [List.map_toArray, List.map_cons, List.map_nil, e91]
            exact (HYS.out wy hl).mono fun _ _ ⟨he, hb⟩ => ⟨_, he, hb, by first | rfl | simp⟩
          · intro ev wy hp hl hk hd
            have e0 : ev (.tmp 0) = .slice a k c := hk 0 (by decide)
            clear hk
            refine ⟨fun _ _ _ => ?_, fun _ hx hne => absurd hx hne⟩
            clear hd
            exact Yield.mv rfl ⟨Ext.refl _, e0⟩
          · intro ev wy hp hl hk hd
            have e93 : ev (.tmp 93) = .slice a k c := hk 93 (by decide)
            clear hk
            refine ⟨fun _ _ _ => ?_, fun _ hx hne => absurd hx hne⟩
            clear hd
            exact Yield.op (v := .int .i64 (k : Nat)) (w' := wy) (by simp [execOp, go_sem, e93]) ⟨Ext.refl _, rfl⟩
          · intro ev wy hp hl hk hd
            have e92 : ev (.tmp 92) = .int .i64 (k : Nat) := hk 92 (by decide)
            have e94 : ev (.tmp 94) = .int .i64 (k : Nat) := hk 94 (by decide)
            clear hk
            refine ⟨fun _ _ _ => ?_, fun _ hx hne => absurd hx hne⟩
            clear hd
            exact Yield.op (v := .bool true) (w' := wy) (by simp [execOp, go_sem, e92, e94]) ⟨Ext.refl _, rfl⟩
          · intro ev wy hp hl hk hd
            have e89 : ev (.tmp 89) = .bool true := hk 89 (by decide)
            have e95 : ev (.tmp 95) = .bool true := hk 95 (by decide)
            clear hk hd
            exact Yield.pick (t := true) rfl e89 ⟨Ext.refl _, e95⟩
          · intro ev wy hp hl hk hd
            have e96 : ev (.tmp 96) = .bool true := hk 96 (by decide)
            clear hk hd
            exact Yield.mv rfl ⟨Ext.refl _, e96⟩
          · intro ev wy hp hl hk hd
            have e10 : ev (.tmp 10) = .pointer (some ⟨Q, 0, none⟩) := hk 10 (by decide)
            clear hk
            refine ⟨fun _ _ _ => ?_, fun _ hx hne => absurd hx hne⟩
            clear hd
            exact Yield.op (v := .pointer (some ⟨Q, 1, none⟩)) (w' := wy) (by simp [execOp, go_sem, e10]) ⟨Ext.refl _, rfl⟩
          · intro ev wy hp hl hk hd
            have e98 : ev (.tmp 98) = .pointer (some ⟨Q, 1, none⟩) := hk 98 (by decide)
            clear hk
            refine ⟨fun _ _ _ => ?_, fun _ hx hne => absurd hx hne⟩
            clear hd
            exact Yield.load rfl e98 (ldSeg9 (cell_of_heap (heap_ext H9.out.2.1 hl) 1)) ⟨Ext.refl _, rfl⟩
          · intro ev wy hp hl hk hd
            have e99 : ev (.tmp 99) = .pointer (some ⟨g2, 0, none⟩) := hk 99 (by decide)
            clear hk
            refine ⟨fun _ _ _ => ?_, fun _ hx hne => absurd hx hne⟩
            clear hd
            refine Yield.call rfl hp Try.func14 rfl (by kernel_rfl) ?_
            simp only [List.map_toArray, List.map_cons, List.map_nil, e99]
            exact (HYA.out wy hl).mono fun _ _ ⟨u, he, hb, hu⟩ => ⟨u, he, hb, hu⟩
          · intro ev wy hp hl hk hd
            have e5 : ev (.tmp 5) = .pointer (some ⟨Y, 0, none⟩) := hk 5 (by decide)
            clear hk
            refine ⟨fun _ _ _ => ?_, fun _ hx hne => absurd hx hne⟩
            clear hd
            exact Yield.op (v := .pointer (some ⟨Y, 1, none⟩)) (w' := wy) (by simp [execOp, go_sem, e5]) ⟨Ext.refl _, rfl⟩
          · intro ev wy hp hl hk hd
            have e101 : ev (.tmp 101) = .pointer (some ⟨Y, 1, none⟩) := hk 101 (by decide)
            clear hk
            refine ⟨fun _ _ _ => ?_, fun _ hx hne => absurd hx hne⟩
            clear hd
            exact Yield.load rfl e101 (ldSeg9 (cell_of_heap (heap_ext H9.out.1 hl) 1)) ⟨Ext.refl _, rfl⟩
          · intro ev wy hp hl hk hd
            have e102 : ev (.tmp 102) = .pointer (some ⟨g, 0, none⟩) := hk 102 (by decide)
            clear hk
            refine ⟨fun _ _ _ => ?_, fun _ hx hne => absurd hx hne⟩
            clear hd
            refine Yield.call rfl hp Try.func14 rfl (by kernel_rfl) ?_
            simp only [List.map_toArray, List.map_cons, List.map_nil, e102]
            exact (HXA.out wy hl).mono fun _ _ ⟨u, he, hb, hu⟩ => ⟨u, he, hb, hu⟩
          · intro ev wy hp hl hk hd
            have f100 : (fun (v : Value) (w : World) => Recs w v (l.drop T)) (ev (.tmp 100)) wy := hk 100 (by decide)
            generalize hx100 : ev (.tmp 100) = x100 at *
            have f103 : (fun (v : Value) (w : World) => Recs w v (l.drop T)) (ev (.tmp 103)) wy := hk 103 (by decide)
            generalize hx103 : ev (.tmp 103) = x103 at *
            clear hk
            refine ⟨fun _ _ _ => ?_, fun _ hx hne => absurd hx hne⟩
            clear hd
            refine Yield.call rfl hp Try.func19 rfl (by kernel_rfl) ?_
            simp only [List.map_toArray, List.map_cons, List.map_nil, hx100, hx103]
            exact (refSameAll9 x100 x103 (l.drop T) wy f100 f103).mono fun _ _ ⟨he, hb⟩ => ⟨_, he, hb, by first | rfl | simp⟩
          · intro ev wy hp hl hk hd
            have e97 : ev (.tmp 97) = .bool true := hk 97 (by decide)
            have e104 : ev (.tmp 104) = .bool true := hk 104 (by decide)
            clear hk hd
            exact Yield.pick (t := true) rfl e97 ⟨Ext.refl _, e104⟩
          · intro ev wy hp hl hk hd
            have e105 : ev (.tmp 105) = .bool true := hk 105 (by decide)
            clear hk hd
            exact Yield.as rfl ⟨Ext.refl _, e105⟩
        · intro vals wz hz hv
          have g58 : vals 0 = .bool true := hv 0 (by decide)
          have g59 : vals 1 = .bool true := hv 1 (by decide)
          have g60 : vals 2 = .int .i64 1 := hv 2 (by decide)
          have g61 : vals 3 = .bool false := hv 3 (by decide)
          have g62 : vals 4 = .int .i64 cut := hv 4 (by decide)
          have g63 : vals 5 = .bool true := hv 5 (by decide)
          have g64 : vals 6 = .bool true := hv 6 (by decide)
          have g65 : vals 7 = .int .i64 cut := hv 7 (by decide)
          have g66 : vals 8 = .slice a k c := hv 8 (by decide)
          have g67 : vals 9 = .int .i64 (k : Nat) := hv 9 (by decide)
          have g68 : vals 10 = .bool false := hv 10 (by decide)
          have g69 : vals 11 = .bool false := hv 11 (by decide)
          have g70 : vals 12 = .bool true := hv 12 (by decide)
          have g71 : vals 13 = .bool true := hv 13 (by decide)
          have g72 : vals 14 = .bool true := hv 14 (by decide)
          have g73 : vals 15 = .pointer (some ⟨Q, 1, none⟩) := hv 15 (by decide)
          have g74 : vals 16 = .pointer (some ⟨g2, 0, none⟩) := hv 16 (by decide)
          have g75 : vals 17 = .int .i64 (k : Nat) := hv 17 (by decide)
          have g76 : vals 18 = .slice a k c := hv 18 (by decide)
          have g77 : vals 19 = .int .i64 (k : Nat) := hv 19 (by decide)
          have g78 : vals 20 = .bool true := hv 20 (by decide)
          have g79 : vals 21 = .bool true := hv 21 (by decide)
          have g80 : vals 22 = .bool true := hv 22 (by decide)
          have g81 : vals 23 = .pointer (some ⟨Q, 1, none⟩) := hv 23 (by decide)
          have g82 : vals 24 = .pointer (some ⟨g2, 0, none⟩) := hv 24 (by decide)
          have g83 : vals 25 = .int .i64 (T : Nat) := hv 25 (by decide)
          have g84 : vals 26 = .pointer (some ⟨Y, 1, none⟩) := hv 26 (by decide)
          have g85 : vals 27 = .pointer (some ⟨g, 0, none⟩) := hv 27 (by decide)
          have g86 : vals 28 = .int .i64 (T : Nat) := hv 28 (by decide)
          have g87 : vals 29 = .bool true := hv 29 (by decide)
          have g88 : vals 30 = .bool true := hv 30 (by decide)
          have g89 : vals 31 = .bool true := hv 31 (by decide)
          have g90 : vals 32 = .pointer (some ⟨Q, 1, none⟩) := hv 32 (by decide)
          have g91 : vals 33 = .pointer (some ⟨g2, 0, none⟩) := hv 33 (by decide)
          have g92 : vals 34 = .int .i64 (k : Nat) := hv 34 (by decide)
          have g93 : vals 35 = .slice a k c := hv 35 (by decide)
          have g94 : vals 36 = .int .i64 (k : Nat) := hv 36 (by decide)
          have g95 : vals 37 = .bool true := hv 37 (by decide)
          have g96 : vals 38 = .bool true := hv 38 (by decide)
          have g97 : vals 39 = .bool true := hv 39 (by decide)
          have g98 : vals 40 = .pointer (some ⟨Q, 1, none⟩) := hv 40 (by decide)
          have g99 : vals 41 = .pointer (some ⟨g2, 0, none⟩) := hv 41 (by decide)
          have g100 : (fun (v : Value) (w : World) => Recs w v (l.drop T)) (vals 42) wz := hv 42 (by decide)
          have g101 : vals 43 = .pointer (some ⟨Y, 1, none⟩) := hv 43 (by decide)
          have g102 : vals 44 = .pointer (some ⟨g, 0, none⟩) := hv 44 (by decide)
          have g103 : (fun (v : Value) (w : World) => Recs w v (l.drop T)) (vals 45) wz := hv 45 (by decide)
          have g104 : vals 46 = .bool true := hv 46 (by decide)
          have g105 : vals 47 = .bool true := hv 47 (by decide)
          have g4 : vals 48 = .bool true := hv 48 (by decide)
          clear hv
          simp only [putAll, Act.put, List.setIfInBounds_toArray, List.set_cons_zero, List.set_cons_succ, g58, g59, g60, g61, g62, g63, g64, g65, g66, g67, g68, g69, g70, g71, g72, g73, g74, g75, g76, g77, g78, g79, g80, g81, g82, g83, g84, g85, g86, g87, g88, g89, g90, g91, g92, g93, g94, g95, g96, g97, g98, g99, g101, g102, g104, g105, g4]
          clear g58
          clear g59
          clear g60
          clear g61
          clear g62
          clear g63
          clear g64
          clear g65
          clear g66
          clear g67
          clear g68
          clear g69
          clear g70
          clear g71
          clear g72
          clear g73
          clear g74
          clear g75
          clear g76
          clear g77
          clear g78
          clear g79
          clear g80
          clear g81
          clear g82
          clear g83
          clear g84
          clear g85
          clear g86
          clear g87
          clear g88
          clear g89
          clear g90
          clear g91
          clear g92
          clear g93
          clear g94
          clear g95
          clear g96
          clear g97
          clear g98
          clear g99
          generalize vals 42 = v100 at *
          clear g101
          clear g102
          generalize vals 45 = v103 at *
          clear g104
          clear g105
          clear g4
          have hfin := HEND.out wz (H9.out.2.2.1.trans (hz.mono H9.out.2.2.2))
          clear hz
          go_wp2_with fail
          go_ret
          exact ⟨rfl, hfin⟩

namespace segmentOpens
theorem own : ownKnob Try.prog.godebug = none := by kernel_rfl
theorem laidOut : laidOutB Try.prog = true := by kernel_rfl
set_option linter.unusedVariables false in
set_option maxRecDepth 100000 in
theorem lifted (os : Os) (started : os.Started) (H : Type) (enc : TypeId × Value → H) :
    ReturnsInHanded {} Try.checked os 5 .any (Rows.segmentOpensSpec.pre6 enc Try.prog Try.f5 Rows.segmentOpensRow.domain false) (Rows.segmentOpensSpec.post enc Try.prog Try.f5 false true false false) := by
  refine returnsInHanded_of_change_sized (C := Try.checked) own started (by kernel_rfl) Try.func5
    (ChangeSpec.witness6 (enc := enc) (C := Try.checked) false ⟨#[], #[.slice none 0 0, .int .i64 0], []⟩ 8 (by kernel_rfl) (by kernel_rfl) (by kernel_rfl) (by kernel_rfl)) ?_
  intro W base args ds gs before hval0 hW hcnd hsz _
  have hval : ∀ (j : Nat) t v, Try.f5.params[j]? = some t → args[j]? = some v → Value.okWide Try.prog W .any base t v := hval0
  have hW' := hW
  obtain ⟨p, q, hA0, hV, rfl, hfz, hnd⟩ := hW'
  have hA : DataW.TrodAll enc Try.prog W 0 (fun _ => true) true Try.f5.params.toList args.toList ds p := hA0
  rw [Try.params5] at hA hval
  obtain ⟨v0, vs0, d0, ds0, p0, q0, hargs, rfl, rfl, h0, r0⟩ := trodAll_cons hA
  obtain ⟨v1, vs1, d1, ds1, p1, q1, rfl, rfl, rfl, h1, r1⟩ := trodAll_cons r0
  obtain ⟨rfl, rfl, rfl⟩ := trodAll_nil r1
  obtain rfl : args = #[v0, v1] := by cases args; simp_all
  obtain ⟨rfl, rfl⟩ := trodVars_none hV
  have k0 := h0
  have lt0 : ∀ x ∈ p0, x.block < W.heap.size := by obtain ⟨m, hm⟩ := k0; exact DataW.trod_lt m _ _ _ hm
  obtain ⟨a0, len0, cap0, rfl⟩ := okWide_slice Try.underlying42 (hval 0 42 v0 rfl rfl)
  obtain ⟨l0, w0⟩ : ∃ l, Recs W (.slice a0 len0 cap0) l := by
    obtain ⟨fuel, hf⟩ := h0
    obtain ⟨v, l, hcs, hb⟩ := recs_of_raw hf
    simp [Value.cells] at hcs
    subst hcs
    exact ⟨l, hb⟩
  have sz0 : len0 * 56 ≤ 140737488351232 := by obtain ⟨fuel, hf⟩ := h0; exact reach_of_raw (P := Try.prog) (x := (d0, p0)) (j := 0) hsz (by rw [Try.params5]; rfl) rfl Try.underlying42 (by kernel_rfl) hf
  have k1 := h1
  have lt1 : ∀ x ∈ p1, x.block < W.heap.size := by obtain ⟨m, hm⟩ := k1; exact DataW.trod_lt m _ _ _ hm
  obtain ⟨a1, rfl, _, _, w1⟩ := open_int Try.underlying3 (hval 1 3 v1 rfl rfl) h1
  clear hA0 hval0
  refine (segmentOpens_walk a0 len0 cap0 l0 a1 W w0 (bounds_i64 w1)).mono fun e W' ⟨he, bel⟩ => ?_
  subst he
  exact ⟨_, rfl, _, _, _, [], _, [], hW, trodAll_mk1 (shut_bool Try.underlying4 _), (trodAll_cons_mk (Below.trod laidOut (by kernel_rfl) (of_decide_eq_true (by kernel_rfl)) k0 bel lt0) (trodAll_cons_mk (Below.trod laidOut (by kernel_rfl) (of_decide_eq_true (by kernel_rfl)) k1 bel lt1) trodAll_mk0)), rfl, bel.frame _, fun h => by cases h⟩
theorem over : Rows.segmentOpensRow.holds Try.pinned (OpenSpec.ofChange Rows.segmentOpensSpec) :=
  OpenClaim.holds_of_wide 5 Try.f5 rfl rfl rfl rfl rfl rfl rfl ⟨rfl, rfl, rfl, rfl, rfl⟩ rfl rfl rfl rfl rfl (by kernel_rfl) Try.func5 (by kernel_rfl)
    (of_decide_eq_true (by kernel_rfl)) (by unfold Func.isWrapper; first | (rw [if_pos (by decide +kernel)]; kernel_rfl) | (rw [if_neg (by decide +kernel)]; exact ⟨rfl, rfl⟩))
    (fun os started H enc _ => lifted os started H enc)
theorem proved : Rows.SegmentOpensSaid := over
end segmentOpens
end Go.Proofs.Ytfgjhagfpafmoaa
