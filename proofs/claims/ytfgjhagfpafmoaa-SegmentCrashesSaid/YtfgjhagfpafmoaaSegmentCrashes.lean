/-
  SegmentCrashes: behind a crash all records that were safe are there, and of the others some first ones, as they were appended: for every input the statement's function returns true, and leaves what came in as it was.
-/
import Derived.Test.YtfgjhagfpafmoaaSgL
import Derived.Test.YtfgjhagfpafmoaaSgM
import Derived.Test.YtfgjhagfpafmoaaSgP
namespace Go.Proofs.Ytfgjhagfpafmoaa
set_option linter.unusedSimpArgs false
set_option linter.unusedVariables false
open Go.ChangeShapes Go.WideShapes Go.ChangeAt Go.RowKit

theorem ldSeg9 {w : World} {q i : Nat} {x : Option Addr} (h : w.cell? ⟨q, i, none⟩ = some (.pointer x)) : (Instr.loadAt 24 (.pointer (some ⟨q, i, none⟩))).run Try.prog w = .ok (.pointer x) w := by
  simp [go_sem, h]
section
variable {w : World} {B U g p : Nat} {va vp lv : Value} {ps : List (Value × Rec.R)} {G : Seg.Sg}
theorem IsSegB.len_ext (h : IsSegB w B U g p va vp lv ps G) {k : Nat} (hk : G.len = k) (w' : World) (hE : Ext w w') : Calls Try.prog 12 #[.pointer (some ⟨g, 0, none⟩)] w' fun e w'' => e = .returned (.int .i64 (k : Nat)) ∧ Ext w' w'' := by
  subst hk
  exact h.len_any hE
theorem IsSegB.trim_ext (h : IsSegB w B U g p va vp lv ps G) {k : Nat} (hk : G.w.trimmed = k) (w' : World) (hE : Ext w w') : Calls Try.prog 13 #[.pointer (some ⟨g, 0, none⟩)] w' fun e w'' => e = .returned (.int .i64 (k : Nat)) ∧ Ext w' w'' := by
  subst hk
  exact (segtrim_any (h.ext hE).seg).mono fun e w'' ⟨he, hw⟩ => ⟨he, by rw [← hw]; exact Ext.refl _⟩
theorem IsSegB.safe_ext (h : IsSegB w B U g p va vp lv ps G) {k : Nat} (hk : G.safe = k) (w' : World) (hE : Ext w w') : Calls Try.prog 11 #[.pointer (some ⟨g, 0, none⟩)] w' fun e w'' => e = .returned (.int .i64 (k : Nat)) ∧ Ext w' w'' := by
  subst hk
  exact (segsafe_any (h.ext hE).seg).mono fun e w'' ⟨he, hw⟩ => ⟨he, by rw [← hw]; exact Ext.refl _⟩
end

theorem Seg.get_in {G G0 : Seg.Sg} {ct q : Nat} (hp : G.w.l <+: G0.w.l) (hc : G0.w.trimmed = ct) (hk : ct + q < G.len) (ht : G.w.trimmed ≤ ct + q) (hq : q < (G0.w.l.drop G0.w.trimmed).length) : G.getErr ((ct : Int) + (q : Int)) = 0 ∧ G.getRec ((ct : Int) + (q : Int)) = (G0.w.l.drop G0.w.trimmed)[q] := by
  unfold Seg.Sg.getErr Seg.Sg.getRec
  rw [if_neg (by omega), if_neg (by omega), if_neg (by omega), if_neg (by omega)]
  refine ⟨rfl, ?_⟩
  have h1 : ((ct : Int) + (q : Int)).toNat = ct + q := by omega
  have hk' : ct + q < G.w.l.length := hk
  rw [h1, List.getD_eq_getElem?_getD, List.getElem?_eq_getElem hk', Option.getD_some, List.getElem_drop]
  obtain ⟨r, hr⟩ := hp
  subst hc
  have : G0.w.l[G0.w.trimmed + q]? = some G.w.l[G0.w.trimmed + q] := by
    rw [← hr, List.getElem?_append_left hk', List.getElem?_eq_getElem hk']
  have h3 := List.getElem?_eq_some_iff.1 this
  exact h3.2.symm
theorem OwnRecs.twixt {B U C : Nat} {w w' : World} {v : Value} {qs : List (Value × Rec.R)} (h : OwnRecs C w v qs) (hC : U ≤ C) (ht : Twixt B U w w') : OwnRecs C w' v qs := by
  have stay : ∀ {c n size : Nat} {e : TypeId} {v : Value} {xs : List Value}, U ≤ c → w.ownsRow c e size v n xs → w'.ownsRow c e size v n xs := fun hc hr => rowOwn hr fun k hk => ht.block k (hr.lt k hk).2 (.inr (Nat.le_trans hc (hr.lt k hk).1))
  exact ⟨stay hC h.row, fun q hq => by
    obtain ⟨b, n, hb, hr⟩ := h.tags q hq
    exact ⟨b, n, hb, stay (Nat.le_trans hC hb) hr⟩⟩

set_option maxRecDepth 100000 in
set_option maxHeartbeats 40000000 in
theorem segmentCrashes_walk (a : Option Addr) (n c : Nat) (l : List Seg.Op) (keep : Int) (W : World) (h0 : Ops9 W (.slice a n c) l) (hf : ∀ o ∈ l, o.Small) (hkeep : -9223372036854775808 ≤ keep ∧ keep ≤ 9223372036854775807) :
    Calls Try.prog 3 #[.slice a n c, .int .i64 keep] W fun e W' => e = .returned (.bool true) ∧ Below W.heap.size W W' := by
  obtain ⟨hn, hnc, hc9⟩ := h0.len
  have HL0 := Lib.hid h0
  have HF := Lib.hid hf
  have HN := Lib.hid hn.symm
  have HK := Lib.hid hkeep
  obtain ⟨B, hB⟩ : ∃ B, W.heap.size = B := ⟨_, rfl⟩
  have HB := Lib.hid hB
  have HFEW := Lib.hid (fun w1 (hE1 : Ext W w1) => few9_any _ l w1 (h0.below hE1) hf)
  clear h0 hf hn hB hkeep
  go_enter Try.func3, Try.ntmps3
  go_wp2_with fail
  refine (opened9_any (.slice none 0 0) [] W (bytes_none W)).mono ?_
  rintro e w2 ⟨p, g, rfl, hs2, hE2⟩
  rw [Seg.row_nil, HB.out] at hs2
  obtain ⟨w3, hw3⟩ : ∃ w3, w2.alloc (.cells #[.pointer (some ⟨p, 0, none⟩), .pointer (some ⟨g, 0, none⟩)] 26) = w3 := ⟨_, rfl⟩
  obtain ⟨Y, hY⟩ : ∃ Y, w2.heap.size = Y := ⟨_, rfl⟩
  have hE3 : Ext w2 w3 := by rw [← hw3]; exact Ext.alloc _ _
  have hy3 : w3.heap[Y]? = some (.cells #[.pointer (some ⟨p, 0, none⟩), .pointer (some ⟨g, 0, none⟩)] 26 (0, 0)) := by rw [← hw3, ← hY]; exact heap_alloc_new _ _
  have hBl : Below B W w3 := by rw [← HB.out]; exact hE2.trans hE3
  have hok : Seg.Sg.Ok (Seg.row []) := ⟨by obtain ⟨va, vp, lv, ps, h⟩ := hs2; exact h.sto.ok, fun _ => rfl, Nat.zero_le _⟩
  have HI0 := Lib.hid (And.intro (hs2.ext hE3).full (And.intro hBl (And.intro hy3 hok)))
  have HW3 := Lib.hid (And.intro hw3 hY)
  clear hs2 hE2 hw3 hY hE3 hy3 hBl hok
  go_upto_region 2 with fail
  rw [HW3.out.1, HW3.out.2]
  have hend : ∀ w', Below B W w' → Below W.heap.size W w' := fun w' h => by rw [HB.out]; exact h
  have HEND := Lib.hid hend
  clear hend
  go_wp2_with fail
  refine (HFEW.out w3 (HEND.out _ HI0.out.2.1)).mono ?_
  rintro e w4 ⟨rfl, hE4⟩
  have hBw4 : Below B W w4 := HI0.out.2.1.trans (hE4.mono (by rw [← HB.out]; exact (HEND.out _ HI0.out.2.1).size))
  have HI4 := Lib.hid (And.intro (HI0.out.1.ext hE4).full (And.intro hBw4 (And.intro (heap_ext HI0.out.2.2.1 hE4) HI0.out.2.2.2)))
  clear hE4 hBw4
  cases hfw : Seg.few l with
  | false =>
    clear hfw
    go_wp2_with fail
    refine (alive9_any w4).mono ?_
    rintro e w5 ⟨rfl, hE5⟩
    have hfin := (HEND.out w4 HI4.out.2.1).trans (hE5.mono (HEND.out w4 HI4.out.2.1).size)
    clear hE5
    go_wp2_with fail
    go_ret
    exact ⟨rfl, hfin⟩
  | true =>
    clear hfw
    go_wp2_with fail
    go_loopw [33] (fun i wr => ∃ (k : Nat) (G : Seg.Sg), k ≤ n ∧ i = .int .i64 k ∧ Hid (IsSeg wr B wr.heap.size g p G ∧ Below B W wr ∧ wr.heap[Y]? = some (.cells #[.pointer (some ⟨p, 0, none⟩), .pointer (some ⟨g, 0, none⟩)] 26 (0, 0)) ∧ G.Ok)) (fun i _ => n - (intOf i).toNat)
    case atStart => exact ⟨0, _, by omega, rfl, HI4⟩
    case round =>
      obtain ⟨k, G, hk, rfl, hI⟩ := hrel
      by_cases hlt : k < n
      · have hkl : k < l.length := by rw [HN.out]; exact hlt
        obtain ⟨_, _, e1, _, _, _, hc⟩ := HL0.out
        obtain ⟨ab, ao, rfl, t9, p0, p1, p2, p3, p4, p5, p6, ht9⟩ := hc k hkl
        injection e1 with e1 e2 e3
        subst e1
        obtain ⟨a1, a3, rfl, _⟩ := ht9.open
        have hbw := HEND.out wr hI.out.2.1
        have p0 := cell_below p0 hbw
        have p1 := cell_below p1 hbw
        have p2 := cell_below p2 hbw
        have p3 := cell_below p3 hbw
        have p4 := cell_below p4 hbw
        have p5 := cell_below p5 hbw
        have p6 := cell_below p6 hbw
        have hsm := HF.out l[k] (List.getElem_mem hkl)
        have hopv : ∀ t, opV9 l[k] t = .agg #[.int .i64 l[k].kind, .int .i64 l[k].n, .int .i64 l[k].r.client, .int .i64 l[k].r.number, t, .string ⟨l[k].r.data.toArray⟩, .bool l[k].is] := fun _ => rfl
        obtain ⟨O, hO⟩ : ∃ O, l[k] = O := ⟨_, rfl⟩
        rw [hO] at p0 p1 p2 p3 p4 p5 p6 ht9 hsm hopv
        obtain ⟨o0, ho0⟩ : ∃ q, O.kind = q := ⟨_, rfl⟩
        obtain ⟨o1, ho1⟩ : ∃ q, O.n = q := ⟨_, rfl⟩
        obtain ⟨o2, ho2⟩ : ∃ q, O.r.client = q := ⟨_, rfl⟩
        obtain ⟨o3, ho3⟩ : ∃ q, O.r.number = q := ⟨_, rfl⟩
        obtain ⟨o4, ho4⟩ : ∃ q, O.r.tags.length = q := ⟨_, rfl⟩
        obtain ⟨o5, ho5⟩ : ∃ q : ByteArray, (⟨O.r.data.toArray⟩ : ByteArray) = q := ⟨_, rfl⟩
        obtain ⟨o6, ho6⟩ : ∃ q, O.is = q := ⟨_, rfl⟩
        rw [ho0] at p0
        rw [ho1] at p1
        rw [ho2] at p2
        rw [ho3] at p3
        rw [ho4] at p4 ht9
        rw [ho5] at p5
        rw [ho6] at p6
        rw [ho0, ho1, ho2, ho3, ho5, ho6] at hopv
        have HT9 := Lib.hid ht9
        have HSM := Lib.hid hsm
        have HOPV := Lib.hid hopv
        clear hc e2 e3 hbw hsm hopv ht9 hO ho0 ho1 ho2 ho3 ho4 ho5 ho6
        obtain ⟨w5, hw5⟩ : ∃ w5, wr.alloc (.cells #[.int .i64 o0, .int .i64 o1, .int .i64 o2, .int .i64 o3, .slice a1 o4 a3, .string o5, .bool o6] 37) = w5 := ⟨_, rfl⟩
        obtain ⟨Z, hZ⟩ : ∃ Z, wr.heap.size = Z := ⟨_, rfl⟩
        have hE5 : Ext wr w5 := by rw [← hw5]; exact Ext.alloc _ _
        have hz5 : w5.heap[Z]? = some (.cells #[.int .i64 o0, .int .i64 o1, .int .i64 o2, .int .i64 o3, .slice a1 o4 a3, .string o5, .bool o6] 37 (0, 0)) := by rw [← hw5, ← hZ]; exact heap_alloc_new _ _
        have hBwr : B ≤ wr.heap.size := by rw [← HB.out]; exact (HEND.out wr hI.out.2.1).size
        have hBw5 : Below B W w5 := hI.out.2.1.trans (hE5.mono hBwr)
        have hBs5 : B ≤ w5.heap.size := Nat.le_trans hBwr hE5.size
        have hy5 := heap_ext hI.out.2.2.1 hE5
        obtain ⟨va, vp, lv, ps, hseg⟩ := (hI.out.1.ext hE5).full
        have hdo := does9_any hseg (Nat.le_refl _) hI.out.2.2.2 O (.slice a1 o4 a3) rfl HSM.out (fun w' ht => HT9.out.below (HEND.out w' (hBw5.trans (ht.below hBs5))))
        rw [HOPV.out] at hdo
        have HDO := Lib.hid hdo
        have HW5 := Lib.hid (And.intro hw5 (And.intro hZ (And.intro hy5 (And.intro hBw5 hBs5))))
        have g0 : w5.cell? ⟨Y, 0, none⟩ = some (.pointer (some ⟨p, 0, none⟩)) := cell_of_heap hy5 0
        have g1 : w5.cell? ⟨Y, 1, none⟩ = some (.pointer (some ⟨g, 0, none⟩)) := cell_of_heap hy5 1
        have z0 : w5.cell? ⟨Z, 0, none⟩ = some (.int .i64 o0) := cell_of_heap hz5 0
        have z1 : w5.cell? ⟨Z, 1, none⟩ = some (.int .i64 o1) := cell_of_heap hz5 1
        have z2 : w5.cell? ⟨Z, 2, none⟩ = some (.int .i64 o2) := cell_of_heap hz5 2
        have z3 : w5.cell? ⟨Z, 3, none⟩ = some (.int .i64 o3) := cell_of_heap hz5 3
        have z4 : w5.cell? ⟨Z, 4, none⟩ = some (.slice a1 o4 a3) := cell_of_heap hz5 4
        have z5 : w5.cell? ⟨Z, 5, none⟩ = some (.string o5) := cell_of_heap hz5 5
        have z6 : w5.cell? ⟨Z, 6, none⟩ = some (.bool o6) := cell_of_heap hz5 6
        clear hw5 hZ hE5 hz5 hBwr hBw5 hBs5 hseg hdo hy5
        go_upto_region 7 with fail
        rw [HW5.out.1, HW5.out.2.1]
        go_wp2_with fail
        refine HDO.out.mono ?_
        rintro e w6 ⟨t6, rfl, _, hs6, ht6, hk6⟩
        have hy6 : w6.heap[Y]? = some (.cells #[.pointer (some ⟨p, 0, none⟩), .pointer (some ⟨g, 0, none⟩)] 26 (0, 0)) := (hk6.2 Y _ _ _ HW5.out.2.2.1 (by decide) (by decide) (by decide) (by decide) (by decide)).trans HW5.out.2.2.1
        have HI6 := Lib.hid (And.intro hs6 (And.intro (HW5.out.2.2.2.1.trans (ht6.below HW5.out.2.2.2.2)) (And.intro hy6 (hI.out.2.2.2.does O))))
        clear hs6 ht6 hk6 hy6 g0 g1 z0 z1 z2 z3 z4 z5 z6 p0 p1 p2 p3 p4 p5 p6
        go_wp2_with fail
        go_roundw
        case rel => exact ⟨k + 1, _, by omega, by go_num, HI6⟩
        case measure => simp [intOf]; omega
      · obtain rfl : k = n := by omega
        have hBwr : B ≤ wr.heap.size := by rw [← HB.out]; exact (HEND.out wr hI.out.2.1).size
        obtain ⟨va, vp, lv, ps, hseg⟩ := hI.out.1
        obtain ⟨sf, hsf⟩ : ∃ q, G.safe = q := ⟨_, rfl⟩
        obtain ⟨mn, hmn⟩ : ∃ q, G.len = q := ⟨_, rfl⟩
        obtain ⟨ct, hct⟩ : ∃ q, G.w.trimmed = q := ⟨_, rfl⟩
        have HS := Lib.hid (hseg.safe_ext hsf)
        have HM := Lib.hid (hseg.len_ext hmn)
        have HC := Lib.hid (hseg.trim_ext hct)
        have HY := Lib.hid hI.out.2.2.1
        have HG := Lib.hid (And.intro hseg (And.intro hI.out.2.2.2 (And.intro hsf (And.intro hmn hct))))
        have HBW := Lib.hid (And.intro hI.out.2.1 hBwr)
        clear hseg hsf hmn hct hBwr
        go_wp2_with fail
        refine wp_region_facts (by kernel_rfl) Ext (fun iop v w => match iop with
            | 0 => v = .pointer (some ⟨Y, 1, none⟩)
            | 1 => v = .pointer (some ⟨g, 0, none⟩)
            | 2 => v = .int .i64 (sf : Nat)
            | 3 => v = .pointer (some ⟨Y, 1, none⟩)
            | 4 => v = .pointer (some ⟨g, 0, none⟩)
            | 5 => v = .int .i64 (mn : Nat)
            | 6 => v = .pointer (some ⟨Y, 1, none⟩)
            | 7 => v = .pointer (some ⟨g, 0, none⟩)
            | 8 => v = .int .i64 (ct : Nat)
            | 9 => v = .int .i64 (sf : Nat)
            | 10 => v = .int .i64 (mn : Nat)
            | _ => v = .int .i64 (ct : Nat)
            ) (by kernel_rfl) (fun _ _ _ h k => Ext.trans h k) (fun a => Ext.refl a) (Ext.drew _) ?_ ?_ ?_
        · intro iop v wa wb hF hL
          iterate 11 (rcases iop with _ | iop; exact hF)
          exact hF
        · refine Obls.cons ?_ (Obls.cons ?_ (Obls.cons ?_ (Obls.cons ?_ (Obls.cons ?_ (Obls.cons ?_ (Obls.cons ?_ (Obls.cons ?_ (Obls.cons ?_ (Obls.cons ?_ (Obls.cons ?_ (Obls.cons ?_ (Obls.nil))))))))))))
          · intro ev wy hp hl hk hd
            have e5 : ev (.tmp 5) = .pointer (some ⟨Y, 0, none⟩) := hk 5 (by decide)
            clear hk hd
            exact Yield.op (v := .pointer (some ⟨Y, 1, none⟩)) (w' := wy) (by simp [execOp, go_sem, e5]) ⟨Ext.refl _, rfl⟩
          · intro ev wy hp hl hk hd
            have e41 : ev (.tmp 41) = .pointer (some ⟨Y, 1, none⟩) := hk 41 (by decide)
            clear hk hd
            exact Yield.load rfl e41 (ldSeg9 (cell_of_heap (heap_ext HY.out hl) 1)) ⟨Ext.refl _, rfl⟩
          · intro ev wy hp hl hk hd
            have e42 : ev (.tmp 42) = .pointer (some ⟨g, 0, none⟩) := hk 42 (by decide)
            clear hk hd
            refine Yield.call rfl hp Try.func11 rfl (by kernel_rfl) ?_
            simp only [List.map_toArray, List.map_cons, List.map_nil, e42]
            exact (HS.out wy hl).mono fun _ _ ⟨he, hb⟩ => ⟨_, he, hb, by first | rfl | simp⟩
          · intro ev wy hp hl hk hd
            have e5 : ev (.tmp 5) = .pointer (some ⟨Y, 0, none⟩) := hk 5 (by decide)
            clear hk hd
            exact Yield.op (v := .pointer (some ⟨Y, 1, none⟩)) (w' := wy) (by simp [execOp, go_sem, e5]) ⟨Ext.refl _, rfl⟩
          · intro ev wy hp hl hk hd
            have e44 : ev (.tmp 44) = .pointer (some ⟨Y, 1, none⟩) := hk 44 (by decide)
            clear hk hd
            exact Yield.load rfl e44 (ldSeg9 (cell_of_heap (heap_ext HY.out hl) 1)) ⟨Ext.refl _, rfl⟩
          · intro ev wy hp hl hk hd
            have e45 : ev (.tmp 45) = .pointer (some ⟨g, 0, none⟩) := hk 45 (by decide)
            clear hk hd
            refine Yield.call rfl hp Try.func12 rfl (by kernel_rfl) ?_
            simp only [List.map_toArray, List.map_cons, List.map_nil, e45]
            exact (HM.out wy hl).mono fun _ _ ⟨he, hb⟩ => ⟨_, he, hb, by first | rfl | simp⟩
          · intro ev wy hp hl hk hd
            have e5 : ev (.tmp 5) = .pointer (some ⟨Y, 0, none⟩) := hk 5 (by decide)
            clear hk hd
            exact Yield.op (v := .pointer (some ⟨Y, 1, none⟩)) (w' := wy) (by simp [execOp, go_sem, e5]) ⟨Ext.refl _, rfl⟩
          · intro ev wy hp hl hk hd
            have e47 : ev (.tmp 47) = .pointer (some ⟨Y, 1, none⟩) := hk 47 (by decide)
            clear hk hd
            exact Yield.load rfl e47 (ldSeg9 (cell_of_heap (heap_ext HY.out hl) 1)) ⟨Ext.refl _, rfl⟩
          · intro ev wy hp hl hk hd
            have e48 : ev (.tmp 48) = .pointer (some ⟨g, 0, none⟩) := hk 48 (by decide)
            clear hk hd
            refine Yield.call rfl hp Try.func13 rfl (by kernel_rfl) ?_
            simp only [List.map_toArray, List.map_cons, List.map_nil, e48]
            exact (HC.out wy hl).mono fun _ _ ⟨he, hb⟩ => ⟨_, he, hb, by first | rfl | simp⟩
          · intro ev wy hp hl hk hd
            have e43 : ev (.tmp 43) = .int .i64 (sf : Nat) := hk 43 (by decide)
            clear hk hd
            exact Yield.as rfl ⟨Ext.refl _, e43⟩
          · intro ev wy hp hl hk hd
            have e46 : ev (.tmp 46) = .int .i64 (mn : Nat) := hk 46 (by decide)
            clear hk hd
            exact Yield.as rfl ⟨Ext.refl _, e46⟩
          · intro ev wy hp hl hk hd
            have e49 : ev (.tmp 49) = .int .i64 (ct : Nat) := hk 49 (by decide)
            clear hk hd
            exact Yield.as rfl ⟨Ext.refl _, e49⟩
        · intro vals wz hz hv
          have g41 : vals 0 = .pointer (some ⟨Y, 1, none⟩) := hv 0 (by decide)
          have g42 : vals 1 = .pointer (some ⟨g, 0, none⟩) := hv 1 (by decide)
          have g43 : vals 2 = .int .i64 (sf : Nat) := hv 2 (by decide)
          have g44 : vals 3 = .pointer (some ⟨Y, 1, none⟩) := hv 3 (by decide)
          have g45 : vals 4 = .pointer (some ⟨g, 0, none⟩) := hv 4 (by decide)
          have g46 : vals 5 = .int .i64 (mn : Nat) := hv 5 (by decide)
          have g47 : vals 6 = .pointer (some ⟨Y, 1, none⟩) := hv 6 (by decide)
          have g48 : vals 7 = .pointer (some ⟨g, 0, none⟩) := hv 7 (by decide)
          have g49 : vals 8 = .int .i64 (ct : Nat) := hv 8 (by decide)
          have g9 : vals 9 = .int .i64 (sf : Nat) := hv 9 (by decide)
          have g10 : vals 10 = .int .i64 (mn : Nat) := hv 10 (by decide)
          have g11 : vals 11 = .int .i64 (ct : Nat) := hv 11 (by decide)
          clear hv
          simp only [putAll, Act.put, List.setIfInBounds_toArray, List.set_cons_zero, List.set_cons_succ, g41, g42, g43, g44, g45, g46, g47, g48, g49, g9, g10, g11]
          clear g41
          clear g42
          clear g43
          clear g44
          clear g45
          clear g46
          clear g47
          clear g48
          clear g49
          clear g9
          clear g10
          clear g11
          have hyz := heap_ext HY.out hz
          have g1 : wz.cell? ⟨Y, 1, none⟩ = some (.pointer (some ⟨g, 0, none⟩)) := cell_of_heap hyz 1
          have HALL := Lib.hid (all9_any (HG.out.1.ext hz))
          have HZ := Lib.hid hz
          have HYZ := Lib.hid hyz
          clear hz hyz HS HM HC
          go_wp2_with fail
          refine HALL.out.mono ?_
          rintro e w5 ⟨u, qs, rfl, ho, hq, hE5⟩
          obtain ⟨ua, un, uc, rfl⟩ := ownSlice ho.row
          have hE05 := HZ.out.trans hE5
          have hy5 := heap_ext HY.out hE05
          have hBw5 : Below B W w5 := HBW.out.1.trans (hE05.mono HBW.out.2)
          have hBs5 : B ≤ w5.heap.size := Nat.le_trans HBW.out.2 hE05.size
          have HCR := Lib.hid (crash9_any (HG.out.1.ext hE05) hE05.size keep HK.out)
          have g5 : w5.cell? ⟨Y, 1, none⟩ = some (.pointer (some ⟨g, 0, none⟩)) := cell_of_heap hy5 1
          have H5 := Lib.hid (And.intro hy5 (And.intro hBw5 (And.intro hBs5 (And.intro ho hq))))
          clear hE5 hE05 hy5 hBw5 hBs5 g1 ho hq
          go_wp2_with fail
          refine HCR.out.mono ?_
          rintro e w6 ⟨rfl, hs6, ht6, hk6⟩
          have hy6 : w6.heap[Y]? = some (.cells #[.pointer (some ⟨p, 0, none⟩), .pointer (some ⟨g, 0, none⟩)] 26 (0, 0)) := (hk6.2 Y _ _ _ H5.out.1 (by decide) (by decide) (by decide) (by decide) (by decide)).trans H5.out.1
          have hu6 := (H5.out.2.2.2.1.twixt HZ.out.size ht6).recs
          rw [H5.out.2.2.2.2] at hu6
          have hBw6 : Below B W w6 := H5.out.2.1.trans (ht6.below H5.out.2.2.1)
          have hBs6 : B ≤ w6.heap.size := Nat.le_trans H5.out.2.2.1 ht6.size
          have hcr := Seg.crash_rows HG.out.2.1 keep
          have hsl : (G.crash keep).safe = (G.crash keep).len := rfl
          obtain ⟨G', hG'⟩ : ∃ G', G.crash keep = G' := ⟨_, rfl⟩
          rw [hG'] at hs6 hcr hsl
          obtain ⟨va6, vp6, lv6, ps6, hseg6⟩ := hs6
          obtain ⟨mn', hmn'⟩ : ∃ q, G'.len = q := ⟨_, rfl⟩
          obtain ⟨ct', hct'⟩ : ∃ q, G'.w.trimmed = q := ⟨_, rfl⟩
          rw [hmn'] at hsl
          have HL6 := Lib.hid (hseg6.len_ext hmn')
          have HC6 := Lib.hid (hseg6.trim_ext hct')
          have HS6 := Lib.hid (hseg6.safe_ext hsl)
          have hpre := hcr.1.rows
          have h1 : sf ≤ mn' := by rw [← HG.out.2.2.1, ← hmn']; exact hcr.2
          have h2 : mn' ≤ mn := by rw [← HG.out.2.2.2.1, ← hmn']; exact hpre.length_le
          have h3 : ct' ≤ ct := by rw [← HG.out.2.2.2.2, ← hct']; exact hcr.1.trims
          have hD : (G.w.l.drop G.w.trimmed).length = mn - ct := by
            rw [List.length_drop, HG.out.2.2.2.2]
            have : G.w.l.length = mn := HG.out.2.2.2.1
            rw [this]
          have hn6 : un = mn - ct := by
            obtain ⟨_, _, e, _⟩ := hu6
            injection e with _ e _
            rw [e, hD]
          have hctm : ct ≤ mn := by rw [← HG.out.2.2.2.2, ← HG.out.2.2.2.1]; exact G.trimmed_le
          have hm13 : mn ≤ 13107 := by rw [← HG.out.2.2.2.1]; exact HG.out.1.good.2
          obtain ⟨D, hDD⟩ : ∃ D, mn - ct = D := ⟨_, rfl⟩
          rw [hDD] at hn6 hD
          subst hn6
          have HDD := Lib.hid hDD
          clear hDD
          have H6 := Lib.hid (And.intro hseg6 (And.intro hy6 (And.intro hu6 (And.intro hBw6 (And.intro hBs6 (And.intro hpre (And.intro hmn' hct')))))))
          have HDL := Lib.hid hD
          clear hy6 hu6 ht6 hk6 hcr hsl hG' hseg6 hmn' hct' hpre hD hBw6 hBs6 g5
          go_wp2_with fail
          refine wp_region_facts (by kernel_rfl) Ext (fun iop v w => match iop with
              | 0 => v = .pointer (some ⟨Y, 1, none⟩)
              | 1 => v = .pointer (some ⟨g, 0, none⟩)
              | 2 => v = .int .i64 (mn' : Nat)
              | 3 => v = .int .i64 (sf : Nat)
              | 4 => v = .bool false
              | 5 => v = .bool false
              | 6 => v = .pointer (some ⟨Y, 1, none⟩)
              | 7 => v = .pointer (some ⟨g, 0, none⟩)
              | 8 => v = .int .i64 (mn' : Nat)
              | 9 => v = .int .i64 (mn : Nat)
              | 10 => v = .bool false
              | 11 => v = .bool false
              | 12 => v = .bool false
              | 13 => v = .pointer (some ⟨Y, 1, none⟩)
              | 14 => v = .pointer (some ⟨g, 0, none⟩)
              | 15 => v = .int .i64 (ct' : Nat)
              | 16 => v = .int .i64 (ct : Nat)
              | 17 => v = .bool false
              | 18 => v = .bool false
              | 19 => v = .bool false
              | 20 => v = .pointer (some ⟨Y, 1, none⟩)
              | 21 => v = .pointer (some ⟨g, 0, none⟩)
              | 22 => v = .int .i64 (mn' : Nat)
              | 23 => v = .pointer (some ⟨Y, 1, none⟩)
              | 24 => v = .pointer (some ⟨g, 0, none⟩)
              | 25 => v = .int .i64 (mn' : Nat)
              | 26 => v = .bool false
              | _ => v = .bool false
              ) (by kernel_rfl) (fun _ _ _ h k => Ext.trans h k) (fun a => Ext.refl a) (Ext.drew _) ?_ ?_ ?_
          · intro iop v wa wb hF hL
            iterate 27 (rcases iop with _ | iop; exact hF)
            exact hF
          · refine Obls.cons ?_ (Obls.cons ?_ (Obls.cons ?_ (Obls.cons ?_ (Obls.cons ?_ (Obls.cons ?_ (Obls.cons ?_ (Obls.cons ?_ (Obls.cons ?_ (Obls.cons ?_ (Obls.cons ?_ (Obls.cons ?_ (Obls.cons ?_ (Obls.cons ?_ (Obls.cons ?_ (Obls.cons ?_ (Obls.cons ?_ (Obls.cons ?_ (Obls.cons ?_ (Obls.cons ?_ (Obls.cons ?_ (Obls.cons ?_ (Obls.cons ?_ (Obls.cons ?_ (Obls.cons ?_ (Obls.cons ?_ (Obls.cons ?_ (Obls.cons ?_ (Obls.nil))))))))))))))))))))))))))))
            · intro ev wy hp hl hk hd
              have e5 : ev (.tmp 5) = .pointer (some ⟨Y, 0, none⟩) := hk 5 (by decide)
              clear hk hd
              exact Yield.op (v := .pointer (some ⟨Y, 1, none⟩)) (w' := wy) (by simp [execOp, go_sem, e5]) ⟨Ext.refl _, rfl⟩
            · intro ev wy hp hl hk hd
              have e57 : ev (.tmp 57) = .pointer (some ⟨Y, 1, none⟩) := hk 57 (by decide)
              clear hk hd
              exact Yield.load rfl e57 (ldSeg9 (cell_of_heap (heap_ext H6.out.2.1 hl) 1)) ⟨Ext.refl _, rfl⟩
            · intro ev wy hp hl hk hd
              have e58 : ev (.tmp 58) = .pointer (some ⟨g, 0, none⟩) := hk 58 (by decide)
              clear hk hd
              refine Yield.call rfl hp Try.func12 rfl (by kernel_rfl) ?_
              simp only [List.map_toArray, List.map_cons, List.map_nil, e58]
              exact (HL6.out wy hl).mono fun _ _ ⟨he, hb⟩ => ⟨_, he, hb, by first | rfl | simp⟩
            · intro ev wy hp hl hk hd
              have e9 : ev (.tmp 9) = .int .i64 (sf : Nat) := hk 9 (by decide)
              clear hk hd
              exact Yield.mv rfl ⟨Ext.refl _, e9⟩
            · intro ev wy hp hl hk hd
              have e59 : ev (.tmp 59) = .int .i64 (mn' : Nat) := hk 59 (by decide)
              have e60 : ev (.tmp 60) = .int .i64 (sf : Nat) := hk 60 (by decide)
              clear hk hd
              exact Yield.op (v := .bool false) (w' := wy) (by simp [execOp, go_sem, e59, e60]; omega) ⟨Ext.refl _, rfl⟩
            · intro ev wy hp hl hk hd
              have e61 : ev (.tmp 61) = .bool false := hk 61 (by decide)
              clear hk hd
              exact Yield.mv rfl ⟨Ext.refl _, e61⟩
            · intro ev wy hp hl hk hd
              have e5 : ev (.tmp 5) = .pointer (some ⟨Y, 0, none⟩) := hk 5 (by decide)
              clear hk
              refine ⟨fun _ _ _ => ?_, fun _ hx hne => absurd hx hne⟩
              clear hd
              exact Yield.op (v := .pointer (some ⟨Y, 1, none⟩)) (w' := wy) (by simp [execOp, go_sem, e5]) ⟨Ext.refl _, rfl⟩
            · intro ev wy hp hl hk hd
              have e63 : ev (.tmp 63) = .pointer (some ⟨Y, 1, none⟩) := hk 63 (by decide)
              clear hk
              refine ⟨fun _ _ _ => ?_, fun _ hx hne => absurd hx hne⟩
              clear hd
              exact Yield.load rfl e63 (ldSeg9 (cell_of_heap (heap_ext H6.out.2.1 hl) 1)) ⟨Ext.refl _, rfl⟩
            · intro ev wy hp hl hk hd
              have e64 : ev (.tmp 64) = .pointer (some ⟨g, 0, none⟩) := hk 64 (by decide)
              clear hk
              refine ⟨fun _ _ _ => ?_, fun _ hx hne => absurd hx hne⟩
              clear hd
              refine Yield.call rfl hp Try.func12 rfl (by kernel_rfl) ?_
              simp only [List.map_toArray, List.map_cons, List.map_nil, e64]
              exact (HL6.out wy hl).mono fun _ _ ⟨he, hb⟩ => ⟨_, he, hb, by first | rfl | simp⟩
            · intro ev wy hp hl hk hd
              have e10 : ev (.tmp 10) = .int .i64 (mn : Nat) := hk 10 (by decide)
              clear hk
              refine ⟨fun _ _ _ => ?_, fun _ hx hne => absurd hx hne⟩
              clear hd
              exact Yield.mv rfl ⟨Ext.refl _, e10⟩
            · intro ev wy hp hl hk hd
              have e65 : ev (.tmp 65) = .int .i64 (mn' : Nat) := hk 65 (by decide)
              have e66 : ev (.tmp 66) = .int .i64 (mn : Nat) := hk 66 (by decide)
              clear hk
              refine ⟨fun _ _ _ => ?_, fun _ hx hne => absurd hx hne⟩
              clear hd
              exact Yield.op (v := .bool false) (w' := wy) (by simp [execOp, go_sem, e65, e66]; omega) ⟨Ext.refl _, rfl⟩
            · intro ev wy hp hl hk hd
              have e62 : ev (.tmp 62) = .bool false := hk 62 (by decide)
              have e67 : ev (.tmp 67) = .bool false := hk 67 (by decide)
              clear hk hd
              exact Yield.pick (t := false) rfl e62 ⟨Ext.refl _, e67⟩
            · intro ev wy hp hl hk hd
              have e68 : ev (.tmp 68) = .bool false := hk 68 (by decide)
              clear hk hd
              exact Yield.mv rfl ⟨Ext.refl _, e68⟩
            · intro ev wy hp hl hk hd
              have e5 : ev (.tmp 5) = .pointer (some ⟨Y, 0, none⟩) := hk 5 (by decide)
              clear hk
              refine ⟨fun _ _ _ => ?_, fun _ hx hne => absurd hx hne⟩
              clear hd
              exact Yield.op (v := .pointer (some ⟨Y, 1, none⟩)) (w' := wy) (by simp [execOp, go_sem, e5]) ⟨Ext.refl _, rfl⟩
            · intro ev wy hp hl hk hd
              have e70 : ev (.tmp 70) = .pointer (some ⟨Y, 1, none⟩) := hk 70 (by decide)
              clear hk
              refine ⟨fun _ _ _ => ?_, fun _ hx hne => absurd hx hne⟩
              clear hd
              exact Yield.load rfl e70 (ldSeg9 (cell_of_heap (heap_ext H6.out.2.1 hl) 1)) ⟨Ext.refl _, rfl⟩
            · intro ev wy hp hl hk hd
              have e71 : ev (.tmp 71) = .pointer (some ⟨g, 0, none⟩) := hk 71 (by decide)
              clear hk
              refine ⟨fun _ _ _ => ?_, fun _ hx hne => absurd hx hne⟩
              clear hd
              refine Yield.call rfl hp Try.func13 rfl (by kernel_rfl) ?_
              simp only [List.map_toArray, List.map_cons, List.map_nil, e71]
              exact (HC6.out wy hl).mono fun _ _ ⟨he, hb⟩ => ⟨_, he, hb, by first | rfl | simp⟩
            · intro ev wy hp hl hk hd
              have e11 : ev (.tmp 11) = .int .i64 (ct : Nat) := hk 11 (by decide)
              clear hk
              refine ⟨fun _ _ _ => ?_, fun _ hx hne => absurd hx hne⟩
              clear hd
              exact Yield.mv rfl ⟨Ext.refl _, e11⟩
            · intro ev wy hp hl hk hd
              have e72 : ev (.tmp 72) = .int .i64 (ct' : Nat) := hk 72 (by decide)
              have e73 : ev (.tmp 73) = .int .i64 (ct : Nat) := hk 73 (by decide)
              clear hk
              refine ⟨fun _ _ _ => ?_, fun _ hx hne => absurd hx hne⟩
              clear hd
              exact Yield.op (v := .bool false) (w' := wy) (by simp [execOp, go_sem, e72, e73]; omega) ⟨Ext.refl _, rfl⟩
            · intro ev wy hp hl hk hd
              have e69 : ev (.tmp 69) = .bool false := hk 69 (by decide)
              have e74 : ev (.tmp 74) = .bool false := hk 74 (by decide)
              clear hk hd
              exact Yield.pick (t := false) rfl e69 ⟨Ext.refl _, e74⟩
            · intro ev wy hp hl hk hd
              have e75 : ev (.tmp 75) = .bool false := hk 75 (by decide)
              clear hk hd
              exact Yield.mv rfl ⟨Ext.refl _, e75⟩
            · intro ev wy hp hl hk hd
              have e5 : ev (.tmp 5) = .pointer (some ⟨Y, 0, none⟩) := hk 5 (by decide)
              clear hk
              refine ⟨fun _ _ _ => ?_, fun _ hx hne => absurd hx hne⟩
              clear hd
              exact Yield.op (v := .pointer (some ⟨Y, 1, none⟩)) (w' := wy) (by simp [execOp, go_sem, e5]) ⟨Ext.refl _, rfl⟩
            · intro ev wy hp hl hk hd
              have e77 : ev (.tmp 77) = .pointer (some ⟨Y, 1, none⟩) := hk 77 (by decide)
              clear hk
              refine ⟨fun _ _ _ => ?_, fun _ hx hne => absurd hx hne⟩
              clear hd
              exact Yield.load rfl e77 (ldSeg9 (cell_of_heap (heap_ext H6.out.2.1 hl) 1)) ⟨Ext.refl _, rfl⟩
            · intro ev wy hp hl hk hd
              have e78 : ev (.tmp 78) = .pointer (some ⟨g, 0, none⟩) := hk 78 (by decide)
              clear hk
              refine ⟨fun _ _ _ => ?_, fun _ hx hne => absurd hx hne⟩
              clear hd
              refine Yield.call rfl hp Try.func11 rfl (by kernel_rfl) ?_
              simp only [List.map_toArray, List.map_cons, List.map_nil, e78]
              exact (HS6.out wy hl).mono fun _ _ ⟨he, hb⟩ => ⟨_, he, hb, by first | rfl | simp⟩
            · intro ev wy hp hl hk hd
              have e5 : ev (.tmp 5) = .pointer (some ⟨Y, 0, none⟩) := hk 5 (by decide)
              clear hk
              refine ⟨fun _ _ _ => ?_, fun _ hx hne => absurd hx hne⟩
              clear hd
              exact Yield.op (v := .pointer (some ⟨Y, 1, none⟩)) (w' := wy) (by simp [execOp, go_sem, e5]) ⟨Ext.refl _, rfl⟩
            · intro ev wy hp hl hk hd
              have e80 : ev (.tmp 80) = .pointer (some ⟨Y, 1, none⟩) := hk 80 (by decide)
              clear hk
              refine ⟨fun _ _ _ => ?_, fun _ hx hne => absurd hx hne⟩
              clear hd
              exact Yield.load rfl e80 (ldSeg9 (cell_of_heap (heap_ext H6.out.2.1 hl) 1)) ⟨Ext.refl _, rfl⟩
            · intro ev wy hp hl hk hd
              have e81 : ev (.tmp 81) = .pointer (some ⟨g, 0, none⟩) := hk 81 (by decide)
              clear hk
              refine ⟨fun _ _ _ => ?_, fun _ hx hne => absurd hx hne⟩
              clear hd
              refine Yield.call rfl hp Try.func12 rfl (by kernel_rfl) ?_
              simp only [List.map_toArray, List.map_cons, List.map_nil, e81]
              exact (HL6.out wy hl).mono fun _ _ ⟨he, hb⟩ => ⟨_, he, hb, by first | rfl | simp⟩
            · intro ev wy hp hl hk hd
              have e79 : ev (.tmp 79) = .int .i64 (mn' : Nat) := hk 79 (by decide)
              have e82 : ev (.tmp 82) = .int .i64 (mn' : Nat) := hk 82 (by decide)
              clear hk
              refine ⟨fun _ _ _ => ?_, fun _ hx hne => absurd hx hne⟩
              clear hd
              exact Yield.op (v := .bool false) (w' := wy) (by simp [execOp, go_sem, e79, e82]) ⟨Ext.refl _, rfl⟩
            · intro ev wy hp hl hk hd
              have e76 : ev (.tmp 76) = .bool false := hk 76 (by decide)
              have e83 : ev (.tmp 83) = .bool false := hk 83 (by decide)
              clear hk hd
              exact Yield.pick (t := false) rfl e76 ⟨Ext.refl _, e83⟩
          · intro vals wz hz hv
            have g57 : vals 0 = .pointer (some ⟨Y, 1, none⟩) := hv 0 (by decide)
            have g58 : vals 1 = .pointer (some ⟨g, 0, none⟩) := hv 1 (by decide)
            have g59 : vals 2 = .int .i64 (mn' : Nat) := hv 2 (by decide)
            have g60 : vals 3 = .int .i64 (sf : Nat) := hv 3 (by decide)
            have g61 : vals 4 = .bool false := hv 4 (by decide)
            have g62 : vals 5 = .bool false := hv 5 (by decide)
            have g63 : vals 6 = .pointer (some ⟨Y, 1, none⟩) := hv 6 (by decide)
            have g64 : vals 7 = .pointer (some ⟨g, 0, none⟩) := hv 7 (by decide)
            have g65 : vals 8 = .int .i64 (mn' : Nat) := hv 8 (by decide)
            have g66 : vals 9 = .int .i64 (mn : Nat) := hv 9 (by decide)
            have g67 : vals 10 = .bool false := hv 10 (by decide)
            have g68 : vals 11 = .bool false := hv 11 (by decide)
            have g69 : vals 12 = .bool false := hv 12 (by decide)
            have g70 : vals 13 = .pointer (some ⟨Y, 1, none⟩) := hv 13 (by decide)
            have g71 : vals 14 = .pointer (some ⟨g, 0, none⟩) := hv 14 (by decide)
            have g72 : vals 15 = .int .i64 (ct' : Nat) := hv 15 (by decide)
            have g73 : vals 16 = .int .i64 (ct : Nat) := hv 16 (by decide)
            have g74 : vals 17 = .bool false := hv 17 (by decide)
            have g75 : vals 18 = .bool false := hv 18 (by decide)
            have g76 : vals 19 = .bool false := hv 19 (by decide)
            have g77 : vals 20 = .pointer (some ⟨Y, 1, none⟩) := hv 20 (by decide)
            have g78 : vals 21 = .pointer (some ⟨g, 0, none⟩) := hv 21 (by decide)
            have g79 : vals 22 = .int .i64 (mn' : Nat) := hv 22 (by decide)
            have g80 : vals 23 = .pointer (some ⟨Y, 1, none⟩) := hv 23 (by decide)
            have g81 : vals 24 = .pointer (some ⟨g, 0, none⟩) := hv 24 (by decide)
            have g82 : vals 25 = .int .i64 (mn' : Nat) := hv 25 (by decide)
            have g83 : vals 26 = .bool false := hv 26 (by decide)
            have g84 : vals 27 = .bool false := hv 27 (by decide)
            clear hv
            simp only [putAll, Act.put, List.setIfInBounds_toArray, List.set_cons_zero, List.set_cons_succ, g57, g58, g59, g60, g61, g62, g63, g64, g65, g66, g67, g68, g69, g70, g71, g72, g73, g74, g75, g76, g77, g78, g79, g80, g81, g82, g83, g84]
            clear g57
            clear g58
            clear g59
            clear g60
            clear g61
            clear g62
            clear g63
            clear g64
            clear g65
            clear g66
            clear g67
            clear g68
            clear g69
            clear g70
            clear g71
            clear g72
            clear g73
            clear g74
            clear g75
            clear g76
            clear g77
            clear g78
            clear g79
            clear g80
            clear g81
            clear g82
            clear g83
            clear g84
            have HE6 := Lib.hid hz
            clear hz HC6 HS6
            go_wp2_with fail
            go_loopw [13] (fun i wq => ∃ (q : Nat), i = .int .i64 ((ct : Int) + (q : Int)) ∧ q ≤ un ∧ Hid (Ext w6 wq)) (fun i _ => mn - (intOf i).toNat)
            case atStart => exact ⟨0, by simp, Nat.zero_le _, HE6⟩
            case round =>
              obtain ⟨q, rfl, hq, hQ⟩ := hrel
              have g7 : wr.cell? ⟨Y, 1, none⟩ = some (.pointer (some ⟨g, 0, none⟩)) := cell_of_heap (heap_ext H6.out.2.1 hQ.out) 1
              go_wp2_with fail
              refine (HL6.out wr hQ.out).mono ?_
              rintro e w7 ⟨rfl, hE7⟩
              have hE67 := hQ.out.trans hE7
              clear hE7 g7
              by_cases hj : ct + q < mn'
              · have hqd : q < un := by have := HDD.out; omega
                have hqd' : q < (G.w.l.drop G.w.trimmed).length := by rw [HDL.out]; exact hqd
                obtain ⟨_, _, e1, _, _, _, hc⟩ := H6.out.2.2.1
                obtain ⟨ab, ao, rfl, t9, p0, p1, p2, p3, ht9⟩ := hc q hqd'
                injection e1 with e1 e2 e3
                subst e1
                obtain ⟨a1, a3, rfl⟩ : ∃ x y, t9 = .slice x (G.w.l.drop G.w.trimmed)[q].tags.length y := by
                  obtain ⟨x, cc, e, _⟩ := ht9.open
                  exact ⟨x, cc, e⟩
                have hget := get9_any (H6.out.1.ext hE67).full (Nat.le_refl _) ((ct : Int) + (q : Int)) (by omega)
                have hgin := Seg.get_in (G := G') (G0 := G) H6.out.2.2.2.2.2.1 HG.out.2.2.2.2 (q := q) (by rw [H6.out.2.2.2.2.2.2.1]; exact hj) (by rw [H6.out.2.2.2.2.2.2.2]; omega) hqd'
                obtain ⟨RG, hRG⟩ : ∃ R, (G.w.l.drop G.w.trimmed)[q] = R := ⟨_, rfl⟩
                rw [hRG] at hgin p0 p1 p3 ht9
                rw [hRG] at p2
                rw [hgin.1, hgin.2] at hget
                obtain ⟨u0, hu0⟩ : ∃ x : Int, RG.client = x := ⟨_, rfl⟩
                obtain ⟨u1, hu1⟩ : ∃ x : Int, RG.number = x := ⟨_, rfl⟩
                obtain ⟨u3, hu3⟩ : ∃ x : ByteArray, (⟨RG.data.toArray⟩ : ByteArray) = x := ⟨_, rfl⟩
                obtain ⟨nt, hnt⟩ : ∃ x, RG.tags.length = x := ⟨_, rfl⟩
                rw [hu0] at p0
                rw [hu1] at p1
                rw [hnt] at p2 ht9
                rw [hu3] at p3
                have hrec : ∀ w', Ext w6 w' → IsRec w' (.agg #[.int .i64 u0, .int .i64 u1, .slice a1 nt a3, .string u3]) RG := fun w' h => by
                  rw [← hu0, ← hu1, ← hu3]
                  exact ⟨_, rfl, ht9.below h⟩
                have HREC := Lib.hid hrec
                have HGET := Lib.hid hget
                have HP := Lib.hid (And.intro p0 (And.intro p1 (And.intro p2 p3)))
                have HU := Lib.hid (And.intro hu0 (And.intro hu1 (And.intro hu3 hnt)))
                have HE67 := Lib.hid hE67
                have g7 : w7.cell? ⟨Y, 1, none⟩ = some (.pointer (some ⟨g, 0, none⟩)) := cell_of_heap (heap_ext H6.out.2.1 hE67) 1
                clear hrec hget hgin p0 p1 p2 p3 ht9 hu0 hu1 hu3 hnt hRG hc e2 e3 hE67 hqd'
                go_wp2_with fail
                refine HGET.out.mono ?_
                rintro e w8 ⟨t8, rfl, ht8, hE8⟩
                unfold recV
                rw [HU.out.1, HU.out.2.1, HU.out.2.2.1]
                obtain ⟨x1, c1, rfl, _⟩ := ht8.ints.open
                rw [HU.out.2.2.2] at ht8 ⊢
                obtain ⟨w9, hw9⟩ : ∃ w9, w8.alloc (.cells #[.int .i64 u0, .int .i64 u1, .slice x1 nt c1, .string u3] 35) = w9 := ⟨_, rfl⟩
                obtain ⟨Q, hQ9⟩ : ∃ Q, w8.heap.size = Q := ⟨_, rfl⟩
                have hE9 : Ext w8 w9 := by rw [← hw9]; exact Ext.alloc _ _
                have hq9 : w9.heap[Q]? = some (.cells #[.int .i64 u0, .int .i64 u1, .slice x1 nt c1, .string u3] 35 (0, 0)) := by rw [← hw9, ← hQ9]; exact heap_alloc_new _ _
                have hE69 : Ext w6 w9 := HE67.out.trans (hE8.trans hE9)
                have hig : ∀ w', Ext w9 w' → IsRec w' (.agg #[.int .i64 u0, .int .i64 u1, .slice x1 nt c1, .string u3]) RG := fun w' hE => by
                  rw [← HU.out.1, ← HU.out.2.1, ← HU.out.2.2.1]
                  exact ⟨_, rfl, (ht8.ext (hE9.trans hE)).ints⟩
                have hsame : ∀ w', Ext w9 w' → Calls Try.prog 17 #[.agg #[.int .i64 u0, .int .i64 u1, .slice x1 nt c1, .string u3], .agg #[.int .i64 u0, .int .i64 u1, .slice a1 nt a3, .string u3]] w' fun e w'' => e = .returned (.bool true) ∧ Ext w' w'' := fun w' hE => by
                  have h := refSame4_any (.agg #[.int .i64 u0, .int .i64 u1, .slice x1 nt c1, .string u3]) (.agg #[.int .i64 u0, .int .i64 u1, .slice a1 nt a3, .string u3]) RG RG w' (hig w' hE) (HREC.out _ (hE69.trans hE))
                  rw [Rec.same_self] at h
                  exact h
                have HSAME := Lib.hid hsame
                have HW9 := Lib.hid (And.intro hw9 (And.intro hQ9 (And.intro hE69 hq9)))
                have hwq : IntKind.i64.wrap ((ct : Int) + (q : Int) - (ct : Int)) = (q : Int) := by
                  rw [show (ct : Int) + (q : Int) - (ct : Int) = (q : Int) by omega]
                  exact IntWalk.i64_in _ (by omega)
                have HWQ := Lib.hid hwq
                have HQD := Lib.hid hqd
                clear ht8 hE8 hw9 hQ9 hE9 hq9 hE69 hig hsame g7 hwq hqd
                go_upto_region 18 with fail
                rw [HW9.out.1, HW9.out.2.1]
                refine wp_region_facts (by kernel_rfl) Ext (fun iop v w => match iop with
                    | 0 => v = .int .i64 0
                    | 1 => v = .bool false
                    | 2 => v = .bool false
                    | 3 => v = .agg #[.int .i64 u0, .int .i64 u1, .slice x1 nt c1, .string u3]
                    | 4 => v = .slice (some ⟨ab, ao, none⟩) un uc
                    | 5 => v = .int .i64 ((ct : Int) + (q : Int))
                    | 6 => v = .int .i64 (ct : Nat)
                    | 7 => v = .int .i64 (q : Int)
                    | 8 => v = .pointer (some ⟨ab, ao + q * 4, none⟩)
                    | 9 => v = .agg #[.int .i64 u0, .int .i64 u1, .slice a1 nt a3, .string u3]
                    | 10 => v = .bool true
                    | 11 => v = .bool false
                    | _ => v = .bool false
                    ) (by kernel_rfl) (fun _ _ _ h k => Ext.trans h k) (fun a => Ext.refl a) (Ext.drew _) ?_ ?_ ?_
                · intro iop v wa wb hF hL
                  iterate 12 (rcases iop with _ | iop; exact hF)
                  exact hF
                · refine Obls.cons ?_ (Obls.cons ?_ (Obls.cons ?_ (Obls.cons ?_ (Obls.cons ?_ (Obls.cons ?_ (Obls.cons ?_ (Obls.cons ?_ (Obls.cons ?_ (Obls.cons ?_ (Obls.cons ?_ (Obls.cons ?_ (Obls.cons ?_ (Obls.nil)))))))))))))
                  · intro ev wy hp hl hk hd
                    have e15 : ev (.tmp 15) = .int .i64 0 := hk 15 (by decide)
                    clear hk hd
                    exact Yield.mv rfl ⟨Ext.refl _, e15⟩
                  · intro ev wy hp hl hk hd
                    have e100 : ev (.tmp 100) = .int .i64 0 := hk 100 (by decide)
                    clear hk hd
                    exact Yield.op (v := .bool false) (w' := wy) (by simp [execOp, go_sem, e100, hp.const]) ⟨Ext.refl _, rfl⟩
                  · intro ev wy hp hl hk hd
                    have e101 : ev (.tmp 101) = .bool false := hk 101 (by decide)
                    clear hk hd
                    exact Yield.mv rfl ⟨Ext.refl _, e101⟩
                  · intro ev wy hp hl hk hd
                    have e14 : ev (.tmp 14) = .pointer (some ⟨Q, 0, none⟩) := hk 14 (by decide)
                    clear hk
                    refine ⟨fun _ _ _ => ?_, fun _ hx hne => absurd hx hne⟩
                    clear hd
                    have hx := heap_ext HW9.out.2.2.2 hl
                    exact Yield.load rfl e14 (by simp [go_sem, cell_of_heap hx 0, cell_of_heap hx 1, cell_of_heap hx 2, cell_of_heap hx 3]) ⟨Ext.refl _, rfl⟩
                  · intro ev wy hp hl hk hd
                    have e12 : ev (.tmp 12) = .slice (some ⟨ab, ao, none⟩) un uc := hk 12 (by decide)
                    clear hk
                    refine ⟨fun _ _ _ => ?_, fun _ hx hne => absurd hx hne⟩
                    clear hd
                    exact Yield.mv rfl ⟨Ext.refl _, e12⟩
                  · intro ev wy hp hl hk hd
                    have e13 : ev (.tmp 13) = .int .i64 ((ct : Int) + (q : Int)) := hk 13 (by decide)
                    clear hk
                    refine ⟨fun _ _ _ => ?_, fun _ hx hne => absurd hx hne⟩
                    clear hd
                    exact Yield.mv rfl ⟨Ext.refl _, e13⟩
                  · intro ev wy hp hl hk hd
                    have e11 : ev (.tmp 11) = .int .i64 (ct : Nat) := hk 11 (by decide)
                    clear hk
                    refine ⟨fun _ _ _ => ?_, fun _ hx hne => absurd hx hne⟩
                    clear hd
                    exact Yield.mv rfl ⟨Ext.refl _, e11⟩
                  · intro ev wy hp hl hk hd
                    have e105 : ev (.tmp 105) = .int .i64 ((ct : Int) + (q : Int)) := hk 105 (by decide)
                    have e106 : ev (.tmp 106) = .int .i64 (ct : Nat) := hk 106 (by decide)
                    clear hk
                    refine ⟨fun _ _ _ => ?_, fun _ hx hne => absurd hx hne⟩
                    clear hd
                    exact Yield.op (v := .int .i64 (q : Int)) (w' := wy) (by simp [execOp, go_sem, e105, e106, HWQ.out]) ⟨Ext.refl _, rfl⟩
                  · intro ev wy hp hl hk hd
                    have e104 : ev (.tmp 104) = .slice (some ⟨ab, ao, none⟩) un uc := hk 104 (by decide)
                    have e107 : ev (.tmp 107) = .int .i64 (q : Int) := hk 107 (by decide)
                    clear hk
                    refine ⟨fun _ _ _ => ?_, fun _ hx hne => absurd hx hne⟩
                    clear hd
                    have hqd := HQD.out
                    exact Yield.op (v := .pointer (some ⟨ab, ao + q * 4, none⟩)) (w' := wy) (by simp [execOp, go_sem, e104, e107, hqd]) ⟨Ext.refl _, rfl⟩
                  · intro ev wy hp hl hk hd
                    have e108 : ev (.tmp 108) = .pointer (some ⟨ab, ao + q * 4, none⟩) := hk 108 (by decide)
                    clear hk
                    refine ⟨fun _ _ _ => ?_, fun _ hx hne => absurd hx hne⟩
                    clear hd
                    have hE6 := HW9.out.2.2.1.trans hl
                    exact Yield.load rfl e108 (by simp [go_sem, cell_below HP.out.1 hE6, cell_below HP.out.2.1 hE6, cell_below HP.out.2.2.1 hE6, cell_below HP.out.2.2.2 hE6]) ⟨Ext.refl _, rfl⟩
                  · intro ev wy hp hl hk hd
                    have e103 : ev (.tmp 103) = .agg #[.int .i64 u0, .int .i64 u1, .slice x1 nt c1, .string u3] := hk 103 (by decide)
                    have e109 : ev (.tmp 109) = .agg #[.int .i64 u0, .int .i64 u1, .slice a1 nt a3, .string u3] := hk 109 (by decide)
                    clear hk
                    refine ⟨fun _ _ _ => ?_, fun _ hx hne => absurd hx hne⟩
                    clear hd
                    refine Yield.call rfl hp Try.func17 rfl (by kernel_rfl) ?_
                    simp only [List.map_toArray, List.map_cons, List.map_nil, e103, e109]
                    exact (HSAME.out wy hl).mono fun _ _ ⟨he, hb⟩ => ⟨_, he, hb, by first | rfl | simp⟩
                  · intro ev wy hp hl hk hd
                    have e110 : ev (.tmp 110) = .bool true := hk 110 (by decide)
                    clear hk
                    refine ⟨fun _ _ _ => ?_, fun _ hx hne => absurd hx hne⟩
                    clear hd
                    exact Yield.op (v := .bool false) (w' := wy) (by simp [execOp, go_sem, e110]) ⟨Ext.refl _, rfl⟩
                  · intro ev wy hp hl hk hd
                    have e102 : ev (.tmp 102) = .bool false := hk 102 (by decide)
                    have e111 : ev (.tmp 111) = .bool false := hk 111 (by decide)
                    clear hk hd
                    exact Yield.pick (t := false) rfl e102 ⟨Ext.refl _, e111⟩
                · intro vals wz hz hv
                  have g100 : vals 0 = .int .i64 0 := hv 0 (by decide)
                  have g101 : vals 1 = .bool false := hv 1 (by decide)
                  have g102 : vals 2 = .bool false := hv 2 (by decide)
                  have g103 : vals 3 = .agg #[.int .i64 u0, .int .i64 u1, .slice x1 nt c1, .string u3] := hv 3 (by decide)
                  have g104 : vals 4 = .slice (some ⟨ab, ao, none⟩) un uc := hv 4 (by decide)
                  have g105 : vals 5 = .int .i64 ((ct : Int) + (q : Int)) := hv 5 (by decide)
                  have g106 : vals 6 = .int .i64 (ct : Nat) := hv 6 (by decide)
                  have g107 : vals 7 = .int .i64 (q : Int) := hv 7 (by decide)
                  have g108 : vals 8 = .pointer (some ⟨ab, ao + q * 4, none⟩) := hv 8 (by decide)
                  have g109 : vals 9 = .agg #[.int .i64 u0, .int .i64 u1, .slice a1 nt a3, .string u3] := hv 9 (by decide)
                  have g110 : vals 10 = .bool true := hv 10 (by decide)
                  have g111 : vals 11 = .bool false := hv 11 (by decide)
                  have g112 : vals 12 = .bool false := hv 12 (by decide)
                  clear hv
                  simp only [putAll, Act.put, List.setIfInBounds_toArray, List.set_cons_zero, List.set_cons_succ, g100, g101, g102, g103, g104, g105, g106, g107, g108, g109, g110, g111, g112]
                  clear g100
                  clear g101
                  clear g102
                  clear g103
                  clear g104
                  clear g105
                  clear g106
                  clear g107
                  clear g108
                  clear g109
                  clear g110
                  clear g111
                  clear g112
                  have HEA := Lib.hid (HW9.out.2.2.1.trans hz)
                  have hqd := HQD.out
                  clear hz
                  go_wp2_with fail
                  go_roundw
                  case rel => exact ⟨q + 1, by go_num, hqd, HEA⟩
                  case measure => simp [intOf]; omega
              · have HE67 := Lib.hid hE67
                clear hE67
                go_wp2_with fail
                refine (alive9_any w7).mono ?_
                rintro e w8 ⟨rfl, hE8⟩
                have hfin := HEND.out w8 (H6.out.2.2.2.1.trans ((HE67.out.trans hE8).mono H6.out.2.2.2.2.1))
                clear hE8
                go_wp2_with fail
                go_ret
                exact ⟨rfl, hfin⟩

namespace segmentCrashes
theorem own : ownKnob Try.prog.godebug = none := by kernel_rfl
theorem laidOut : laidOutB Try.prog = true := by kernel_rfl
set_option linter.unusedVariables false in
set_option maxRecDepth 100000 in
theorem lifted (os : Os) (started : os.Started) (H : Type) (enc : TypeId × Value → H) :
    ReturnsInHanded {} Try.checked os 3 .any (Rows.segmentCrashesSpec.pre6 enc Try.prog Try.f3 Rows.segmentCrashesRow.domain false) (Rows.segmentCrashesSpec.post enc Try.prog Try.f3 false true false false) := by
  refine returnsInHanded_of_change_sized (C := Try.checked) own started (by kernel_rfl) Try.func3
    (ChangeSpec.witness6 (enc := enc) (C := Try.checked) false ⟨#[], #[.slice none 0 0, .int .i64 0], []⟩ 8 (by kernel_rfl) (by kernel_rfl) (by kernel_rfl) (by kernel_rfl)) ?_
  intro W base args ds gs before hval0 hW hcnd hsz _
  have hval : ∀ (j : Nat) t v, Try.f3.params[j]? = some t → args[j]? = some v → Value.okWide Try.prog W .any base t v := hval0
  have hW' := hW
  obtain ⟨p, q, hA0, hV, rfl, hfz, hnd⟩ := hW'
  have hA : DataW.TrodAll enc Try.prog W 0 (fun _ => true) true Try.f3.params.toList args.toList ds p := hA0
  rw [Try.params3] at hA hval
  obtain ⟨v0, vs0, d0, ds0, p0, q0, hargs, rfl, rfl, h0, r0⟩ := trodAll_cons hA
  obtain ⟨v1, vs1, d1, ds1, p1, q1, rfl, rfl, rfl, h1, r1⟩ := trodAll_cons r0
  obtain ⟨rfl, rfl, rfl⟩ := trodAll_nil r1
  obtain rfl : args = #[v0, v1] := by cases args; simp_all
  obtain ⟨rfl, rfl⟩ := trodVars_none hV
  have k0 := h0
  have lt0 : ∀ x ∈ p0, x.block < W.heap.size := by obtain ⟨m, hm⟩ := k0; exact DataW.trod_lt m _ _ _ hm
  obtain ⟨a0, len0, cap0, rfl⟩ := okWide_slice Try.underlying22 (hval 0 22 v0 rfl rfl)
  obtain ⟨l0, w0, f0⟩ : ∃ l, Ops9 W (.slice a0 len0 cap0) l ∧ ∀ o ∈ l, o.Small := by
    obtain ⟨fuel, hf⟩ := h0
    obtain ⟨v, l, hcs, hb, hft⟩ := ops9_of_raw (x := (d0, p0)) hf (fun m hm => of_decide_eq_true (List.all_eq_true.1 hsz _ (DataW.weights_mem_each (j := 0) (by rw [Try.params3]; rfl) rfl m hm)))
    simp [Value.cells] at hcs
    subst hcs
    exact ⟨l, hb, hft⟩
  have k1 := h1
  have lt1 : ∀ x ∈ p1, x.block < W.heap.size := by obtain ⟨m, hm⟩ := k1; exact DataW.trod_lt m _ _ _ hm
  obtain ⟨a1, rfl, _, _, w1⟩ := open_int Try.underlying3 (hval 1 3 v1 rfl rfl) h1
  clear hA0 hval0
  refine (segmentCrashes_walk a0 len0 cap0 l0 a1 W w0 f0 (bounds_i64 w1)).mono fun e W' ⟨he, bel⟩ => ?_
  subst he
  exact ⟨_, rfl, _, _, _, [], _, [], hW, trodAll_mk1 (shut_bool Try.underlying4 _), (trodAll_cons_mk (Below.trod laidOut (by kernel_rfl) (of_decide_eq_true (by kernel_rfl)) k0 bel lt0) (trodAll_cons_mk (Below.trod laidOut (by kernel_rfl) (of_decide_eq_true (by kernel_rfl)) k1 bel lt1) trodAll_mk0)), rfl, bel.frame _, fun h => by cases h⟩
theorem over : Rows.segmentCrashesRow.holds Try.pinned (OpenSpec.ofChange Rows.segmentCrashesSpec) :=
  OpenClaim.holds_of_wide 3 Try.f3 rfl rfl rfl rfl rfl rfl rfl ⟨rfl, rfl, rfl, rfl, rfl⟩ rfl rfl rfl rfl rfl (by kernel_rfl) Try.func3 (by kernel_rfl)
    (of_decide_eq_true (by kernel_rfl)) (by unfold Func.isWrapper; first | (rw [if_pos (by decide +kernel)]; kernel_rfl) | (rw [if_neg (by decide +kernel)]; exact ⟨rfl, rfl⟩))
    (fun os started H enc _ => lifted os started H enc)
theorem proved : Rows.SegmentCrashesSaid := over
end segmentCrashes
end Go.Proofs.Ytfgjhagfpafmoaa
