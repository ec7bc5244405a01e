/-
  OrderKeeps: what has a position keeps it, whatever is added; records of one shard stand by their local numbers: for every input the statement's function returns true, and leaves what came in as it was.
-/
import Derived.Test.YtnldbdgchkknpaaBsLib
import Derived.Test.YtnldbdgchkknpaaBsOrJ
import Derived.Test.YtnldbdgchkknpaaBsOrK
import Derived.Test.YtnldbdgchkknpaaBsOrRaw
namespace Go.Proofs.Ytnldbdgchkknpaa
set_option linter.unusedSimpArgs false
set_option linter.unusedVariables false
open Go.ChangeShapes Go.WideShapes Go.ChangeAt Go.RowKit

/-- The first places of a row. -/
theorem SlN.pre15 {w : World} {a : Option Addr} {n k cap : Nat} {R : List (Int × Int)} (h : SlN 2 w (.slice a n cap) n (plFlat R)) (hk : k ≤ n) : SlN 2 w (.slice a k cap) k (plFlat (R.take k)) := by
  obtain ⟨a', cap', e, h1, h2, h3, h4, h5⟩ := h
  injection e with e1 _ e3
  subst e1 e3
  rw [plFlat_length] at h4
  have hl : (R.take k).length = k := by rw [List.length_take]; omega
  refine ⟨a, cap, rfl, by omega, h2, h3, by rw [plFlat_length, hl], fun j hj => ?_⟩
  rw [plFlat_length, hl] at hj
  obtain ⟨b, off, e, hc⟩ := h5 j (by rw [plFlat_length]; omega)
  refine ⟨b, off, e, hc.trans ?_⟩
  have : plFlat R = plFlat (R.take k) ++ plFlat (R.drop k) := by rw [← plFlat_append, List.take_append_drop]
  congr 1
  simp only [this]
  rw [List.getElem_append_left (by rw [plFlat_length, hl]; exact hj)]
theorem i64s_set (c : List Int) (j : Nat) (x : Int) : (i64s c).toArray.setIfInBounds j (.int .i64 x) = (i64s (c.set j x)).toArray := by simp [i64s, List.map_set]
theorem i64s_at {c : List Int} {j : Nat} {x : Int} (h : c[j]? = some x) : (i64s c).toArray[j]? = some (.int .i64 x) := by
  simp [i64s, h]

set_option maxRecDepth 100000 in
set_option maxHeartbeats 20000000 in
theorem orderKeeps_walk (shards : Int) (a : Option Addr) (len cap : Nat) (l : List Ent.E) (n : Int) (W : World) (hv : Ents W (.slice a len cap) l) (hsz : len * 64 ≤ 140737488351232) (hc : ∀ e ∈ l, e.cut.length ≤ 17592186043904) :
    Calls Try.prog 4 #[.int .i64 shards, .slice a len cap, .int .i64 n] W fun e W' => e = .returned (.bool true) ∧ Below W.heap.size W W' := by
  have hlen : len = l.length ∧ l.length ≤ cap := by obtain ⟨_, _, e, h1, _⟩ := hv.shape; injection e with _ e e2; subst e2; exact ⟨e, h1⟩
  obtain ⟨rfl, hcap⟩ := hlen
  have HV := Lib.hid hv
  have HC := Lib.hid (fun e he => Nat.le_trans (hc e he) (show 17592186043904 ≤ 17592186044416 by omega))
  have HSZ := Lib.hid hsz
  clear hv hc hsz
  have hbad : ∀ w1, Ext W w1 → Calls Try.prog 10 #[] w1 fun e w' => e = .returned (.bool true) ∧ Below W.heap.size W w' := fun w1 h => (alive15_any w1).mono fun e w' q => ⟨q.1, h.trans q.2⟩
  have HBAD := Lib.hid hbad
  clear hbad
  go_enter Try.func4, Try.ntmps4
  go_wp2_with fail
  refine (few15_any _ l W HV.out).mono ?_
  rintro e w1 ⟨b, rfl, hE1, hb⟩
  have HE1 := Lib.hid hE1
  cases b with
  | false =>
    go_wp2_with fail
    refine (HBAD.out _ HE1.out).mono ?_
    rintro e w2 ⟨rfl, hE2⟩
    go_wp2_with fail
    go_ret
    exact ⟨rfl, hE2⟩
  | true =>
    have hl60 := (hb rfl).1
    clear hb hE1
    by_cases hneg : n < 0
    · go_wp2_with fail
      refine (HBAD.out _ HE1.out).mono ?_
      rintro e w2 ⟨rfl, hE2⟩
      go_wp2_with fail
      go_ret
      exact ⟨rfl, hE2⟩
    by_cases hbig : (l.length : Int) < n
    · go_wp2_with fail
      refine (HBAD.out _ HE1.out).mono ?_
      rintro e w2 ⟨rfl, hE2⟩
      go_wp2_with fail
      go_ret
      exact ⟨rfl, hE2⟩
    obtain ⟨k, rfl⟩ : ∃ k : Nat, n = (k : Int) := ⟨n.toNat, by omega⟩
    have hkl : k ≤ l.length := by omega
    have hsl : ∀ wy : World, (Instr.sliceAt 22 (.slice a l.length cap) none (some (.int .i64 (k : Int))) none).run Try.prog wy = .ok (.slice a k cap) wy := fun wy => runTo (size := 6) Try.underlying22 (by kernel_rfl) k (by omega) .i64
    have htl : (l.take k).length = k := by rw [List.length_take]; omega
    have HTL := Lib.hid htl
    have htk := (HV.out.below HE1.out).take k hkl
    have HTK := Lib.hid htk
    clear htk htl
    go_wp2_with fail
    refine (mine15_any _ (l.take k) w1 HTK.out (by rw [HTL.out]; omega)).mono ?_
    rintro e w2 ⟨u, rfl, hu, hE2⟩
    have HU := Lib.hid (hu.ents hE2)
    have HE2 := Lib.hid (HE1.out.trans hE2)
    obtain ⟨ua, uc, rfl⟩ : ∃ ua uc, u = .slice ua k uc := by
      obtain ⟨x, y, e⟩ := hu.isSlice
      rw [HTL.out] at e
      exact ⟨x, y, e⟩
    clear hu hE2 hsl
    go_wp2_with fail
    refine (of15_any shards _ (l.take k) w2 HU.out (by rw [HTL.out]; omega) (fun e he => HC.out e (List.mem_of_mem_take he))).mono ?_
    rintro e w3 (⟨hn, rfl, hE3⟩ | ⟨o, m, hn, rfl, hm, ho, hE3⟩)
    · have HE3 := Lib.hid (HE2.out.trans hE3)
      clear hE3
      go_wp2_with fail
      refine (mine15_any _ l w3 (HV.out.below HE3.out) (by omega)).mono ?_
      rintro e w4 ⟨u2, rfl, hu2, hE4⟩
      have HU2 := Lib.hid (hu2.ents hE4)
      have HE4 := Lib.hid (HE3.out.trans hE4)
      obtain ⟨ub, ud, rfl⟩ := hu2.isSlice
      clear hu2 hE4
      go_wp2_with fail
      refine (of15_any shards _ l w4 HU2.out (by omega) HC.out).mono ?_
      rintro e w5 (⟨_, rfl, hE5⟩ | ⟨_, _, hn2, _⟩)
      case inr => exact absurd hn2 hn
      have HE5 := Lib.hid (HE4.out.trans hE5)
      clear hE5
      go_wp2_with fail
      refine (alive15_any _).mono ?_
      rintro e w6 ⟨rfl, hE6⟩
      have HE6 := Lib.hid (HE5.out.trans hE6)
      clear hE6
      go_wp2_with fail
      go_ret
      exact ⟨rfl, HE6.out⟩
    have HO3 := Lib.hid ho
    have HE3 := Lib.hid (HE2.out.trans hE3)
    have HM3 := Lib.hid hm
    clear hE3 ho hm
    go_wp2_with fail
    refine (mine15_any _ l w3 (HV.out.below HE3.out) (by omega)).mono ?_
    rintro e w4 ⟨u2, rfl, hu2, hE4⟩
    have HU2 := Lib.hid (hu2.ents hE4)
    have HO4 := Lib.hid (HO3.out.ext hE4)
    have HE4 := Lib.hid (HE3.out.trans hE4)
    obtain ⟨ub, ud, rfl⟩ := hu2.isSlice
    clear hu2 hE4
    go_wp2_with fail
    refine (of15_any shards _ l w4 HU2.out (by omega) HC.out).mono ?_
    rintro e w5 (⟨hn2, _⟩ | ⟨o2, m2, _, rfl, hm2, ho2, hE5⟩)
    · exact absurd hn hn2
    have HO5 := Lib.hid (HO4.out.ext hE5)
    have HP5 := Lib.hid ho2
    have HE5 := Lib.hid (HE4.out.trans hE5)
    have HM5 := Lib.hid hm2
    have hpre : ∃ ds, Ord.of (Ord.zero shards) l = Ord.of (Ord.zero shards) (l.take k) ++ ds := by
      have := Ord.of_more (l.take k) (l.drop k) (Ord.zero shards)
      rwa [List.take_append_drop] at this
    obtain ⟨ds, hds⟩ := hpre
    obtain ⟨sh, hok⟩ := ho2.ok
    obtain ⟨sh1, hok1⟩ := HO5.out.ok
    obtain ⟨M, hM⟩ := Ord.rows_pre (ds := ds) hok1
    rw [← hds] at hM
    have h8 : sh ≤ 8 := by
      have := (Vec.right_ok hok.last_right).2.2
      rw [hok.last_len] at this
      exact this
    have hsh : (sh : Int) = shards := by
      obtain ⟨bs, e, _⟩ := hok.ex
      obtain ⟨es, e2⟩ := Ord.of_pre l (Ord.zero shards)
      rw [e2] at e
      have e3 : List.replicate shards.toNat (0 : Int) = List.replicate sh 0 := by
        unfold Ord.zero at e
        simp only [List.cons_append, List.nil_append, List.cons.injEq] at e
        exact e.1
      have e4 := congrArg List.length e3
      simp only [List.length_replicate] at e4
      omega
    obtain ⟨dd, hrun⟩ := Ord.run_rows hok h8
    have hknown : ∀ (i : Nat) (s t : Int), (Ord.rows (Ord.of (Ord.zero shards) l))[i]? = some (s, t) → 0 ≤ s ∧ s < shards ∧ 0 ≤ t ∧ t ≤ 1099511627776 := fun i s t h => by
      obtain ⟨n, q, hn, hq, e, ha, hb⟩ := hok.known i s t h
      have h1 := ((Vec.right_ok (hok.right _ (List.getElem_mem hn))).1 _ (List.getElem_mem (show q < (Ord.of (Ord.zero shards) l)[n + 1].length by rw [hok.len]; exact hq))).2
      have h2 := ((Vec.right_ok (hok.right _ (List.getElem_mem (show n < (Ord.of (Ord.zero shards) l).length by omega)))).1 _ (List.getElem_mem (show q < (Ord.of (Ord.zero shards) l)[n].length by rw [hok.len]; exact hq))).1
      omega
    have hcl : (Ord.of (Ord.zero shards) l).length ≤ 61 := by
      have := (Ord.of_long l (Ord.zero shards)).2
      have hz : (Ord.zero shards).length = 1 := rfl
      omega
    have hcl2 : (Ord.of (Ord.zero shards) (l.take k)).length ≤ 61 := by
      have := (Ord.of_long (l.take k) (Ord.zero shards)).2
      have hz : (Ord.zero shards).length = 1 := rfl
      have := HTL.out
      omega
    obtain ⟨C1, hC1⟩ : ∃ z, Ord.of (Ord.zero shards) (l.take k) = z := ⟨_, rfl⟩
    obtain ⟨C2, hC2⟩ : ∃ z, Ord.of (Ord.zero shards) l = z := ⟨_, rfl⟩
    rw [hC1] at HO5 hM hcl2
    rw [hC2] at HP5 hM hrun hknown hcl
    have hR1 : ((Ord.rows C2).length : Int) ≤ 1000000 := by
      rw [hC2] at hok
      rw [hok.rows_length, hok.last_is]
      exact hok.most _ (List.getElem_mem _)
    have HX := Lib.hid (And.intro hM (And.intro hrun (And.intro hknown (And.intro hcl (And.intro hcl2 hR1)))))
    clear hE5 ho2 hm2 hds hok hok1 hM h8 hsh hrun hknown hC1 hC2 HO3 HO4 hcl hcl2 hR1
    go_wp2_with fail
    refine (row15_any HO5.out (by have := HX.out.2.2.2.2.1; omega)).mono ?_
    rintro e w6 ⟨x, rfl, hx, hE6⟩
    obtain ⟨R1, hR1⟩ : ∃ z, Ord.rows C1 = z := ⟨_, rfl⟩
    rw [hR1] at hx HX
    obtain ⟨n1, hn1⟩ : ∃ z, R1.length = z := ⟨_, rfl⟩
    rw [hn1] at hx
    have HN1 := Lib.hid hn1
    obtain ⟨xa, xc, rfl⟩ : ∃ xa xc, x = .slice xa n1 xc := by
      obtain ⟨xa, xn, xc, rfl⟩ := ownSlice hx
      rw [ownLen hx]
      exact ⟨_, _, rfl⟩
    have HX6 := Lib.hid hx
    have HP6 := Lib.hid (HP5.out.ext hE6)
    have HE6 := Lib.hid (HE5.out.trans hE6)
    clear hx hE6 hR1 hn1
    go_wp2_with fail
    refine (row15_any HP6.out (by have := HX.out.2.2.2.1; omega)).mono ?_
    rintro e w7 ⟨y, rfl, hy, hE7⟩
    obtain ⟨R2, hR2⟩ : ∃ z, Ord.rows C2 = z := ⟨_, rfl⟩
    rw [hR2] at hy HX
    obtain ⟨n2, hn2⟩ : ∃ z, R2.length = z := ⟨_, rfl⟩
    rw [hn2] at hy
    have HN2 := Lib.hid hn2
    obtain ⟨ya, yc, rfl⟩ : ∃ xa xc, y = .slice xa n2 xc := by
      obtain ⟨xa, xn, xc, rfl⟩ := ownSlice hy
      rw [ownLen hy]
      exact ⟨_, _, rfl⟩
    have HX7 := Lib.hid (SlN.ofOwn (rowExt HX6.out hE7))
    have HY7 := Lib.hid (SlN.ofOwn hy)
    have HE7 := Lib.hid (HE6.out.trans hE7)
    clear hy hE7 HX6 hR2 hn2
    have hn12 : n1 ≤ n2 := by rw [← HN1.out, ← HN2.out, HX.out.1, List.length_append]; omega
    have hpl := HY7.out.pre15 hn12
    have htake : R2.take n1 = R1 := by rw [HX.out.1, ← HN1.out]; simp
    rw [htake] at hpl
    have HPL := Lib.hid hpl
    have hsl : ∀ wy : World, (Instr.sliceAt 42 (.slice ya n2 yc) none (some (.int .i64 (n1 : Int))) none).run Try.prog wy = .ok (.slice ya n1 yc) wy := fun wy => runTo (size := 2) Try.underlying42 (by kernel_rfl) n1 (by obtain ⟨_, _, e, h, _⟩ := HY7.out; injection e with _ _ e3; omega) .i64
    have hn12' : ¬ (n2 : Int) < (n1 : Int) := by omega
    clear hpl htake
    go_wp2_with fail
    refine (sameRow15_any _ _ n1 R1 w7 HN1.out HX7.out HPL.out).mono ?_
    rintro e w8 ⟨rfl, hE8⟩
    have HY8 := Lib.hid (HY7.out.below hE8)
    have HE8 := Lib.hid (HE7.out.trans hE8)
    obtain ⟨g, hg⟩ : ∃ z, w8.heap.size = z := ⟨_, rfl⟩
    have HG := Lib.hid hg
    clear hE8 hsl hg
    go_wp2_with (refine wpList_mkfull rfl (.const (.int .i64 8)) (.const (.int .i64 8)) tI rfl w8.heap.size 8 rfl rfl (by omega) (by unfold maxLen; omega) (Nat.le_refl _) ?_; intro w9 hown9 hg9)
    have hnx : w9.heap[g]? = some (.cells (i64s (List.replicate 8 0)).toArray 3 (0, 0)) := by
      rcases hown9.2 with ⟨e, _⟩ | ⟨g', cap', cur, e, _, hgb, hle, _, hcs, htk⟩
      · injection e with e; cases e
      · injection e with e1 e2 e3
        injection e1 with e1
        injection e1 with e1
        rw [HG.out] at e1
        subst e1
        subst e3
        rw [hgb]
        have : cur.toList = i64s (List.replicate 8 0) := by
          rw [← List.take_of_length_le (l := cur.toList) (i := 8 * 1) (by rw [Array.length_toList, hcs]; exact Nat.le_refl _), htk]
          exact made_zeros 8
        rw [← this]
    have HE9 := Lib.hid (show Ext w8 w9 from ⟨hg9.os, hg9.tape, hg9.output, hg9.size, fun i hi => hg9.block i hi (by simp)⟩)
    have HNX := Lib.hid hnx
    rw [HG.out]
    have hn26 : n2 ≤ 1000000 := by have h1 := HX.out.2.2.2.2.2; have h2 := HN2.out; omega
    have hgl : W.heap.size ≤ g := by rw [← HG.out]; exact HE8.out.size
    clear hown9 hg9 hnx
    go_wp2_with fail
    go_loopw [17, 98] (fun _ i wr => ∃ k : Nat, k ≤ n2 ∧ i = .int .i64 k ∧ Hid (∃ c, Ext w8 wr ∧ Ord.run (List.replicate 8 0) (R2.take k) = some c ∧ wr.heap[g]? = some (.cells (i64s c).toArray 3 (0, 0)) ∧ c.length = 8)) (fun _ i _ => n2 - (intOf i).toNat)
    case atStart => exact ⟨0, by omega, rfl, Lib.hid ⟨_, HE9.out, rfl, HNX.out, rfl⟩⟩
    case round =>
      obtain ⟨i, hi, rfl, hI⟩ := hrel
      obtain ⟨c, hE, hrc, hgc, hc8⟩ := hI.out
      have HE := Lib.hid hE
      by_cases hlt : i < n2
      · have hil : i < R2.length := by rw [HN2.out]; exact hlt
        obtain ⟨b1, o1, c1, e1, p0, p1⟩ := Places.at15 (HY8.out.below hE) i hil
        obtain ⟨x, y, h1, h2, h3⟩ := Ord.run_at HX.out.2.1 i hil
        rw [hrc] at h1
        injection h1 with h1
        subst h1
        obtain ⟨⟨s, t⟩, hst⟩ : ∃ z, R2[i] = z := ⟨_, rfl⟩
        have hkn := HX.out.2.2.1 i s t (by rw [List.getElem?_eq_getElem hil, hst])
        rw [hst] at p0 p1 h2
        simp only at p0 p1
        obtain ⟨tt, rfl, hct, hy⟩ := Ord.step_is h2
        subst hy
        injection e1 with e1 _ e3
        subst e1 e3
        have htt8 : tt < 8 := by
          obtain ⟨h, _⟩ := List.getElem?_eq_some_iff.1 hct
          omega
        have htv : -1 ≤ t + 1 → True := fun _ => trivial
        obtain ⟨w3, hw3⟩ : ∃ z, wr.alloc (.cells #[.int .i64 (tt : Int), .int .i64 t] 24) = z := ⟨_, rfl⟩
        obtain ⟨q, hq⟩ : ∃ z, wr.heap.size = z := ⟨_, rfl⟩
        have hE3 : Ext wr w3 := by rw [← hw3]; exact Ext.alloc _ _
        have hB3 : w3.heap[q]? = some (.cells #[.int .i64 (tt : Int), .int .i64 t] 24 (0, 0)) := by rw [← hw3, ← hq]; exact heap_alloc_new _ _
        have HW3 := Lib.hid (And.intro hw3 hq)
        have HB3 := Lib.hid (And.intro hB3 (heap_ext hgc hE3))
        have HE3 := Lib.hid (hE.trans hE3)
        have HRUN := Lib.hid (And.intro h3 (And.intro hct (And.intro hc8 hkn)))
        have hwt : IntKind.i64.wrap (t + 1) = t + 1 := IntWalk.i64_in _ (by omega)
        clear h2 h3 hE3 hB3 hw3 hq hct hst hrc hgc hE hI hkn
        go_upto_region 15 with fail
        rw [HW3.out.1, HW3.out.2]
        refine wp_region_facts (by kernel_rfl) Ext (fun iop v w => match iop with
            | 0 => v = .pointer (some ⟨q, 0, none⟩)
            | 1 => v = .int .i64 (tt : Int)
            | 2 => v = .bool false
            | 3 => v = .bool false
            | 4 => v = .pointer (some ⟨q, 0, none⟩)
            | 5 => v = .int .i64 (tt : Int)
            | 6 => v = .int .i64 shards
            | 7 => v = .bool false
            | 8 => v = .bool false
            | 9 => v = .bool false
            | 10 => v = .pointer (some ⟨q, 1, none⟩)
            | 11 => v = .int .i64 t
            | 12 => v = .slice (some ⟨g, 0, none⟩) 8 8
            | 13 => v = .pointer (some ⟨q, 0, none⟩)
            | 14 => v = .int .i64 (tt : Int)
            | 15 => v = .pointer (some ⟨g, tt, none⟩)
            | 16 => v = .int .i64 t
            | 17 => v = .bool false
            | _ => v = .bool false
            ) (by kernel_rfl) (fun _ _ _ h k => Ext.trans h k) (fun a => Ext.refl a) (Ext.drew _) ?_ ?_ ?_
        · intro iop v wa wb hF hL
          iterate 18 (rcases iop with _ | iop; exact hF)
          exact hF
        · refine Obls.cons ?_ (Obls.cons ?_ (Obls.cons ?_ (Obls.cons ?_ (Obls.cons ?_ (Obls.cons ?_ (Obls.cons ?_ (Obls.cons ?_ (Obls.cons ?_ (Obls.cons ?_ (Obls.cons ?_ (Obls.cons ?_ (Obls.cons ?_ (Obls.cons ?_ (Obls.cons ?_ (Obls.cons ?_ (Obls.cons ?_ (Obls.cons ?_ (Obls.cons ?_ (Obls.nil)))))))))))))))))))
          · intro ev wy hp hl hk hd
            have e17 : ev _ = .pointer (some ⟨q, 0, none⟩) := hk 17 (by decide)
            exact Yield.oq (by simp [execOp, go_sem, e17])
          · intro ev wy hp hl hk hd
            have e102 : ev _ = _ := hk 102 (by decide)
            exact Yield.op (v := .int .i64 (tt : Int)) (w' := wy) (by simp [execOp, go_sem, e102, cell_of_heap (heap_ext HB3.out.1 hl) 0]) ⟨Ext.refl _, rfl⟩
          · intro ev wy hp hl hk hd
            have e103 : ev _ = _ := hk 103 (by decide)
            exact Yield.op (v := .bool false) (w' := wy) (by simp [execOp, go_sem, e103, hp.const]) ⟨Ext.refl _, rfl⟩
          · intro ev wy hp hl hk hd
            have e104 : ev _ = _ := hk 104 (by decide)
            exact Yield.mv rfl ⟨Ext.refl _, e104⟩
          · intro ev wy hp hl hk hd
            have e17 : ev _ = .pointer (some ⟨q, 0, none⟩) := hk 17 (by decide)
            refine ⟨fun _ _ _ => ?_, fun _ hx hne => absurd hx hne⟩
            exact Yield.op (v := .pointer (some ⟨q, 0, none⟩)) (w' := wy) (by simp [execOp, go_sem, e17]) ⟨Ext.refl _, rfl⟩
          · intro ev wy hp hl hk hd
            have e106 : ev _ = _ := hk 106 (by decide)
            refine ⟨fun _ _ _ => ?_, fun _ hx hne => absurd hx hne⟩
            exact Yield.op (v := .int .i64 (tt : Int)) (w' := wy) (by simp [execOp, go_sem, e106, cell_of_heap (heap_ext HB3.out.1 hl) 0]) ⟨Ext.refl _, rfl⟩
          · intro ev wy hp hl hk hd
            have e0 : ev _ = .int .i64 shards := hk 0 (by decide)
            refine ⟨fun _ _ _ => ?_, fun _ hx hne => absurd hx hne⟩
            exact Yield.mv rfl ⟨Ext.refl _, e0⟩
          · intro ev wy hp hl hk hd
            have e107 : ev _ = _ := hk 107 (by decide)
            have e108 : ev _ = _ := hk 108 (by decide)
            refine ⟨fun _ _ _ => ?_, fun _ hx hne => absurd hx hne⟩
            exact Yield.op (v := .bool false) (w' := wy) (by simp [execOp, go_sem, e107, e108]; have := HRUN.out.2.2.2.2.1; omega) ⟨Ext.refl _, rfl⟩
          · intro ev wy hp hl hk hd
            have e105 : ev _ = _ := hk 105 (by decide)
            have e109 : ev _ = _ := hk 109 (by decide)
            exact Yield.pick (t := false) rfl e105 ⟨Ext.refl _, e109⟩
          · intro ev wy hp hl hk hd
            have e110 : ev _ = _ := hk 110 (by decide)
            exact Yield.mv rfl ⟨Ext.refl _, e110⟩
          · intro ev wy hp hl hk hd
            have e17 : ev _ = .pointer (some ⟨q, 0, none⟩) := hk 17 (by decide)
            refine ⟨fun _ _ _ => ?_, fun _ hx hne => absurd hx hne⟩
            exact Yield.op (v := .pointer (some ⟨q, 1, none⟩)) (w' := wy) (by simp [execOp, go_sem, e17]) ⟨Ext.refl _, rfl⟩
          · intro ev wy hp hl hk hd
            have e112 : ev _ = _ := hk 112 (by decide)
            refine ⟨fun _ _ _ => ?_, fun _ hx hne => absurd hx hne⟩
            exact Yield.op (v := .int .i64 t) (w' := wy) (by simp [execOp, go_sem, e112, cell_of_heap (heap_ext HB3.out.1 hl) 1]) ⟨Ext.refl _, rfl⟩
          · intro ev wy hp hl hk hd
            have e15 : ev _ = .slice (some ⟨g, 0, none⟩) 8 8 := hk 15 (by decide)
            refine ⟨fun _ _ _ => ?_, fun _ hx hne => absurd hx hne⟩
            exact Yield.mv rfl ⟨Ext.refl _, e15⟩
          · intro ev wy hp hl hk hd
            have e17 : ev _ = .pointer (some ⟨q, 0, none⟩) := hk 17 (by decide)
            refine ⟨fun _ _ _ => ?_, fun _ hx hne => absurd hx hne⟩
            exact Yield.op (v := .pointer (some ⟨q, 0, none⟩)) (w' := wy) (by simp [execOp, go_sem, e17]) ⟨Ext.refl _, rfl⟩
          · intro ev wy hp hl hk hd
            have e115 : ev _ = _ := hk 115 (by decide)
            refine ⟨fun _ _ _ => ?_, fun _ hx hne => absurd hx hne⟩
            exact Yield.op (v := .int .i64 (tt : Int)) (w' := wy) (by simp [execOp, go_sem, e115, cell_of_heap (heap_ext HB3.out.1 hl) 0]) ⟨Ext.refl _, rfl⟩
          · intro ev wy hp hl hk hd
            have e114 : ev _ = _ := hk 114 (by decide)
            have e116 : ev _ = _ := hk 116 (by decide)
            refine ⟨fun _ _ _ => ?_, fun _ hx hne => absurd hx hne⟩
            exact Yield.op (v := .pointer (some ⟨g, tt, none⟩)) (w' := wy) (by simp [execOp, go_sem, e114, e116]; omega) ⟨Ext.refl _, rfl⟩
          · intro ev wy hp hl hk hd
            have e117 : ev _ = _ := hk 117 (by decide)
            refine ⟨fun _ _ _ => ?_, fun _ hx hne => absurd hx hne⟩
            exact Yield.op (v := .int .i64 t) (w' := wy) (by simp only [execOp, e117]; exact (show _ from by simp [go_sem, cell_of_heap (heap_ext HB3.out.2 hl) tt, i64s_at HRUN.out.2.1])) ⟨Ext.refl _, rfl⟩
          · intro ev wy hp hl hk hd
            have e113 : ev _ = _ := hk 113 (by decide)
            have e118 : ev _ = _ := hk 118 (by decide)
            refine ⟨fun _ _ _ => ?_, fun _ hx hne => absurd hx hne⟩
            exact Yield.op (v := .bool false) (w' := wy) (by simp [execOp, go_sem, e113, e118]) ⟨Ext.refl _, rfl⟩
          · intro ev wy hp hl hk hd
            have e111 : ev _ = _ := hk 111 (by decide)
            have e119 : ev _ = _ := hk 119 (by decide)
            exact Yield.pick (t := false) rfl e111 ⟨Ext.refl _, e119⟩
        · intro vals wz hz hv
          have g102 : vals 0 = _ := hv 0 (by decide)
          have g103 : vals 1 = _ := hv 1 (by decide)
          have g104 : vals 2 = _ := hv 2 (by decide)
          have g105 : vals 3 = _ := hv 3 (by decide)
          have g106 : vals 4 = _ := hv 4 (by decide)
          have g107 : vals 5 = _ := hv 5 (by decide)
          have g108 : vals 6 = _ := hv 6 (by decide)
          have g109 : vals 7 = _ := hv 7 (by decide)
          have g110 : vals 8 = _ := hv 8 (by decide)
          have g111 : vals 9 = _ := hv 9 (by decide)
          have g112 : vals 10 = _ := hv 10 (by decide)
          have g113 : vals 11 = _ := hv 11 (by decide)
          have g114 : vals 12 = _ := hv 12 (by decide)
          have g115 : vals 13 = _ := hv 13 (by decide)
          have g116 : vals 14 = _ := hv 14 (by decide)
          have g117 : vals 15 = _ := hv 15 (by decide)
          have g118 : vals 16 = _ := hv 16 (by decide)
          have g119 : vals 17 = _ := hv 17 (by decide)
          have g120 : vals 18 = _ := hv 18 (by decide)
          clear hv
          simp only [putAll, Act.put, List.setIfInBounds_toArray, List.set_cons_zero, List.set_cons_succ, g102, g103, g104, g105, g106, g107, g108, g109, g110, g111, g112, g113, g114, g115, g116, g117, g118, g119, g120]
          clear g102 g103 g104 g105 g106 g107 g108 g109 g110 g111 g112 g113 g114 g115 g116 g117 g118 g119 g120
          have HZ := Lib.hid hz
          have hq3 := heap_ext HB3.out.1 hz
          have hg3 := heap_ext HB3.out.2 hz
          have d0 := cell_of_heap hq3 0
          simp only [List.getElem?_toArray, List.getElem?_cons_zero] at d0
          have d1 := cell_of_heap hg3 tt
          rw [i64s_at HRUN.out.2.1] at d1
          have df := frozen_of_heap hg3 tt
          have HG3 := Lib.hid hg3
          clear hz hq3 hg3
          go_wp2_with fail
          go_roundw
          case rel =>
            refine ⟨i + 1, by omega, by simp, Lib.hid ⟨_, ?_, HRUN.out.1, ?_, by simp; exact HRUN.out.2.2.1⟩⟩
            · exact (HE3.out.trans HZ.out).setCell (by rw [HG.out]; exact Nat.le_refl _) _
            · have := heap_setCell HG3.out tt (.int .i64 (t + 1))
              rw [i64s_set] at this
              exact this
          case measure => simp [intOf]; omega
      · go_wp2_with fail
        refine (alive15_any _).mono ?_
        rintro e w10 ⟨rfl, hE10⟩
        have HF := Lib.hid (HE8.out.trans (HE.out.trans hE10))
        clear hE10
        go_wp2_with fail
        go_ret
        exact ⟨rfl, HF.out⟩

namespace orderKeeps
theorem own : ownKnob Try.prog.godebug = none := by kernel_rfl
theorem laidOut : laidOutB Try.prog = true := by kernel_rfl
set_option linter.unusedVariables false in
set_option maxRecDepth 100000 in
theorem lifted (os : Os) (started : os.Started) (H : Type) (enc : TypeId × Value → H) :
    ReturnsInHanded {} Try.checked os 4 .any (Rows.orderKeepsSpec.pre6 enc Try.prog Try.f4 Rows.orderKeepsRow.domain false) (Rows.orderKeepsSpec.post enc Try.prog Try.f4 false true false false) := by
  refine returnsInHanded_of_change_sized (C := Try.checked) own started (by kernel_rfl) Try.func4
    (ChangeSpec.witness6 (enc := enc) (C := Try.checked) false ⟨#[], #[.int .i64 0, .slice none 0 0, .int .i64 0], []⟩ 8 (by kernel_rfl) (by kernel_rfl) (by kernel_rfl) (by kernel_rfl)) ?_
  intro W base args ds gs before hval0 hW hcnd hsz _
  have hval : ∀ (j : Nat) t v, Try.f4.params[j]? = some t → args[j]? = some v → Value.okWide Try.prog W .any base t v := hval0
  have hW' := hW
  obtain ⟨p, q, hA0, hV, rfl, hfz, hnd⟩ := hW'
  have hA : DataW.TrodAll enc Try.prog W 0 (fun _ => true) true Try.f4.params.toList args.toList ds p := hA0
  rw [Try.params4] at hA hval
  obtain ⟨v0, vs0, d0, ds0, p0, q0, hargs, rfl, rfl, h0, r0⟩ := trodAll_cons hA
  obtain ⟨v1, vs1, d1, ds1, p1, q1, rfl, rfl, rfl, h1, r1⟩ := trodAll_cons r0
  obtain ⟨v2, vs2, d2, ds2, p2, q2, rfl, rfl, rfl, h2, r2⟩ := trodAll_cons r1
  obtain ⟨rfl, rfl, rfl⟩ := trodAll_nil r2
  obtain rfl : args = #[v0, v1, v2] := by cases args; simp_all
  obtain ⟨rfl, rfl⟩ := trodVars_none hV
  have k0 := h0
  have lt0 : ∀ x ∈ p0, x.block < W.heap.size := by obtain ⟨m, hm⟩ := k0; exact DataW.trod_lt m _ _ _ hm
  obtain ⟨a0, rfl, _, _, w0⟩ := open_int Try.underlying3 (hval 0 3 v0 rfl rfl) h0
  have k1 := h1
  have lt1 : ∀ x ∈ p1, x.block < W.heap.size := by obtain ⟨m, hm⟩ := k1; exact DataW.trod_lt m _ _ _ hm
  obtain ⟨a1, len1, cap1, rfl⟩ := okWide_slice Try.underlying22 (hval 1 22 v1 rfl rfl)
  obtain ⟨l1, w1, f1⟩ : ∃ l, Ents W (.slice a1 len1 cap1) l ∧ ∀ e ∈ l, e.cut.length ≤ 17592186043904 := by
    obtain ⟨fuel, hf⟩ := h1
    obtain ⟨v, l, hcs, hb, hft⟩ := entsl_of_raw (x := (d1, p1)) hf (fun m hm => of_decide_eq_true (List.all_eq_true.1 hsz _ (DataW.weights_mem_each (j := 1) (by rw [Try.params4]; rfl) rfl m hm)))
    simp [Value.cells] at hcs
    subst hcs
    exact ⟨l, hb, hft⟩
  have sz1 : len1 * 64 ≤ 140737488351232 := by obtain ⟨fuel, hf⟩ := h1; exact reach_of_raw (P := Try.prog) (x := (d1, p1)) (j := 1) hsz (by rw [Try.params4]; rfl) rfl Try.underlying22 (by kernel_rfl) hf
  have k2 := h2
  have lt2 : ∀ x ∈ p2, x.block < W.heap.size := by obtain ⟨m, hm⟩ := k2; exact DataW.trod_lt m _ _ _ hm
  obtain ⟨a2, rfl, _, _, w2⟩ := open_int Try.underlying3 (hval 2 3 v2 rfl rfl) h2
  clear hA0 hval0
  refine (orderKeeps_walk a0 a1 len1 cap1 l1 a2 W w1 sz1 f1).mono fun e W' ⟨he, bel⟩ => ?_
  subst he
  exact ⟨_, rfl, _, _, _, [], _, [], hW, trodAll_mk1 (shut_bool Try.underlying4 _), (trodAll_cons_mk (Below.trod laidOut (by kernel_rfl) (of_decide_eq_true (by kernel_rfl)) k0 bel lt0) (trodAll_cons_mk (Below.trod laidOut (by kernel_rfl) (of_decide_eq_true (by kernel_rfl)) k1 bel lt1) (trodAll_cons_mk (Below.trod laidOut (by kernel_rfl) (of_decide_eq_true (by kernel_rfl)) k2 bel lt2) trodAll_mk0))), rfl, bel.frame _, fun h => by cases h⟩
theorem over : Rows.orderKeepsRow.holds Try.pinned (OpenSpec.ofChange Rows.orderKeepsSpec) :=
  OpenClaim.holds_of_wide 4 Try.f4 rfl rfl rfl rfl rfl rfl rfl ⟨rfl, rfl, rfl, rfl, rfl⟩ rfl rfl rfl rfl rfl (by kernel_rfl) Try.func4 (by kernel_rfl)
    (of_decide_eq_true (by kernel_rfl)) (by unfold Func.isWrapper; first | (rw [if_pos (by decide +kernel)]; kernel_rfl) | (rw [if_neg (by decide +kernel)]; exact ⟨rfl, rfl⟩))
    (fun os started H enc _ => lifted os started H enc)
theorem proved : Rows.OrderKeepsSaid := over
end orderKeeps
end Go.Proofs.Ytnldbdgchkknpaa
