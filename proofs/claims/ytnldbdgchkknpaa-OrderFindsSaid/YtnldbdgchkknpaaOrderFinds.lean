/-
  OrderFinds: each record is found where it stands; a place that has no record is not found: for every input the statement's function returns true, and leaves what came in as it was.
-/
import Derived.Test.YtnldbdgchkknpaaBsOrL
import Derived.Test.YtnldbdgchkknpaaBsOrRaw
namespace Go.Proofs.Ytnldbdgchkknpaa
set_option linter.unusedSimpArgs false
set_option linter.unusedVariables false
open Go.ChangeShapes Go.WideShapes Go.ChangeAt Go.RowKit

/-- The two answers are one. -/
theorem Ord.find_same {sh : Nat} {cs : List (List Int)} (h : Ord.Ok sh cs) {s t k m : Int} {is has : Bool} (h1 : Ord.FindIs cs s t k is) (h2 : match has with | true => ∃ i : Nat, m = (i : Int) ∧ (Ord.rows cs)[i]? = some (s, t) | false => m = 0 ∧ ∀ i : Nat, (Ord.rows cs)[i]? ≠ some (s, t)) : k = m ∧ is = has := by
  cases is with
  | true =>
    obtain ⟨i, rfl, hi⟩ := h1
    cases has with
    | true =>
      obtain ⟨j, rfl, hj⟩ := h2
      exact ⟨by rw [h.one i j _ hi hj], rfl⟩
    | false => exact absurd hi (h2.2 i)
  | false =>
    obtain ⟨rfl, h1⟩ := h1
    cases has with
    | true =>
      obtain ⟨j, _, hj⟩ := h2
      exact absurd hj (h1 j)
    | false => exact ⟨h2.1.symm, rfl⟩
theorem Ord.at_in {cs : List (List Int)} {i : Nat} {s t : Int} {is : Bool} (h : Ord.AtIs cs (i : Int) s t is) (hi : (i : Int) < (Ord.last cs).sum) : is = true ∧ (Ord.rows cs)[i]? = some (s, t) := by
  cases is with
  | true =>
    obtain ⟨j, e, hj⟩ := h
    obtain rfl : i = j := by omega
    exact ⟨rfl, hj⟩
  | false =>
    obtain ⟨_, _, h⟩ := h
    omega
theorem Ord.find_in {sh : Nat} {cs : List (List Int)} (h : Ord.Ok sh cs) {i : Nat} {s t k : Int} {is : Bool} (h1 : Ord.FindIs cs s t k is) (h2 : (Ord.rows cs)[i]? = some (s, t)) : is = true ∧ k = (i : Int) := by
  cases is with
  | true =>
    obtain ⟨j, rfl, hj⟩ := h1
    exact ⟨rfl, by rw [h.one j i _ hj h2]⟩
  | false => exact absurd h2 (h1.2 i)
theorem Ord.at_out {sh : Nat} {cs : List (List Int)} (h : Ord.Ok sh cs) {pos s t : Int} {is : Bool} (h1 : Ord.AtIs cs pos s t is) (h2 : pos < 0 ∨ (Ord.last cs).sum ≤ pos) : is = false ∧ s = 0 ∧ t = 0 := by
  cases is with
  | true =>
    obtain ⟨i, rfl, hi⟩ := h1
    obtain ⟨hi, _⟩ := List.getElem?_eq_some_iff.1 hi
    have := h.rows_length
    omega
  | false => exact ⟨rfl, h1.1, h1.2.1⟩

set_option maxRecDepth 100000 in
set_option maxHeartbeats 20000000 in
theorem orderFinds_walk (shards : Int) (a : Option Addr) (len cap : Nat) (l : List Ent.E) (p : Int × Int) (W : World) (hv : Ents W (.slice a len cap) l) (hsz : len * 64 ≤ 140737488351232) (hc : ∀ e ∈ l, e.cut.length ≤ 17592186043904) :
    Calls Try.prog 3 #[.int .i64 shards, .slice a len cap, .agg #[.int .i64 p.1, .int .i64 p.2]] W fun e W' => e = .returned (.bool true) ∧ Below W.heap.size W W' := by
  have hlen : len = l.length ∧ l.length ≤ cap := by obtain ⟨_, _, e, h1, _⟩ := hv.shape; injection e with _ e e2; subst e2; exact ⟨e, h1⟩
  obtain ⟨rfl, hcap⟩ := hlen
  obtain ⟨ps, pl⟩ := p
  simp only
  have HV := Lib.hid hv
  have HC := Lib.hid (fun e he => Nat.le_trans (hc e he) (show 17592186043904 ≤ 17592186044416 by omega))
  have HSZ := Lib.hid hsz
  obtain ⟨q, hq⟩ : ∃ q, W.heap.size = q := ⟨_, rfl⟩
  obtain ⟨w0, hw0⟩ : ∃ z, W.alloc (.cells #[.int .i64 ps, .int .i64 pl] 24) = z := ⟨_, rfl⟩
  have hE0 : Ext W w0 := by rw [← hw0]; exact Ext.alloc _ _
  have hB0 : w0.heap[q]? = some (.cells #[.int .i64 ps, .int .i64 pl] 24 (0, 0)) := by rw [← hw0, ← hq]; exact heap_alloc_new _ _
  have HQ := Lib.hid (And.intro hq (And.intro hw0 (And.intro hE0 hB0)))
  clear hv hc hq hw0 hE0 hB0
  go_enter Try.func3, Try.ntmps3
  go_upto_region 1 with fail
  rw [HQ.out.1, HQ.out.2.1]
  go_wp2_with fail
  refine (mine15_any _ l w0 (HV.out.below HQ.out.2.2.1) (by omega)).mono ?_
  rintro e w2 ⟨u, rfl, hu, hE2⟩
  have HU := Lib.hid (hu.ents hE2)
  have HE2 := Lib.hid (HQ.out.2.2.1.trans hE2)
  have HB2 := Lib.hid (heap_ext HQ.out.2.2.2 hE2)
  obtain ⟨ua, uc, rfl⟩ := hu.isSlice
  clear hu hE2
  go_wp2_with fail
  refine (of15_any shards _ l w2 HU.out (by omega) HC.out).mono ?_
  rintro e w3 (⟨hn, rfl, hE3⟩ | ⟨o, m, hn, rfl, hm, ho, hE3⟩)
  · have HE3 := Lib.hid (HE2.out.trans hE3)
    clear hE3
    go_wp2_with fail
    refine (alive15_any _).mono ?_
    rintro e w5 ⟨rfl, hE5⟩
    have HE5 := Lib.hid (HE3.out.trans hE5)
    clear hE5
    go_wp2_with fail
    go_ret
    exact ⟨rfl, HE5.out⟩
  have HO3 := Lib.hid ho
  have HE3 := Lib.hid (HE2.out.trans hE3)
  have HB3 := Lib.hid (heap_ext HB2.out hE3)
  have HM := Lib.hid hm
  clear hE3 ho hm
  go_wp2_with fail
  refine (few15_any _ l w3 (HV.out.below HE3.out)).mono ?_
  rintro e w4 ⟨b, rfl, hE4, hb⟩
  have HO4 := Lib.hid (HO3.out.ext hE4)
  have HE4 := Lib.hid (HE3.out.trans hE4)
  have HB4 := Lib.hid (heap_ext HB3.out hE4)
  cases b with
  | false =>
    clear hE4 hb
    have hm0 : (0 : Int) ≤ (m : Int) := by omega
    go_wp2_with fail
    refine (alive15_any _).mono ?_
    rintro e w5 ⟨rfl, hE5⟩
    have HE5 := Lib.hid (HE4.out.trans hE5)
    clear hE5
    go_wp2_with fail
    go_ret
    exact ⟨by simp, HE5.out⟩
  | true =>
    have hl60 := (hb rfl).1
    clear hE4 hb
    obtain ⟨sh, hok⟩ := HO4.out.ok
    have hsh : (sh : Int) = shards := by
      obtain ⟨bs, e, _⟩ := hok.ex
      obtain ⟨es, e2⟩ := Ord.of_pre l (Ord.zero shards)
      rw [e2] at e
      have e3 : List.replicate shards.toNat (0 : Int) = List.replicate sh 0 := by
        unfold Ord.zero at e
        simp only [List.cons_append, List.nil_append, List.cons.injEq] at e
        exact e.1
      have e4 := congrArg List.length e3
      simp only [List.length_replicate] at e4
      omega
    have hsn : shards.toNat = sh := by omega
    have hml : m ≤ l.length := by
      have := (Ord.of_long l (Ord.zero shards)).2
      have hz : (Ord.zero shards).length = 1 := rfl
      have := HM.out
      omega
    obtain ⟨hrows, hcuts⟩ := Ord.rows_of shards l m HM.out
    rw [hsn] at hrows
    have h8 : 1 ≤ sh ∧ sh ≤ 8 := by
      have := (Vec.right_ok hok.last_right).2
      rw [hok.last_len] at this
      exact this
    have hacc : ∀ e ∈ l.take m, e.kind = 1 → e.cut.length = sh ∧ ∀ x ∈ e.cut, 0 ≤ x ∧ x ≤ 1099511627776 := fun e he hke => by
      have h1 := hcuts e he hke
      obtain ⟨i, hi, e1⟩ := List.getElem_of_mem h1
      have h2 := hok.len i hi
      rw [e1] at h2
      exact ⟨h2, (Vec.right_ok (hok.right _ h1)).1⟩
    have hR1 : (Ord.rowE (List.replicate sh 0) (l.take m)).length ≤ 1000000 := by
      rw [← hrows]
      have h1 := hok.rows_length
      have h2 := hok.most (Ord.last (Ord.of (Ord.zero shards) l)) (by rw [hok.last_is]; exact List.getElem_mem _)
      omega
    have htl : (l.take m).length = m := by rw [List.length_take]; omega
    have HREF := Lib.hid (fun (wy : World) (hy : Ext w4 wy) => refFind15_any sh (.slice a m cap) (l.take m) ps pl wy h8.2 h8.1 ((HV.out.below (HE4.out.trans hy)).take m hml) hacc hR1 (by omega))
    rw [← hrows] at HREF
    have hcl : (Ord.of (Ord.zero shards) l).length ≤ 4398046511106 := by have := HM.out; omega
    have hsum : ((Ord.last (Ord.of (Ord.zero shards) l)).sum : Int) ≤ 1000000 := hok.most _ (by rw [hok.last_is]; exact List.getElem_mem _)
    have hsum0 : 0 ≤ (Ord.last (Ord.of (Ord.zero shards) l)).sum := by have := hok.rows_length; omega
    obtain ⟨C, hC⟩ : ∃ z, Ord.of (Ord.zero shards) l = z := ⟨_, rfl⟩
    rw [hC] at HO4 HREF hok hcl hsum hsum0
    have HOK := Lib.hid hok
    have HCL := Lib.hid hcl
    obtain ⟨S, hS⟩ : ∃ S : Nat, (Ord.last C).sum = (S : Int) := ⟨(Ord.last C).sum.toNat, by omega⟩
    have HS := Lib.hid hS
    have hS6 : S ≤ 1000000 := by omega
    have hsl : ∀ wy : World, (Instr.sliceAt 22 (.slice a l.length cap) none (some (.int .i64 (m : Int))) none).run Try.prog wy = .ok (.slice a m cap) wy := fun wy => runTo (size := 6) Try.underlying22 (by kernel_rfl) m (by omega) .i64
    subst shards
    clear hrows hcuts hacc hR1 htl hC hok hcl hsum hsum0 hsn hS HO3
    obtain ⟨w5, hw5⟩ : ∃ z, w4.alloc (.cells #[.int .i64 (sh : Nat), .slice a m cap] 33) = z := ⟨_, rfl⟩
    obtain ⟨g, hg⟩ : ∃ z, w4.heap.size = z := ⟨_, rfl⟩
    have hE5 : Ext w4 w5 := by rw [← hw5]; exact Ext.alloc _ _
    have HB5 := Lib.hid (show w5.heap[g]? = some (.cells #[.int .i64 (sh : Nat), .slice a m cap] 33 (0, 0)) by rw [← hw5, ← hg]; exact heap_alloc_new _ _)
    have HW5 := Lib.hid (And.intro hw5 (And.intro hg hE5))
    clear hw5 hg hE5
    go_upto_region 5 with fail
    rw [HW5.out.1, HW5.out.2.1]
    have hb5 := heap_ext HB4.out HW5.out.2.2
    have c0 := cell_of_heap hb5 0
    have c1 := cell_of_heap hb5 1
    simp only [List.getElem?_toArray, List.getElem?_cons_zero, List.getElem?_cons_succ] at c0 c1
    have HBQ := Lib.hid hb5
    clear hb5 hsl
    go_wp2_with fail
    refine (find15_any ps pl (HO4.out.ext HW5.out.2.2) HCL.out).mono ?_
    rintro e w6 ⟨k, is, rfl, hf, hE6⟩
    have HF := Lib.hid hf
    have hb6 := heap_ext HBQ.out hE6
    have hb7 := heap_ext HB5.out hE6
    have d0 := cell_of_heap hb6 0
    have d1 := cell_of_heap hb6 1
    have d2 := cell_of_heap hb7 0
    have d3 := cell_of_heap hb7 1
    simp only [List.getElem?_toArray, List.getElem?_cons_zero, List.getElem?_cons_succ] at d0 d1 d2 d3
    have HE6 := Lib.hid (HW5.out.2.2.trans hE6)
    clear hf hE6 hb6 hb7 c0 c1
    go_wp2_with fail
    refine (HREF.out w6 HE6.out).mono ?_
    rintro e w7 ⟨k2, is2, rfl, hf2, hE7⟩
    obtain ⟨rfl, rfl⟩ := Ord.find_same HOK.out HF.out hf2
    have HE7 := Lib.hid (HE6.out.trans hE7)
    clear hf2 hE7 d0 d1 d2 d3 HF
    have hkk : ((is != is)) = false := by simp
    go_wp2_with fail
    refine (len15_any (HO4.out.ext HE7.out)).mono ?_
    rintro e w8 ⟨rfl, hE8⟩
    have HE8 := Lib.hid (HE7.out.trans hE8)
    clear hE8
    rw [HS.out]
    go_wp2_with fail
    go_loopw [14, 15, 16, 17, 18, 69] (fun _ _ _ _ _ i wr => ∃ j : Nat, j ≤ S ∧ i = .int .i64 j ∧ Hid (Ext w4 wr)) (fun _ _ _ _ _ i _ => S - (intOf i).toNat)
    case atStart => exact ⟨0, by omega, rfl, HE8⟩
    case round =>
      obtain ⟨j, hj, rfl, hI⟩ := hrel
      by_cases hlt : j < S
      · go_wp2_with fail
        refine (at15_any (j : Int) (HO4.out.ext hI.out) HCL.out).mono ?_
        rintro e w9 ⟨s, t, is9, rfl, hat, hE9⟩
        obtain ⟨rfl, hrow⟩ := Ord.at_in hat (by rw [HS.out]; omega)
        obtain ⟨w10, hw10⟩ : ∃ z, w9.alloc (.cells #[.int .i64 s, .int .i64 t] 36) = z := ⟨_, rfl⟩
        obtain ⟨r, hr⟩ : ∃ z, w9.heap.size = z := ⟨_, rfl⟩
        have hE10 : Ext w9 w10 := by rw [← hw10]; exact Ext.alloc _ _
        have hB10 : w10.heap[r]? = some (.cells #[.int .i64 s, .int .i64 t] 36 (0, 0)) := by rw [← hw10, ← hr]; exact heap_alloc_new _ _
        have HW10 := Lib.hid (And.intro hw10 hr)
        have HE10 := Lib.hid (hI.out.trans (hE9.trans hE10))
        have HROW := Lib.hid hrow
        have c0 := cell_of_heap hB10 0
        have c1 := cell_of_heap hB10 1
        simp only [List.getElem?_toArray, List.getElem?_cons_zero, List.getElem?_cons_succ] at c0 c1
        clear hat hrow hE9 hE10 hB10 hw10 hr
        go_upto_region 13 with fail
        rw [HW10.out.1, HW10.out.2]
        go_wp2_with fail
        refine (find15_any s t (HO4.out.ext HE10.out) HCL.out).mono ?_
        rintro e w11 ⟨k3, is3, rfl, hf3, hE11⟩
        obtain ⟨rfl, rfl⟩ := Ord.find_in HOK.out hf3 HROW.out
        have HE11 := Lib.hid (HE10.out.trans hE11)
        clear hf3 hE11 c0 c1
        go_wp2_with fail
        go_roundw
        case rel => exact ⟨j + 1, by omega, by simp, HE11⟩
        case measure => simp [intOf]; omega
      · go_wp2_with fail
        refine (at15_any (-1) (HO4.out.ext hI.out) HCL.out).mono ?_
        rintro e w9 ⟨s, t, is9, rfl, hat, hE9⟩
        obtain ⟨rfl, rfl, rfl⟩ := Ord.at_out HOK.out hat (.inl (by omega))
        have HE9 := Lib.hid (hI.out.trans hE9)
        clear hat hE9
        obtain ⟨w10, hw10⟩ : ∃ z, w9.alloc (.cells #[.int .i64 0, .int .i64 0] 36) = z := ⟨_, rfl⟩
        have HE10 := Lib.hid (HE9.out.trans (show Ext w9 w10 by rw [← hw10]; exact Ext.alloc _ _))
        have HW10 := Lib.hid hw10
        clear hw10
        go_upto_region 18 with fail
        rw [HW10.out]
        go_wp2_with fail
        refine (len15_any (HO4.out.ext HE10.out)).mono ?_
        rintro e w11 ⟨rfl, hE11⟩
        have HE11 := Lib.hid (HE10.out.trans hE11)
        clear hE11
        go_wp2_with fail
        refine (at15_any _ (HO4.out.ext HE11.out) HCL.out).mono ?_
        rintro e w12 ⟨s, t, is9, rfl, hat, hE12⟩
        obtain ⟨rfl, rfl, rfl⟩ := Ord.at_out HOK.out hat (.inr (Int.le_refl _))
        have HE12 := Lib.hid (HE11.out.trans hE12)
        clear hat hE12
        obtain ⟨w13, hw13⟩ : ∃ z, w12.alloc (.cells #[.int .i64 0, .int .i64 0] 36) = z := ⟨_, rfl⟩
        have HE13 := Lib.hid (HE12.out.trans (show Ext w12 w13 by rw [← hw13]; exact Ext.alloc _ _))
        have HW13 := Lib.hid hw13
        clear hw13
        go_upto_region 19 with fail
        rw [HW13.out]
        go_wp2_with fail
        refine (alive15_any _).mono ?_
        rintro e w14 ⟨rfl, hE14⟩
        have HF := Lib.hid (HE4.out.trans (HE13.out.trans hE14))
        clear hE14
        go_wp2_with fail
        go_ret
        exact ⟨rfl, HF.out⟩

namespace orderFinds
theorem own : ownKnob Try.prog.godebug = none := by kernel_rfl
theorem laidOut : laidOutB Try.prog = true := by kernel_rfl
set_option linter.unusedVariables false in
set_option maxRecDepth 100000 in
theorem lifted (os : Os) (started : os.Started) (H : Type) (enc : TypeId × Value → H) :
    ReturnsInHanded {} Try.checked os 3 .any (Rows.orderFindsSpec.pre6 enc Try.prog Try.f3 Rows.orderFindsRow.domain false) (Rows.orderFindsSpec.post enc Try.prog Try.f3 false true false false) := by
  refine returnsInHanded_of_change_sized (C := Try.checked) own started (by kernel_rfl) Try.func3
    (ChangeSpec.witness6 (enc := enc) (C := Try.checked) false ⟨#[], #[.int .i64 0, .slice none 0 0, .agg #[.int .i64 0, .int .i64 0]], []⟩ 8 (by kernel_rfl) (by kernel_rfl) (by kernel_rfl) (by kernel_rfl)) ?_
  intro W base args ds gs before hval0 hW hcnd hsz _
  have hval : ∀ (j : Nat) t v, Try.f3.params[j]? = some t → args[j]? = some v → Value.okWide Try.prog W .any base t v := hval0
  have hW' := hW
  obtain ⟨p, q, hA0, hV, rfl, hfz, hnd⟩ := hW'
  have hA : DataW.TrodAll enc Try.prog W 0 (fun _ => true) true Try.f3.params.toList args.toList ds p := hA0
  rw [Try.params3] at hA hval
  obtain ⟨v0, vs0, d0, ds0, p0, q0, hargs, rfl, rfl, h0, r0⟩ := trodAll_cons hA
  obtain ⟨v1, vs1, d1, ds1, p1, q1, rfl, rfl, rfl, h1, r1⟩ := trodAll_cons r0
  obtain ⟨v2, vs2, d2, ds2, p2, q2, rfl, rfl, rfl, h2, r2⟩ := trodAll_cons r1
  obtain ⟨rfl, rfl, rfl⟩ := trodAll_nil r2
  obtain rfl : args = #[v0, v1, v2] := by cases args; simp_all
  obtain ⟨rfl, rfl⟩ := trodVars_none hV
  have k0 := h0
  have lt0 : ∀ x ∈ p0, x.block < W.heap.size := by obtain ⟨m, hm⟩ := k0; exact DataW.trod_lt m _ _ _ hm
  obtain ⟨a0, rfl, _, _, w0⟩ := open_int Try.underlying3 (hval 0 3 v0 rfl rfl) h0
  have k1 := h1
  have lt1 : ∀ x ∈ p1, x.block < W.heap.size := by obtain ⟨m, hm⟩ := k1; exact DataW.trod_lt m _ _ _ hm
  obtain ⟨a1, len1, cap1, rfl⟩ := okWide_slice Try.underlying22 (hval 1 22 v1 rfl rfl)
  obtain ⟨l1, w1, f1⟩ : ∃ l, Ents W (.slice a1 len1 cap1) l ∧ ∀ e ∈ l, e.cut.length ≤ 17592186043904 := by
    obtain ⟨fuel, hf⟩ := h1
    obtain ⟨v, l, hcs, hb, hft⟩ := entsl_of_raw (x := (d1, p1)) hf (fun m hm => of_decide_eq_true (List.all_eq_true.1 hsz _ (DataW.weights_mem_each (j := 1) (by rw [Try.params3]; rfl) rfl m hm)))
    simp [Value.cells] at hcs
    subst hcs
    exact ⟨l, hb, hft⟩
  have sz1 : len1 * 64 ≤ 140737488351232 := by obtain ⟨fuel, hf⟩ := h1; exact reach_of_raw (P := Try.prog) (x := (d1, p1)) (j := 1) hsz (by rw [Try.params3]; rfl) rfl Try.underlying22 (by kernel_rfl) hf
  have k2 := h2
  have lt2 : ∀ x ∈ p2, x.block < W.heap.size := by obtain ⟨m, hm⟩ := k2; exact DataW.trod_lt m _ _ _ hm
  obtain ⟨l2, rfl⟩ := place_arg15 (hval 2 24 v2 rfl rfl) h2
  clear hA0 hval0
  refine (orderFinds_walk a0 a1 len1 cap1 l1 l2 W w1 sz1 f1).mono fun e W' ⟨he, bel⟩ => ?_
  subst he
  exact ⟨_, rfl, _, _, _, [], _, [], hW, trodAll_mk1 (shut_bool Try.underlying4 _), (trodAll_cons_mk (Below.trod laidOut (by kernel_rfl) (of_decide_eq_true (by kernel_rfl)) k0 bel lt0) (trodAll_cons_mk (Below.trod laidOut (by kernel_rfl) (of_decide_eq_true (by kernel_rfl)) k1 bel lt1) (trodAll_cons_mk (Below.trod laidOut (by kernel_rfl) (of_decide_eq_true (by kernel_rfl)) k2 bel lt2) trodAll_mk0))), rfl, bel.frame _, fun h => by cases h⟩
theorem over : Rows.orderFindsRow.holds Try.pinned (OpenSpec.ofChange Rows.orderFindsSpec) :=
  OpenClaim.holds_of_wide 3 Try.f3 rfl rfl rfl rfl rfl rfl rfl ⟨rfl, rfl, rfl, rfl, rfl⟩ rfl rfl rfl rfl rfl (by kernel_rfl) Try.func3 (by kernel_rfl)
    (of_decide_eq_true (by kernel_rfl)) (by unfold Func.isWrapper; first | (rw [if_pos (by decide +kernel)]; kernel_rfl) | (rw [if_neg (by decide +kernel)]; exact ⟨rfl, rfl⟩))
    (fun os started H enc _ => lifted os started H enc)
theorem proved : Rows.OrderFindsSaid := over
end orderFinds
end Go.Proofs.Ytnldbdgchkknpaa
