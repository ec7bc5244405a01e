/-
  Merged: Layer 14, the program: records.
-/
import Derived.Test.YtkpcmedmiiohnaaBsRgD

namespace Go.Proofs.Ytkpcmedmiiohnaa
set_option linter.unusedSimpArgs false
set_option linter.unusedVariables false
set_option maxRecDepth 100000
open Go.RowKit
/- Layer 14, the program: records; which cuts do not fit (the closure of Install). -/
set_option maxHeartbeats 4000000 in
theorem records14_any (s d tl : Value) (c : Term.C) (l : List Ent.E) (st : Int) (w : World) (hs : ∃ a n k, s = .slice a n k) (hd : IRows w d c.shards) (ht : Ents w tl l) (hr : Vec.right (Ent.lastOf l (zeros c.shards.length)) = true) :
    Calls Try.prog 36 #[.agg #[.int .i64 c.term, s, d, tl, .int .i64 st]] w fun e w' => e = .returned (.int .i64 (Reg.many c l)) ∧ Ext w w' := by
  obtain ⟨sa, sn, sc, rfl⟩ := hs
  obtain ⟨da, dc, rfl, _⟩ := hd.open
  obtain ⟨ta, tc, rfl, _⟩ := ht.shape
  have HT := Lib.hid ht
  unfold Reg.many
  obtain ⟨N, hN⟩ : ∃ z, c.shards.length = z := ⟨_, rfl⟩
  obtain ⟨T, hT⟩ : ∃ z, c.term = z := ⟨_, rfl⟩
  obtain ⟨m, hm⟩ : ∃ z, l.length = z := ⟨_, rfl⟩
  rw [hN] at hr ⊢
  rw [hT]
  rw [hm] at HT ⊢
  obtain ⟨X, hX⟩ : ∃ z, Ent.lastOf l (zeros (N : Int)) = z := ⟨_, rfl⟩
  have HX := Lib.hid hX
  rw [hX] at hr ⊢
  have HR := Lib.hid hr
  have hx8 := (Vec.right_ok hr).2.2
  obtain ⟨q, hq⟩ : ∃ q, w.heap.size = q := ⟨_, rfl⟩
  obtain ⟨w1, hw1⟩ : ∃ z, w.alloc (.cells #[.int .i64 T, .slice sa sn sc, .slice da N dc, .slice ta m tc, .int .i64 st] 68) = z := ⟨_, rfl⟩
  have hE1 : Ext w w1 := by rw [← hw1]; exact Ext.alloc _ _
  have hB1 : w1.heap[q]? = some (.cells #[.int .i64 T, .slice sa sn sc, .slice da N dc, .slice ta m tc, .int .i64 st] 68 (0, 0)) := by rw [← hw1, ← hq]; exact heap_alloc_new _ _
  have c2 := cell_of_heap hB1 2
  have c3 := cell_of_heap hB1 3
  simp only [List.getElem?_toArray, List.getElem?_cons_zero, List.getElem?_cons_succ] at c2 c3
  have HW := Lib.hid (And.intro hq (And.intro hw1 hE1))
  clear ht hd hN hT hm hX hr hq hw1 hE1 hB1
  go_enter Try.func36, Try.ntmps36
  go_upto_region 2 with fail
  rw [HW.out.1, HW.out.2.1]
  go_wp2_with fail
  refine (last5_any _ l (N : Int) w1 (HT.out.below HW.out.2.2)).mono ?_
  rintro e w2 ⟨u, rfl, hu, hE2⟩
  rw [HX.out] at hu
  obtain ⟨ua, uc, rfl, _, hum, _, huc⟩ := hu.open
  unfold maxLen at hum
  have HU := Lib.hid huc
  have HE2 := Lib.hid (HW.out.2.2.trans hE2)
  clear hu huc hE2 c2 c3
  go_wp2_with fail
  go_loopw [3, 5, 14] (fun n _ i wr => ∃ k : Nat, k ≤ X.length ∧ i = .int .i64 k ∧ n = .int .i64 (X.take k).sum ∧ wr = w2) (fun _ _ i _ => X.length - (intOf i).toNat)
  case atStart => exact ⟨0, by omega, rfl, by simp, rfl⟩
  case round =>
    obtain ⟨k, hk, rfl, rfl, rfl⟩ := hrel
    by_cases hlt : k < X.length
    · obtain ⟨b, off, rfl, hcell⟩ := HU.out k hlt
      have h1 := sum_take_bound HR.out k
      have h2 := sum_take_bound HR.out (k + 1)
      have h3 : (X.take (k + 1)).sum = (X.take k).sum + X[k] := by rw [take_succ_getD X k hlt, List.sum_append]; simp
      obtain ⟨S, hS⟩ : ∃ z, (X.take k).sum = z := ⟨_, rfl⟩
      obtain ⟨y, hy⟩ : ∃ z, X[k] = z := ⟨_, rfl⟩
      rw [hy] at hcell h3
      rw [hS] at h1 h3 ⊢
      have HS := Lib.hid h3
      have hw : IntKind.i64.wrap (S + y) = S + y := IntWalk.i64_in _ (by omega)
      clear h2 h3 hS hy
      go_wp2_with fail
      go_roundw
      case rel => exact ⟨k + 1, by omega, by simp, by rw [HS.out], by trivial⟩
      case measure => simp [intOf]; omega
    · obtain rfl : k = X.length := by omega
      have hall : (X.take X.length).sum = X.sum := by rw [List.take_length]
      have HALL := Lib.hid hall
      clear hall
      go_wp2_with fail
      go_ret
      exact ⟨by simp [HALL.out], HE2.out⟩

/-- The term ahead as the closure reads it. -/
def AheadAt (w : World) (q : Nat) (o : Option Term.C) : Prop := match o with
  | none => w.cell? ⟨q, 0, none⟩ = some (.pointer none)
  | some c => ∃ g i a k, w.cell? ⟨q, 0, none⟩ = some (.pointer (some ⟨g, i, none⟩)) ∧ w.cell? ⟨g, i + 2, none⟩ = some (.slice a c.shards.length k)
theorem AheadAt.ext {w w' : World} {q : Nat} {o : Option Term.C} (h : AheadAt w q o) (hE : Ext w w') : AheadAt w' q o := by
  cases o with
  | none => exact cellExt hE h
  | some c =>
    obtain ⟨g, i, a, k, h1, h2⟩ := h
    exact ⟨g, i, a, k, cellExt hE h1, cellExt hE h2⟩
def Reg.misfitO (o : Option Term.C) (e : Ent.E) : Bool := match o with
  | none => false
  | some c => Reg.misfit c e
set_option maxHeartbeats 4000000 in
theorem misfit14_any (v : Value) (e : Ent.E) (o : Option Term.C) (q : Nat) (w : World) (hv : IsEnt w v e) (hq : AheadAt w q o) :
    Calls Try.prog 30 #[v, .pointer (some ⟨q, 0, none⟩)] w fun x w' => x = .returned (.bool (Reg.misfitO o e)) ∧ Ext w w' := by
  obtain ⟨N, K, ct, t3, t4, t5⟩ := e
  obtain ⟨tv, rfl, hti⟩ := hv
  obtain ⟨ta, tc, rfl, _⟩ := hti.open
  unfold entV
  simp only
  obtain ⟨m, hm⟩ : ∃ z, ct.length = z := ⟨_, rfl⟩
  rw [hm]
  obtain ⟨r, hr⟩ : ∃ r, w.heap.size = r := ⟨_, rfl⟩
  obtain ⟨w1, hw1⟩ : ∃ w1, w.alloc (.cells #[.int .i64 N, .int .i64 K, .slice ta m tc, .int .i64 t3, .int .i64 t4, .int .i64 t5] 63) = w1 := ⟨_, rfl⟩
  have hE1 : Ext w w1 := by rw [← hw1]; exact Ext.alloc _ _
  have HB := Lib.hid (show w1.heap[r]? = some (.cells #[.int .i64 N, .int .i64 K, .slice ta m tc, .int .i64 t3, .int .i64 t4, .int .i64 t5] 63 (0, 0)) by rw [← hw1, ← hr]; exact heap_alloc_new _ _)
  have HQ := Lib.hid (hq.ext hE1)
  have HW := Lib.hid (And.intro hr (And.intro hw1 hE1))
  have HM := Lib.hid hm
  clear hti hr hw1 hE1 hq hm
  go_enter Try.func30, Try.ntmps30
  go_upto_region 1 with fail
  rw [HW.out.1, HW.out.2.1]
  cases o with
  | none =>
    have HQ1 := Lib.hid (show w1.cell? ⟨q, 0, none⟩ = some (.pointer none) from HQ.out)
    refine wp_region_facts (by kernel_rfl) Ext (fun iop v w => match iop with
        | 0 => v = .pointer none
        | 1 => v = .bool false
        | 2 => v = .bool false
        | 3 => v = undef
        | 4 => v = undef
        | 5 => v = undef
        | 6 => v = .bool false
        | 7 => v = .bool false
        | 8 => v = undef
        | 9 => v = undef
        | 10 => v = undef
        | 11 => v = undef
        | 12 => v = undef
        | 13 => v = undef
        | 14 => v = undef
        | 15 => v = undef
        | 16 => v = undef
        | 17 => v = undef
        | 18 => v = .bool false
        | _ => v = .bool false
        ) (by kernel_rfl) (fun _ _ _ h k => Ext.trans h k) (fun a => Ext.refl a) (Ext.drew _) ?_ ?_ ?_
    · intro iop v wa wb hF hL
      iterate 19 (rcases iop with _ | iop; exact hF)
      exact hF
    · refine Obls.cons ?_ (Obls.cons ?_ (Obls.cons ?_ (Obls.cons ?_ (Obls.cons ?_ (Obls.cons ?_ (Obls.cons ?_ (Obls.cons ?_ (Obls.cons ?_ (Obls.cons ?_ (Obls.cons ?_ (Obls.cons ?_ (Obls.cons ?_ (Obls.cons ?_ (Obls.cons ?_ (Obls.cons ?_ (Obls.cons ?_ (Obls.cons ?_ (Obls.cons ?_ (Obls.cons ?_ (Obls.nil))))))))))))))))))))
      · intro ev wy hp hl hk hd
        have e1 : ev _ = .pointer (some ⟨q, 0, none⟩) := hk 1 (by decide)
        exact Yield.op (v := .pointer none) (w' := wy) (by simp [execOp, go_sem, e1, cellExt hl HQ1.out]) ⟨Ext.refl _, rfl⟩
      · intro ev wy hp hl hk hd
        have e4 : ev _ = _ := hk 4 (by decide)
        exact Yield.op (v := .bool false) (w' := wy) (by simp [execOp, go_sem, e4, hp.const]) ⟨Ext.refl _, rfl⟩
      · intro ev wy hp hl hk hd
        have e5 : ev _ = _ := hk 5 (by decide)
        exact Yield.mv rfl ⟨Ext.refl _, e5⟩
      · intro ev wy hp hl hk hd
        have e2 : ev _ = .pointer (some ⟨r, 0, none⟩) := hk 2 (by decide)
        exact ⟨fun x hx he => (by rw [show x = .bool false from hx] at he; cases he), fun _ _ _ => rfl⟩
      · intro ev wy hp hl hk hd
        have e7 : ev _ = _ := hk 7 (by decide)
        exact ⟨fun x hx he => (by rw [show x = .bool false from hx] at he; cases he), fun _ _ _ => rfl⟩
      · intro ev wy hp hl hk hd
        have e8 : ev _ = _ := hk 8 (by decide)
        exact ⟨fun x hx he => (by rw [show x = .bool false from hx] at he; cases he), fun _ _ _ => rfl⟩
      · intro ev wy hp hl hk hd
        have e6 : ev _ = _ := hk 6 (by decide)
        have e9 : ev _ = _ := hk 9 (by decide)
        exact Yield.pick (t := false) rfl e6 ⟨Ext.refl _, hp.const _⟩
      · intro ev wy hp hl hk hd
        have e10 : ev _ = _ := hk 10 (by decide)
        exact Yield.mv rfl ⟨Ext.refl _, e10⟩
      · intro ev wy hp hl hk hd
        have e2 : ev _ = .pointer (some ⟨r, 0, none⟩) := hk 2 (by decide)
        exact ⟨fun x hx he => (by rw [show x = .bool false from hx] at he; cases he), fun _ _ _ => rfl⟩
      · intro ev wy hp hl hk hd
        have e12 : ev _ = _ := hk 12 (by decide)
        exact ⟨fun x hx he => (by rw [show x = .bool false from hx] at he; cases he), fun _ _ _ => rfl⟩
      · intro ev wy hp hl hk hd
        have e13 : ev _ = _ := hk 13 (by decide)
        exact ⟨fun x hx he => (by rw [show x = .bool false from hx] at he; cases he), fun _ _ _ => rfl⟩
      · intro ev wy hp hl hk hd
        have e1 : ev _ = .pointer (some ⟨q, 0, none⟩) := hk 1 (by decide)
        exact ⟨fun x hx he => (by rw [show x = .bool false from hx] at he; cases he), fun _ _ _ => rfl⟩
      · intro ev wy hp hl hk hd
        have e15 : ev _ = _ := hk 15 (by decide)
        exact ⟨fun x hx he => (by rw [show x = .bool false from hx] at he; cases he), fun _ _ _ => rfl⟩
      · intro ev wy hp hl hk hd
        have e16 : ev _ = _ := hk 16 (by decide)
        exact ⟨fun x hx he => (by rw [show x = .bool false from hx] at he; cases he), fun _ _ _ => rfl⟩
      · intro ev wy hp hl hk hd
        have e17 : ev _ = _ := hk 17 (by decide)
        exact ⟨fun x hx he => (by rw [show x = .bool false from hx] at he; cases he), fun _ _ _ => rfl⟩
      · intro ev wy hp hl hk hd
        have e18 : ev _ = _ := hk 18 (by decide)
        exact ⟨fun x hx he => (by rw [show x = .bool false from hx] at he; cases he), fun _ _ _ => rfl⟩
      · intro ev wy hp hl hk hd
        have e19 : ev _ = _ := hk 19 (by decide)
        exact ⟨fun x hx he => (by rw [show x = .bool false from hx] at he; cases he), fun _ _ _ => rfl⟩
      · intro ev wy hp hl hk hd
        have e14 : ev _ = _ := hk 14 (by decide)
        have e20 : ev _ = _ := hk 20 (by decide)
        exact ⟨fun x hx he => (by rw [show x = .bool false from hx] at he; cases he), fun _ _ _ => rfl⟩
      · intro ev wy hp hl hk hd
        have e11 : ev _ = _ := hk 11 (by decide)
        have e21 : ev _ = _ := hk 21 (by decide)
        exact Yield.pick (t := false) rfl e11 ⟨Ext.refl _, hp.const _⟩
      · intro ev wy hp hl hk hd
        have e22 : ev _ = _ := hk 22 (by decide)
        exact Yield.as rfl ⟨Ext.refl _, e22⟩
    · intro vals wz hz hv
      have g4 : vals 0 = _ := hv 0 (by decide)
      have g5 : vals 1 = _ := hv 1 (by decide)
      have g6 : vals 2 = _ := hv 2 (by decide)
      have g7 : vals 3 = _ := hv 3 (by decide)
      have g8 : vals 4 = _ := hv 4 (by decide)
      have g9 : vals 5 = _ := hv 5 (by decide)
      have g10 : vals 6 = _ := hv 6 (by decide)
      have g11 : vals 7 = _ := hv 7 (by decide)
      have g12 : vals 8 = _ := hv 8 (by decide)
      have g13 : vals 9 = _ := hv 9 (by decide)
      have g14 : vals 10 = _ := hv 10 (by decide)
      have g15 : vals 11 = _ := hv 11 (by decide)
      have g16 : vals 12 = _ := hv 12 (by decide)
      have g17 : vals 13 = _ := hv 13 (by decide)
      have g18 : vals 14 = _ := hv 14 (by decide)
      have g19 : vals 15 = _ := hv 15 (by decide)
      have g20 : vals 16 = _ := hv 16 (by decide)
      have g21 : vals 17 = _ := hv 17 (by decide)
      have g22 : vals 18 = _ := hv 18 (by decide)
      have g3 : vals 19 = _ := hv 19 (by decide)
      clear hv
      simp only [putAll, Act.put, List.setIfInBounds_toArray, List.set_cons_zero, List.set_cons_succ, g4, g5, g6, g7, g8, g9, g10, g11, g12, g13, g14, g15, g16, g17, g18, g19, g20, g21, g22, g3]
      clear g4 g5 g6 g7 g8 g9 g10 g11 g12 g13 g14 g15 g16 g17 g18 g19 g20 g21 g22 g3
      go_wp2_with fail
      go_ret
      exact ⟨rfl, HW.out.2.2.trans hz⟩
  | some c =>
    obtain ⟨g, i, ga, gk, hq1, hq2⟩ := HQ.out
    obtain ⟨sh, hsh⟩ : ∃ z, c.shards.length = z := ⟨_, rfl⟩
    rw [hsh] at hq2
    have HQ1 := Lib.hid hq1
    have HQ2 := Lib.hid hq2
    have HSH := Lib.hid hsh
    clear hq1 hq2 hsh
    by_cases hkd : K = 1
    case neg =>
      have HRES := Lib.hid (show Reg.misfitO (some c) ⟨N, K, ct, t3, t4, t5⟩ = false by simp [Reg.misfitO, Reg.misfit, hkd])
      refine wp_region_facts (by kernel_rfl) Ext (fun iop v w => match iop with
          | 0 => v = .pointer (some ⟨g, i, none⟩)
          | 1 => v = .bool true
          | 2 => v = .bool true
          | 3 => v = .pointer (some ⟨r, 1, none⟩)
          | 4 => v = .int .i64 K
          | 5 => v = .bool false
          | 6 => v = .bool false
          | 7 => v = .bool false
          | 8 => v = undef
          | 9 => v = undef
          | 10 => v = undef
          | 11 => v = undef
          | 12 => v = undef
          | 13 => v = undef
          | 14 => v = undef
          | 15 => v = undef
          | 16 => v = undef
          | 17 => v = undef
          | 18 => v = .bool false
          | _ => v = .bool false
          ) (by kernel_rfl) (fun _ _ _ h k => Ext.trans h k) (fun a => Ext.refl a) (Ext.drew _) ?_ ?_ ?_
      · intro iop v wa wb hF hL
        iterate 19 (rcases iop with _ | iop; exact hF)
        exact hF
      · refine Obls.cons ?_ (Obls.cons ?_ (Obls.cons ?_ (Obls.cons ?_ (Obls.cons ?_ (Obls.cons ?_ (Obls.cons ?_ (Obls.cons ?_ (Obls.cons ?_ (Obls.cons ?_ (Obls.cons ?_ (Obls.cons ?_ (Obls.cons ?_ (Obls.cons ?_ (Obls.cons ?_ (Obls.cons ?_ (Obls.cons ?_ (Obls.cons ?_ (Obls.cons ?_ (Obls.cons ?_ (Obls.nil))))))))))))))))))))
        · intro ev wy hp hl hk hd
          have e1 : ev _ = .pointer (some ⟨q, 0, none⟩) := hk 1 (by decide)
          exact Yield.op (v := .pointer (some ⟨g, i, none⟩)) (w' := wy) (by simp [execOp, go_sem, e1, cellExt hl HQ1.out]) ⟨Ext.refl _, rfl⟩
        · intro ev wy hp hl hk hd
          have e4 : ev _ = _ := hk 4 (by decide)
          exact Yield.op (v := .bool true) (w' := wy) (by simp [execOp, go_sem, e4, hp.const]) ⟨Ext.refl _, rfl⟩
        · intro ev wy hp hl hk hd
          have e5 : ev _ = _ := hk 5 (by decide)
          exact Yield.mv rfl ⟨Ext.refl _, e5⟩
        · intro ev wy hp hl hk hd
          have e2 : ev _ = .pointer (some ⟨r, 0, none⟩) := hk 2 (by decide)
          refine ⟨fun _ _ _ => ?_, fun _ hx hne => absurd hx hne⟩
          exact Yield.op (v := .pointer (some ⟨r, 1, none⟩)) (w' := wy) (by simp [execOp, go_sem, e2]) ⟨Ext.refl _, rfl⟩
        · intro ev wy hp hl hk hd
          have e7 : ev _ = _ := hk 7 (by decide)
          refine ⟨fun _ _ _ => ?_, fun _ hx hne => absurd hx hne⟩
          exact Yield.op (v := .int .i64 K) (w' := wy) (by simp [execOp, go_sem, e7, cell_of_heap (heap_ext HB.out hl) 1]) ⟨Ext.refl _, rfl⟩
        · intro ev wy hp hl hk hd
          have e8 : ev _ = _ := hk 8 (by decide)
          refine ⟨fun _ _ _ => ?_, fun _ hx hne => absurd hx hne⟩
          exact Yield.op (v := .bool false) (w' := wy) (by simp [execOp, go_sem, e8, hp.const, hkd]) ⟨Ext.refl _, rfl⟩
        · intro ev wy hp hl hk hd
          have e6 : ev _ = _ := hk 6 (by decide)
          have e9 : ev _ = _ := hk 9 (by decide)
          exact Yield.pick (t := true) rfl e6 ⟨Ext.refl _, e9⟩
        · intro ev wy hp hl hk hd
          have e10 : ev _ = _ := hk 10 (by decide)
          exact Yield.mv rfl ⟨Ext.refl _, e10⟩
        · intro ev wy hp hl hk hd
          have e2 : ev _ = .pointer (some ⟨r, 0, none⟩) := hk 2 (by decide)
          exact ⟨fun x hx he => (by rw [show x = .bool false from hx] at he; cases he), fun _ _ _ => rfl⟩
        · intro ev wy hp hl hk hd
          have e12 : ev _ = _ := hk 12 (by decide)
          exact ⟨fun x hx he => (by rw [show x = .bool false from hx] at he; cases he), fun _ _ _ => rfl⟩
        · intro ev wy hp hl hk hd
          have e13 : ev _ = _ := hk 13 (by decide)
          exact ⟨fun x hx he => (by rw [show x = .bool false from hx] at he; cases he), fun _ _ _ => rfl⟩
        · intro ev wy hp hl hk hd
          have e1 : ev _ = .pointer (some ⟨q, 0, none⟩) := hk 1 (by decide)
          exact ⟨fun x hx he => (by rw [show x = .bool false from hx] at he; cases he), fun _ _ _ => rfl⟩
        · intro ev wy hp hl hk hd
          have e15 : ev _ = _ := hk 15 (by decide)
          exact ⟨fun x hx he => (by rw [show x = .bool false from hx] at he; cases he), fun _ _ _ => rfl⟩
        · intro ev wy hp hl hk hd
          have e16 : ev _ = _ := hk 16 (by decide)
          exact ⟨fun x hx he => (by rw [show x = .bool false from hx] at he; cases he), fun _ _ _ => rfl⟩
        · intro ev wy hp hl hk hd
          have e17 : ev _ = _ := hk 17 (by decide)
          exact ⟨fun x hx he => (by rw [show x = .bool false from hx] at he; cases he), fun _ _ _ => rfl⟩
        · intro ev wy hp hl hk hd
          have e18 : ev _ = _ := hk 18 (by decide)
          exact ⟨fun x hx he => (by rw [show x = .bool false from hx] at he; cases he), fun _ _ _ => rfl⟩
        · intro ev wy hp hl hk hd
          have e19 : ev _ = _ := hk 19 (by decide)
          exact ⟨fun x hx he => (by rw [show x = .bool false from hx] at he; cases he), fun _ _ _ => rfl⟩
        · intro ev wy hp hl hk hd
          have e14 : ev _ = _ := hk 14 (by decide)
          have e20 : ev _ = _ := hk 20 (by decide)
          exact ⟨fun x hx he => (by rw [show x = .bool false from hx] at he; cases he), fun _ _ _ => rfl⟩
        · intro ev wy hp hl hk hd
          have e11 : ev _ = _ := hk 11 (by decide)
          have e21 : ev _ = _ := hk 21 (by decide)
          exact Yield.pick (t := false) rfl e11 ⟨Ext.refl _, hp.const _⟩
        · intro ev wy hp hl hk hd
          have e22 : ev _ = _ := hk 22 (by decide)
          exact Yield.as rfl ⟨Ext.refl _, e22⟩
      · intro vals wz hz hv
        have g4 : vals 0 = _ := hv 0 (by decide)
        have g5 : vals 1 = _ := hv 1 (by decide)
        have g6 : vals 2 = _ := hv 2 (by decide)
        have g7 : vals 3 = _ := hv 3 (by decide)
        have g8 : vals 4 = _ := hv 4 (by decide)
        have g9 : vals 5 = _ := hv 5 (by decide)
        have g10 : vals 6 = _ := hv 6 (by decide)
        have g11 : vals 7 = _ := hv 7 (by decide)
        have g12 : vals 8 = _ := hv 8 (by decide)
        have g13 : vals 9 = _ := hv 9 (by decide)
        have g14 : vals 10 = _ := hv 10 (by decide)
        have g15 : vals 11 = _ := hv 11 (by decide)
        have g16 : vals 12 = _ := hv 12 (by decide)
        have g17 : vals 13 = _ := hv 13 (by decide)
        have g18 : vals 14 = _ := hv 14 (by decide)
        have g19 : vals 15 = _ := hv 15 (by decide)
        have g20 : vals 16 = _ := hv 16 (by decide)
        have g21 : vals 17 = _ := hv 17 (by decide)
        have g22 : vals 18 = _ := hv 18 (by decide)
        have g3 : vals 19 = _ := hv 19 (by decide)
        clear hv
        simp only [putAll, Act.put, List.setIfInBounds_toArray, List.set_cons_zero, List.set_cons_succ, g4, g5, g6, g7, g8, g9, g10, g11, g12, g13, g14, g15, g16, g17, g18, g19, g20, g21, g22, g3]
        clear g4 g5 g6 g7 g8 g9 g10 g11 g12 g13 g14 g15 g16 g17 g18 g19 g20 g21 g22 g3
        go_wp2_with fail
        go_ret
        exact ⟨by rw [HRES.out]; rfl, HW.out.2.2.trans hz⟩
    case pos =>
      subst hkd
      obtain ⟨b, hb⟩ : ∃ z, decide (¬ m = sh) = z := ⟨_, rfl⟩
      have HRES := Lib.hid (show Reg.misfitO (some c) ⟨N, 1, ct, t3, t4, t5⟩ = b by rw [← hb]; simp [Reg.misfitO, Reg.misfit, HM.out, HSH.out])
      have HBB := Lib.hid (show (((m : Int) != (sh : Int)) : Bool) = b by
        rw [← hb]
        by_cases h : m = sh
        · simp [h]
        · have h2 : ¬ (m : Int) = (sh : Int) := by omega
          simp [h, h2])
      clear hb
      refine wp_region_facts (by kernel_rfl) Ext (fun iop v w => match iop with
          | 0 => v = .pointer (some ⟨g, i, none⟩)
          | 1 => v = .bool true
          | 2 => v = .bool true
          | 3 => v = .pointer (some ⟨r, 1, none⟩)
          | 4 => v = .int .i64 1
          | 5 => v = .bool true
          | 6 => v = .bool true
          | 7 => v = .bool true
          | 8 => v = .pointer (some ⟨r, 2, none⟩)
          | 9 => v = .slice ta m tc
          | 10 => v = .int .i64 (m : Nat)
          | 11 => v = .pointer (some ⟨g, i, none⟩)
          | 12 => v = .pointer (some ⟨g, i, none⟩)
          | 13 => v = .pointer (some ⟨g, i, none⟩)
          | 14 => v = .pointer (some ⟨g, i + 2, none⟩)
          | 15 => v = .slice ga sh gk
          | 16 => v = .int .i64 (sh : Nat)
          | 17 => v = .bool b
          | 18 => v = .bool b
          | _ => v = .bool b
          ) (by kernel_rfl) (fun _ _ _ h k => Ext.trans h k) (fun a => Ext.refl a) (Ext.drew _) ?_ ?_ ?_
      · intro iop v wa wb hF hL
        iterate 19 (rcases iop with _ | iop; exact hF)
        exact hF
      · refine Obls.cons ?_ (Obls.cons ?_ (Obls.cons ?_ (Obls.cons ?_ (Obls.cons ?_ (Obls.cons ?_ (Obls.cons ?_ (Obls.cons ?_ (Obls.cons ?_ (Obls.cons ?_ (Obls.cons ?_ (Obls.cons ?_ (Obls.cons ?_ (Obls.cons ?_ (Obls.cons ?_ (Obls.cons ?_ (Obls.cons ?_ (Obls.cons ?_ (Obls.cons ?_ (Obls.cons ?_ (Obls.nil))))))))))))))))))))
        · intro ev wy hp hl hk hd
          have e1 : ev _ = .pointer (some ⟨q, 0, none⟩) := hk 1 (by decide)
          exact Yield.op (v := .pointer (some ⟨g, i, none⟩)) (w' := wy) (by simp [execOp, go_sem, e1, cellExt hl HQ1.out]) ⟨Ext.refl _, rfl⟩
        · intro ev wy hp hl hk hd
          have e4 : ev _ = _ := hk 4 (by decide)
          exact Yield.op (v := .bool true) (w' := wy) (by simp [execOp, go_sem, e4, hp.const]) ⟨Ext.refl _, rfl⟩
        · intro ev wy hp hl hk hd
          have e5 : ev _ = _ := hk 5 (by decide)
          exact Yield.mv rfl ⟨Ext.refl _, e5⟩
        · intro ev wy hp hl hk hd
          have e2 : ev _ = .pointer (some ⟨r, 0, none⟩) := hk 2 (by decide)
          refine ⟨fun _ _ _ => ?_, fun _ hx hne => absurd hx hne⟩
          exact Yield.op (v := .pointer (some ⟨r, 1, none⟩)) (w' := wy) (by simp [execOp, go_sem, e2]) ⟨Ext.refl _, rfl⟩
        · intro ev wy hp hl hk hd
          have e7 : ev _ = _ := hk 7 (by decide)
          refine ⟨fun _ _ _ => ?_, fun _ hx hne => absurd hx hne⟩
          exact Yield.op (v := .int .i64 1) (w' := wy) (by simp [execOp, go_sem, e7, cell_of_heap (heap_ext HB.out hl) 1]) ⟨Ext.refl _, rfl⟩
        · intro ev wy hp hl hk hd
          have e8 : ev _ = _ := hk 8 (by decide)
          refine ⟨fun _ _ _ => ?_, fun _ hx hne => absurd hx hne⟩
          exact Yield.op (v := .bool true) (w' := wy) (by simp [execOp, go_sem, e8, hp.const]) ⟨Ext.refl _, rfl⟩
        · intro ev wy hp hl hk hd
          have e6 : ev _ = _ := hk 6 (by decide)
          have e9 : ev _ = _ := hk 9 (by decide)
          exact Yield.pick (t := true) rfl e6 ⟨Ext.refl _, e9⟩
        · intro ev wy hp hl hk hd
          have e10 : ev _ = _ := hk 10 (by decide)
          exact Yield.mv rfl ⟨Ext.refl _, e10⟩
        · intro ev wy hp hl hk hd
          have e2 : ev _ = .pointer (some ⟨r, 0, none⟩) := hk 2 (by decide)
          refine ⟨fun _ _ _ => ?_, fun _ hx hne => absurd hx hne⟩
          exact Yield.op (v := .pointer (some ⟨r, 2, none⟩)) (w' := wy) (by simp [execOp, go_sem, e2]) ⟨Ext.refl _, rfl⟩
        · intro ev wy hp hl hk hd
          have e12 : ev _ = _ := hk 12 (by decide)
          refine ⟨fun _ _ _ => ?_, fun _ hx hne => absurd hx hne⟩
          exact Yield.op (v := .slice ta m tc) (w' := wy) (by simp [execOp, go_sem, e12, cell_of_heap (heap_ext HB.out hl) 2]) ⟨Ext.refl _, rfl⟩
        · intro ev wy hp hl hk hd
          have e13 : ev _ = _ := hk 13 (by decide)
          refine ⟨fun _ _ _ => ?_, fun _ hx hne => absurd hx hne⟩
          exact Yield.op (v := .int .i64 (m : Nat)) (w' := wy) (by simp [execOp, go_sem, e13]) ⟨Ext.refl _, rfl⟩
        · intro ev wy hp hl hk hd
          have e1 : ev _ = .pointer (some ⟨q, 0, none⟩) := hk 1 (by decide)
          refine ⟨fun _ _ _ => ?_, fun _ hx hne => absurd hx hne⟩
          exact Yield.op (v := .pointer (some ⟨g, i, none⟩)) (w' := wy) (by simp [execOp, go_sem, e1, cellExt hl HQ1.out]) ⟨Ext.refl _, rfl⟩
        · intro ev wy hp hl hk hd
          have e15 : ev _ = _ := hk 15 (by decide)
          refine ⟨fun _ _ _ => ?_, fun _ hx hne => absurd hx hne⟩
          exact Yield.op (v := .pointer (some ⟨g, i, none⟩)) (w' := wy) (by simp [execOp, go_sem, e15]) ⟨Ext.refl _, rfl⟩
        · intro ev wy hp hl hk hd
          have e16 : ev _ = _ := hk 16 (by decide)
          refine ⟨fun _ _ _ => ?_, fun _ hx hne => absurd hx hne⟩
          exact Yield.op (v := .pointer (some ⟨g, i, none⟩)) (w' := wy) (by simp [execOp, go_sem, e16]) ⟨Ext.refl _, rfl⟩
        · intro ev wy hp hl hk hd
          have e17 : ev _ = _ := hk 17 (by decide)
          refine ⟨fun _ _ _ => ?_, fun _ hx hne => absurd hx hne⟩
          exact Yield.op (v := .pointer (some ⟨g, i + 2, none⟩)) (w' := wy) (by simp [execOp, go_sem, e17]) ⟨Ext.refl _, rfl⟩
        · intro ev wy hp hl hk hd
          have e18 : ev _ = _ := hk 18 (by decide)
          refine ⟨fun _ _ _ => ?_, fun _ hx hne => absurd hx hne⟩
          exact Yield.op (v := .slice ga sh gk) (w' := wy) (by simp [execOp, go_sem, e18, cellExt hl HQ2.out]) ⟨Ext.refl _, rfl⟩
        · intro ev wy hp hl hk hd
          have e19 : ev _ = _ := hk 19 (by decide)
          refine ⟨fun _ _ _ => ?_, fun _ hx hne => absurd hx hne⟩
          exact Yield.op (v := .int .i64 (sh : Nat)) (w' := wy) (by simp [execOp, go_sem, e19]) ⟨Ext.refl _, rfl⟩
        · intro ev wy hp hl hk hd
          have e14 : ev _ = _ := hk 14 (by decide)
          have e20 : ev _ = _ := hk 20 (by decide)
          refine ⟨fun _ _ _ => ?_, fun _ hx hne => absurd hx hne⟩
          exact Yield.op (v := .bool b) (w' := wy) (by have := HBB.out; simp [execOp, go_sem, e14, e20] at this ⊢; exact this) ⟨Ext.refl _, rfl⟩
        · intro ev wy hp hl hk hd
          have e11 : ev _ = _ := hk 11 (by decide)
          have e21 : ev _ = _ := hk 21 (by decide)
          exact Yield.pick (t := true) rfl e11 ⟨Ext.refl _, e21⟩
        · intro ev wy hp hl hk hd
          have e22 : ev _ = _ := hk 22 (by decide)
          exact Yield.as rfl ⟨Ext.refl _, e22⟩
      · intro vals wz hz hv
        have g4 : vals 0 = _ := hv 0 (by decide)
        have g5 : vals 1 = _ := hv 1 (by decide)
        have g6 : vals 2 = _ := hv 2 (by decide)
        have g7 : vals 3 = _ := hv 3 (by decide)
        have g8 : vals 4 = _ := hv 4 (by decide)
        have g9 : vals 5 = _ := hv 5 (by decide)
        have g10 : vals 6 = _ := hv 6 (by decide)
        have g11 : vals 7 = _ := hv 7 (by decide)
        have g12 : vals 8 = _ := hv 8 (by decide)
        have g13 : vals 9 = _ := hv 9 (by decide)
        have g14 : vals 10 = _ := hv 10 (by decide)
        have g15 : vals 11 = _ := hv 11 (by decide)
        have g16 : vals 12 = _ := hv 12 (by decide)
        have g17 : vals 13 = _ := hv 13 (by decide)
        have g18 : vals 14 = _ := hv 14 (by decide)
        have g19 : vals 15 = _ := hv 15 (by decide)
        have g20 : vals 16 = _ := hv 16 (by decide)
        have g21 : vals 17 = _ := hv 17 (by decide)
        have g22 : vals 18 = _ := hv 18 (by decide)
        have g3 : vals 19 = _ := hv 19 (by decide)
        clear hv
        simp only [putAll, Act.put, List.setIfInBounds_toArray, List.set_cons_zero, List.set_cons_succ, g4, g5, g6, g7, g8, g9, g10, g11, g12, g13, g14, g15, g16, g17, g18, g19, g20, g21, g22, g3]
        clear g4 g5 g6 g7 g8 g9 g10 g11 g12 g13 g14 g15 g16 g17 g18 g19 g20 g21 g22 g3
        go_wp2_with fail
        go_ret
        exact ⟨by rw [HRES.out]; rfl, HW.out.2.2.trans hz⟩

def Reg.anyMisfit (o : Option Term.C) (l : List Ent.E) : Bool := l.any (Reg.misfitO o)
set_option maxHeartbeats 4000000 in
theorem idxMisfit14_any (v : Value) (l : List Ent.E) (o : Option Term.C) (q : Nat) (w : World) (hv : Ents w v l) (hq : AheadAt w q o) :
    Calls Try.prog 54 #[v, .func (.func 30) #[] #[.pointer (some ⟨q, 0, none⟩)]] w fun x w' => (∃ i : Int, x = .returned (.int .i64 i) ∧ (decide (0 ≤ i)) = Reg.anyMisfit o l) ∧ Ext w w' := by
  have HV := Lib.hid hv
  have HQ := Lib.hid hq
  obtain ⟨a, cap, rfl, hcap, hmax⟩ := hv.shape
  clear hv hq
  go_enter Try.func54, Try.ntmps54
  go_wp2_with fail
  go_loopw [5, 8] (fun _ i wr => ∃ k : Nat, k ≤ l.length ∧ i = .int .i64 k ∧ Hid (Ext w wr ∧ ∀ e ∈ l.take k, Reg.misfitO o e = false)) (fun _ i _ => l.length - (intOf i).toNat)
  case atStart => exact ⟨0, by omega, rfl, Lib.hid ⟨Ext.refl _, by simp⟩⟩
  case round =>
    obtain ⟨k, hk, rfl, hI⟩ := hrel
    by_cases hlt : k < l.length
    · obtain ⟨a', cap', e', _, _, _, hc⟩ := HV.out.below hI.out.1
      obtain ⟨b, off, rfl, t, p0, p1, p2, p3, p4, p5, ht⟩ := hc k hlt
      injection e' with e1' e2' e3'
      subst e1'
      clear hc e2' e3'
      obtain ⟨a2, cap2, rfl, hcap2, hmax2, _, _⟩ := ht.open
      have hnx := take_succ_getD l k hlt
      obtain ⟨R, hR⟩ : ∃ z, l[k] = z := ⟨_, rfl⟩
      have HR := Lib.hid (show l[k] = R from hR)
      rw [hR] at p0 p1 p2 p3 p4 p5 ht hcap2 hnx
      have HM := Lib.hid (misfit14_any (entV (.slice a2 R.cut.length cap2) R) R o q wr ⟨_, rfl, ht⟩ (HQ.out.ext hI.out.1))
      obtain ⟨q0, q1, c, q3, q4, q5⟩ := R
      unfold entV at HM
      simp only at p0 p1 p2 p3 p4 p5 hcap2 HM ⊢
      have HNX := Lib.hid hnx
      obtain ⟨bb, hbb⟩ : ∃ z, Reg.misfitO o ⟨q0, q1, c, q3, q4, q5⟩ = z := ⟨_, rfl⟩
      rw [hbb] at HM
      have HBB := Lib.hid hbb
      clear ht hR hnx hbb
      cases bb with
      | false =>
        go_wp2_with fail
        refine HM.out.mono ?_
        rintro x w2 ⟨rfl, hE2⟩
        have HE2 := Lib.hid (hI.out.1.trans hE2)
        clear hE2 p0 p1 p2 p3 p4 p5
        go_wp2_with fail
        go_roundw
        case rel =>
          refine ⟨k + 1, by omega, by simp, Lib.hid ⟨HE2.out, fun e he => ?_⟩⟩
          rw [HNX.out] at he
          rcases List.mem_append.1 he with he | he
          · exact hI.out.2 e he
          · rw [List.mem_singleton.1 he]
            exact HBB.out
        case measure => simp [intOf]; omega
      | true =>
        go_wp2_with fail
        refine HM.out.mono ?_
        rintro x w2 ⟨rfl, hE2⟩
        have HE2 := Lib.hid (hI.out.1.trans hE2)
        clear hE2 p0 p1 p2 p3 p4 p5
        go_wp2_with fail
        go_ret
        refine ⟨⟨k, rfl, ?_⟩, HE2.out⟩
        have : Reg.anyMisfit o l = true := by
          unfold Reg.anyMisfit
          rw [List.any_eq_true]
          exact ⟨l[k], List.getElem_mem hlt, by rw [HR.out]; exact HBB.out⟩
        rw [this]
        simp
    · have hall : l.take k = l := List.take_of_length_le (by omega)
      have hI2 := hI.out.2
      rw [hall] at hI2
      have HI2 := Lib.hid hI2
      clear hall hI2
      go_wp2_with fail
      go_ret
      refine ⟨⟨-1, rfl, ?_⟩, hI.out.1⟩
      have : Reg.anyMisfit o l = false := by
        unfold Reg.anyMisfit
        rw [List.any_eq_false]
        exact fun x hx => by rw [HI2.out x hx]; simp
      rw [this]
      simp
theorem anyMisfit14_any (v : Value) (l : List Ent.E) (o : Option Term.C) (q : Nat) (w : World) (hv : Ents w v l) (hq : AheadAt w q o) :
    Calls Try.prog 32 #[v, .func (.func 30) #[] #[.pointer (some ⟨q, 0, none⟩)]] w fun x w' => x = .returned (.bool (Reg.anyMisfit o l)) ∧ Ext w w' := by
  have HI := Lib.hid (idxMisfit14_any v l o q w hv hq)
  obtain ⟨a, cap, rfl, _⟩ := hv.shape
  clear hv hq
  go_enter Try.func32, Try.ntmps32
  go_wp2_with fail
  refine HI.out.mono ?_
  rintro x w1 ⟨⟨i, rfl, hi⟩, hE⟩
  have HH := Lib.hid (And.intro hi hE)
  clear hi hE
  go_wp2_with fail
  go_ret
  exact ⟨by rw [← HH.out.1]; rfl, HH.out.2⟩
end Go.Proofs.Ytkpcmedmiiohnaa
