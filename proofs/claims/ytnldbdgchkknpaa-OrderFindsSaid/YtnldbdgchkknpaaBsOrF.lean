/-
  Merged: Layer 15, the program: what an entry brings, as an iterator.
-/
import Derived.Test.YtnldbdgchkknpaaBsOrE
import Derived.Test.YtnldbdgchkknpaaBsRound2
import Derived.Test.YtnldbdgchkknpaaBsVec

namespace Go.Proofs.Ytnldbdgchkknpaa
set_option linter.unusedSimpArgs false
set_option linter.unusedVariables false
set_option maxRecDepth 100000
open Go.RowKit Go.Shelf
/- Layer 15, the program: what an entry brings, as an iterator. -/
/-- Where the records of a shard begin that the entry k + 1 brings. -/
def Ord.start (cs : List (List Int)) (k x : Nat) : Int := (cs.getD k []).sum + Ord.ahead (cs.getD k []) (cs.getD (k + 1) []) x
def Ord.base (cs : List (List Int)) (k x : Nat) : Int := (cs.getD k []).getD x 0
def Ord.encs (cs : List (List Int)) (k x : Nat) : Array Value := #[.int .i64 (Ord.start cs k x), .agg #[.int .i64 (x : Nat), .int .i64 (Ord.base cs k x)]]
theorem Ord.start_is {sh : Nat} {cs : List (List Int)} (h : Ord.Ok sh cs) (k x : Nat) (hk : k + 1 < cs.length) : Ord.start cs k x = cs[k].sum + Ord.ahead cs[k] cs[k + 1] x := by
  unfold Ord.start
  simp only [List.getD_eq_getElem?_getD, List.getElem?_eq_getElem hk, List.getElem?_eq_getElem (show k < cs.length by omega), Option.getD_some]
theorem Ord.base_is {sh : Nat} {cs : List (List Int)} (h : Ord.Ok sh cs) (k x : Nat) (hk : k + 1 < cs.length) (hx : x < sh) : Ord.base cs k x = cs[k][x]'(by rw [h.len]; exact hx) := by
  unfold Ord.base
  simp only [List.getD_eq_getElem?_getD, List.getElem?_eq_getElem (show k < cs.length by omega), Option.getD_some]
  rw [List.getElem?_eq_getElem (by rw [h.len]; exact hx)]
  rfl
theorem Ord.start_zero {sh : Nat} {cs : List (List Int)} (h : Ord.Ok sh cs) (k : Nat) (hk : k + 1 < cs.length) : Ord.start cs k 0 = cs[k].sum := by
  rw [Ord.start_is h k 0 hk, Ord.ahead_zero]
  omega
theorem Ord.start_succ {sh : Nat} {cs : List (List Int)} (h : Ord.Ok sh cs) (k x : Nat) (hk : k + 1 < cs.length) (hx : x < sh) : Ord.start cs k (x + 1) = Ord.start cs k x + ((cs[k + 1][x]'(by rw [h.len]; exact hx)) - (cs[k][x]'(by rw [h.len]; exact hx))) := by
  rw [Ord.start_is h k _ hk, Ord.start_is h k _ hk, Ord.ahead_succ x (by rw [h.len]; exact hx) (by rw [h.len]; exact hx)]
  omega
theorem Ord.start_all {sh : Nat} {cs : List (List Int)} (h : Ord.Ok sh cs) (k : Nat) (hk : k + 1 < cs.length) : Ord.start cs k sh = cs[k + 1].sum := by
  have := Ord.ahead_all ((h.len k (by omega)).trans (h.len (k + 1) hk).symm)
  rw [h.len] at this
  rw [Ord.start_is h k _ hk, this]
  omega
theorem Ord.start_bound {sh : Nat} {cs : List (List Int)} (h : Ord.Ok sh cs) (k : Nat) (hk : k + 1 < cs.length) : ∀ x, x ≤ sh → 0 ≤ Ord.start cs k x ∧ Ord.start cs k x ≤ 1000000 := by
  have hle := h.le k (k + 1) (by omega) hk (by omega)
  have hs : 0 ≤ cs[k].sum := by
    have := (h.le 0 k h.pos (by omega) (Nat.zero_le _)).sum
    rw [h.zero] at this
    exact this
  have hm := h.most _ (List.getElem_mem hk)
  have key : ∀ d x, x + d = sh → 0 ≤ Ord.start cs k x ∧ Ord.start cs k x ≤ 1000000 := by
    intro d
    induction d with
    | zero =>
      intro x hx
      obtain rfl : x = sh := by omega
      rw [Ord.start_all h k hk]
      have := hle.sum
      omega
    | succ d ih =>
      intro x hx
      have h1 := ih (x + 1) (by omega)
      rw [Ord.start_succ h k x hk (by omega)] at h1
      have h2 := hle.2 x (by rw [h.len]; omega) (by rw [h.len]; omega)
      have h3 := Ord.ahead_pos hle x
      have h4 := Ord.start_is h k x hk
      omega
  intro x hx
  exact key (sh - x) x (by omega)

theorem Ord.start_any {sh : Nat} {cs : List (List Int)} (h : Ord.Ok sh cs) (k x : Nat) (hk : k + 1 < cs.length) : 0 ≤ Ord.start cs k x ∧ Ord.start cs k x ≤ 1000000 := by
  rcases Nat.le_total x sh with hx | hx
  · exact Ord.start_bound h k hk x hx
  · have e : Ord.start cs k x = Ord.start cs k sh := by
      rw [Ord.start_is h k x hk, Ord.start_is h k sh hk]
      unfold Ord.ahead
      rw [List.take_of_length_le (by rw [h.len]; exact hx), List.take_of_length_le (by rw [h.len]; exact hx), List.take_of_length_le (l := cs[k + 1]) (by rw [h.len]; exact Nat.le_refl _), List.take_of_length_le (l := cs[k]) (by rw [h.len]; exact Nat.le_refl _)]
    rw [e]
    exact Ord.start_bound h k hk sh (Nat.le_refl _)
theorem Ord.base_any {sh : Nat} {cs : List (List Int)} (h : Ord.Ok sh cs) (k x : Nat) (hk : k + 1 < cs.length) : 0 ≤ Ord.base cs k x ∧ Ord.base cs k x ≤ 1099511627776 := by
  by_cases hx : x < sh
  · rw [Ord.base_is h k x hk hx]
    exact (Vec.right_ok (h.right _ (List.getElem_mem (show k < cs.length by omega)))).1 _ (List.getElem_mem _)
  · unfold Ord.base
    simp only [List.getD_eq_getElem?_getD, List.getElem?_eq_getElem (show k < cs.length by omega), Option.getD_some]
    rw [List.getElem?_eq_none (by rw [h.len]; omega)]
    simp
/-- One of a row's numbers, now and later. -/
theorem Ints.at15 {w : World} {v : Value} {l : List Int} (h : Ints w v l) (j : Nat) (x : Int) (hx : l[j]? = some x) : ∃ q o c, v = .slice (some ⟨q, o, none⟩) l.length c ∧ l.length ≤ c ∧ c ≤ 9223372036854775807 ∧ ∀ w', Below w.heap.size w w' → w'.cell? ⟨q, o + j, none⟩ = some (.int .i64 x) := by
  obtain ⟨a, c, e, h1, h2, _, h4⟩ := h.open
  obtain ⟨hj, hx⟩ := List.getElem?_eq_some_iff.1 hx
  obtain ⟨q, o, rfl, hc⟩ := h4 j hj
  unfold maxLen at h2
  rw [hx] at hc
  exact ⟨q, o, c, e, h1, h2, fun w' hw => (hw.cell (World.block_lt_of_cell? w _ hc)).trans hc⟩
set_option maxHeartbeats 4000000 in
theorem brought1_in (n : Nat) (hn : 1 ≤ n) (l b1 b2 k B p sh : Nat) (cs : List (List Int)) (wq : World) (h : IsOrd wq B p cs) (ho : Ord.Ok sh cs) (hk : k + 1 < cs.length) (hlong : cs.length ≤ 4398046511106)
    (J Jx : List Nat → World → Prop) (W : World) (hJ : AbidesFrom W.heap.size J)
    (hY : ∀ pre x V, J pre V → pre.length < sh → YieldAt Fence.wide (n - 1) Try.prog l (Ord.encs cs k x) V fun e V' =>
      (e = .returned (.bool true) ∧ J (pre ++ [x]) V' ∧ Below wq.heap.size V V') ∨ (e = .returned (.bool false) ∧ Jx (pre ++ [x]) V'))
    (hW : Below wq.heap.size wq W) (hb1 : W.cell? ⟨b1, 0, none⟩ = some (.pointer (some ⟨p, 0, none⟩))) (hb2 : W.cell? ⟨b2, 0, none⟩ = some (.int .i64 ((k + 1 : Nat) : Int))) (h0 : J [] W) :
    CallsIn Fence.wide n Try.prog 36 #[.func (.yield l) #[] #[], .pointer (some ⟨b1, 0, none⟩), .pointer (some ⟨b2, 0, none⟩)] W fun e W' => (∃ v, e = .returned v) ∧
      ((∃ xs, xs = List.range sh ∧ J xs W') ∨ (∃ pre, (∃ j, j < sh ∧ pre = List.range (j + 1)) ∧ Jx pre W')) := by
  obtain ⟨g, cp, h1, h2, h3, h4⟩ := h.open
  obtain ⟨N, hN⟩ : ∃ N, cs.length = N := ⟨_, rfl⟩
  rw [hN] at h1 h2
  obtain ⟨a0, m0, z0, hc0, hO0⟩ := h4 k (by omega)
  obtain ⟨a1, m1, z1, hc1, hO1⟩ := h4 (k + 1) hk
  have HC := Lib.hid (And.intro (show W.cell? ⟨g, k, none⟩ = some (.slice a0 m0 z0) from (hW.cell (World.block_lt_of_cell? wq _ hc0)).trans hc0) (show W.cell? ⟨g, k + 1, none⟩ = some (.slice a1 m1 z1) from (hW.cell (World.block_lt_of_cell? wq _ hc1)).trans hc1))
  have H1 := Lib.hid (show W.heap[p]? = some (.cells #[.slice (some ⟨g, 0, none⟩) N cp] 71 (0, 0)) from (hW.block p (Array.getElem?_eq_some_iff.1 h1).1).trans h1)
  have hi0 := hO0.ints
  have hi1 := hO1.ints
  have hT := ho.total k (by omega)
  have hl0 := ho.len k (by omega)
  have hl1 := ho.len (k + 1) hk
  have hz0 := Ord.start_zero ho k hk
  have hea : ∀ x, x < sh → ∃ u v, (cs[k]'(by omega))[x]? = some u ∧ cs[k + 1][x]? = some v ∧ Ord.base cs k x = u ∧ Ord.start cs k (x + 1) = Ord.start cs k x + (v - u) ∧ 0 ≤ u ∧ u ≤ v ∧ v ≤ 1099511627776 := fun x hx =>
    ⟨_, _, List.getElem?_eq_getElem (by rw [hl0]; exact hx), List.getElem?_eq_getElem (by rw [hl1]; exact hx), Ord.base_is ho k x hk hx, Ord.start_succ ho k x hk hx, ((Vec.right_ok (ho.right _ (List.getElem_mem (show k < cs.length by omega)))).1 _ (List.getElem_mem _)).1, (ho.le k (k + 1) (by omega) hk (by omega)).2 x (by rw [hl0]; exact hx) (by rw [hl1]; exact hx), ((Vec.right_ok (ho.right _ (List.getElem_mem hk))).1 _ (List.getElem_mem _)).2⟩
  have hbo := Ord.start_bound ho k hk
  have hs8 : sh ≤ 8 := by
    have := (Vec.right_ok (ho.right _ (List.getElem_mem hk))).2.2
    rw [hl1] at this
    exact this
  obtain ⟨A, hA⟩ : ∃ z, cs[k]'(by omega) = z := ⟨_, rfl⟩
  obtain ⟨A', hA'⟩ : ∃ z, cs[k + 1] = z := ⟨_, rfl⟩
  rw [hA] at hi0 hT hl0 hz0 hea
  rw [hA'] at hi1 hl1 hea
  have hm0 : m0 = sh := by
    obtain ⟨_, _, e, _⟩ := hi0.open
    injection e with _ e _
    rw [hl0] at e
    exact e
  have hm1 : m1 = sh := by
    obtain ⟨_, _, e, _⟩ := hi1.open
    injection e with _ e _
    rw [hl1] at e
    exact e
  subst m0 m1
  obtain ⟨st, hst⟩ : ∃ z, Ord.start cs k = z := ⟨_, rfl⟩
  obtain ⟨ba, hbaE⟩ : ∃ z, Ord.base cs k = z := ⟨_, rfl⟩
  rw [hst] at hz0 hea hbo
  rw [hbaE] at hea
  have HF := Lib.hid (And.intro hz0 (And.intro hea hbo))
  have hY2 : ∀ pre x V, J pre V → pre.length < sh → YieldAt Fence.wide (n - 1) Try.prog l #[.int .i64 (st x), .agg #[.int .i64 (x : Nat), .int .i64 (ba x)]] V fun e V' =>
      (e = .returned (.bool true) ∧ J (pre ++ [x]) V' ∧ Below wq.heap.size V V') ∨ (e = .returned (.bool false) ∧ Jx (pre ++ [x]) V') := by
    rw [← hst, ← hbaE]
    exact hY
  have HI0 := Lib.hid hi0
  have HI1 := Lib.hid hi1
  have HB1 := Lib.hid hb1
  have HB2 := Lib.hid hb2
  have HL := Lib.hid (And.intro hl0 hl1)
  have hkN : k + 1 < N := by omega
  have hNl : N ≤ 4398046511106 := by omega
  have HT := Lib.hid hT
  have HW := Lib.hid hW
  have HJ := Lib.hid hJ
  have HY := Lib.hid hY2
  have H0 := Lib.hid h0
  have hsub : Hid (IntKind.i64.wrap (k : Int) = (k : Int)) := Lib.hid (IntWalk.i64_in _ (by omega))
  clear h1 h2 h4 hc0 hc1 hO0 hO1 hi0 hi1 hb1 hb2 hT hl0 hl1 hz0 hea hbo hA hA' hst hbaE hY hY2 hW hJ h0 hlong ho h hk hN
  refine callsIn_of_wp Try.func36 rfl trivial ?_ rfl
  refine wpIn_wide.2 ?_
  simp only [Try.ntmps36, List.size_toArray, List.length_cons, List.length_nil, Nat.reduceAdd, Nat.reduceSub, Array.replicate_succ, Array.replicate_zero, List.push_toArray, List.append_toArray, List.nil_append, List.cons_append]
  go_wp2_with fail
  refine wp_region_facts (by kernel_rfl) Ext (fun iop v w => match iop with
      | 0 => v = .pointer (some ⟨p, 0, none⟩)
      | 1 => v = .pointer (some ⟨p, 0, none⟩)
      | 2 => v = .pointer (some ⟨p, 0, none⟩)
      | 3 => v = .slice (some ⟨g, 0, none⟩) N cp
      | 4 => v = .int .i64 ((k + 1 : Nat) : Int)
      | 5 => v = .int .i64 (k : Nat)
      | 6 => v = .pointer (some ⟨g, k, none⟩)
      | 7 => v = .slice a0 sh z0
      | 8 => v = .pointer (some ⟨p, 0, none⟩)
      | 9 => v = .pointer (some ⟨p, 0, none⟩)
      | 10 => v = .pointer (some ⟨p, 0, none⟩)
      | 11 => v = .slice (some ⟨g, 0, none⟩) N cp
      | 12 => v = .int .i64 ((k + 1 : Nat) : Int)
      | 13 => v = .pointer (some ⟨g, k + 1, none⟩)
      | 14 => v = .slice a1 sh z1
      | 15 => v = .slice a0 sh z0
      | _ => v = .slice a1 sh z1
      ) (by kernel_rfl) (fun _ _ _ h k => Ext.trans h k) (fun a => Ext.refl a) (Ext.drew _) ?_ ?_ ?_
  · intro iop v wa wb hF hL
    iterate 16 (rcases iop with _ | iop; exact hF)
    exact hF
  · refine Obls.cons ?_ (Obls.cons ?_ (Obls.cons ?_ (Obls.cons ?_ (Obls.cons ?_ (Obls.cons ?_ (Obls.cons ?_ (Obls.cons ?_ (Obls.cons ?_ (Obls.cons ?_ (Obls.cons ?_ (Obls.cons ?_ (Obls.cons ?_ (Obls.cons ?_ (Obls.cons ?_ (Obls.cons ?_ (Obls.cons ?_ (Obls.nil)))))))))))))))))
    · intro ev wy hp hl hk hd
      have e1 : ev _ = .pointer (some ⟨b1, 0, none⟩) := hk 1 (by decide)
      exact Yield.op (v := .pointer (some ⟨p, 0, none⟩)) (w' := wy) (by simp [execOp, go_sem, e1, cellExt15 HB1.out hl]) ⟨Ext.refl _, rfl⟩
    · intro ev wy hp hl hk hd
      have e8 : ev _ = _ := hk 8 (by decide)
      exact Yield.oq (by simp [execOp, go_sem, e8])
    · intro ev wy hp hl hk hd
      have e9 : ev _ = _ := hk 9 (by decide)
      exact Yield.oq (by simp [execOp, go_sem, e9])
    · intro ev wy hp hl hk hd
      have e10 : ev _ = _ := hk 10 (by decide)
      exact Yield.op (v := .slice (some ⟨g, 0, none⟩) N cp) (w' := wy) (by simp [execOp, go_sem, e10, cell_of_heap (heap_ext H1.out hl) 0]) ⟨Ext.refl _, rfl⟩
    · intro ev wy hp hl hk hd
      have e2 : ev _ = .pointer (some ⟨b2, 0, none⟩) := hk 2 (by decide)
      exact Yield.load rfl e2 (ldInt (cellExt15 HB2.out hl)) ⟨Ext.refl _, rfl⟩
    · intro ev wy hp hl hk hd
      have e12 : ev _ = _ := hk 12 (by decide)
      exact Yield.op (v := .int .i64 (k : Nat)) (w' := wy) (by simp [execOp, go_sem, e12, hp.const]; exact hsub.out) ⟨Ext.refl _, rfl⟩
    · intro ev wy hp hl hk hd
      have e11 : ev _ = _ := hk 11 (by decide)
      have e13 : ev _ = _ := hk 13 (by decide)
      exact Yield.op (v := .pointer (some ⟨g, k, none⟩)) (w' := wy) (by simp [execOp, go_sem, e11, e13]; intro hq; omega) ⟨Ext.refl _, rfl⟩
    · intro ev wy hp hl hk hd
      have e14 : ev _ = _ := hk 14 (by decide)
      exact Yield.op (v := .slice a0 sh z0) (w' := wy) (by simp [execOp, go_sem, e14, cellExt15 HC.out.1 hl]) ⟨Ext.refl _, rfl⟩
    · intro ev wy hp hl hk hd
      have e1 : ev _ = .pointer (some ⟨b1, 0, none⟩) := hk 1 (by decide)
      exact Yield.op (v := .pointer (some ⟨p, 0, none⟩)) (w' := wy) (by simp [execOp, go_sem, e1, cellExt15 HB1.out hl]) ⟨Ext.refl _, rfl⟩
    · intro ev wy hp hl hk hd
      have e16 : ev _ = _ := hk 16 (by decide)
      exact Yield.oq (by simp [execOp, go_sem, e16])
    · intro ev wy hp hl hk hd
      have e17 : ev _ = _ := hk 17 (by decide)
      exact Yield.oq (by simp [execOp, go_sem, e17])
    · intro ev wy hp hl hk hd
      have e18 : ev _ = _ := hk 18 (by decide)
      exact Yield.op (v := .slice (some ⟨g, 0, none⟩) N cp) (w' := wy) (by simp [execOp, go_sem, e18, cell_of_heap (heap_ext H1.out hl) 0]) ⟨Ext.refl _, rfl⟩
    · intro ev wy hp hl hk hd
      have e2 : ev _ = .pointer (some ⟨b2, 0, none⟩) := hk 2 (by decide)
      exact Yield.load rfl e2 (ldInt (cellExt15 HB2.out hl)) ⟨Ext.refl _, rfl⟩
    · intro ev wy hp hl hk hd
      have e19 : ev _ = _ := hk 19 (by decide)
      have e20 : ev _ = _ := hk 20 (by decide)
      exact Yield.op (v := .pointer (some ⟨g, k + 1, none⟩)) (w' := wy) (by simp [execOp, go_sem, e19, e20]; intro hq; omega) ⟨Ext.refl _, rfl⟩
    · intro ev wy hp hl hk hd
      have e21 : ev _ = _ := hk 21 (by decide)
      exact Yield.op (v := .slice a1 sh z1) (w' := wy) (by simp [execOp, go_sem, e21, cellExt15 HC.out.2 hl]) ⟨Ext.refl _, rfl⟩
    · intro ev wy hp hl hk hd
      have e15 : ev _ = _ := hk 15 (by decide)
      exact Yield.as rfl ⟨Ext.refl _, e15⟩
    · intro ev wy hp hl hk hd
      have e22 : ev _ = _ := hk 22 (by decide)
      exact Yield.as rfl ⟨Ext.refl _, e22⟩
  · intro vals wz hz hv
    have g8 : vals 0 = _ := hv 0 (by decide)
    have g9 : vals 1 = _ := hv 1 (by decide)
    have g10 : vals 2 = _ := hv 2 (by decide)
    have g11 : vals 3 = _ := hv 3 (by decide)
    have g12 : vals 4 = _ := hv 4 (by decide)
    have g13 : vals 5 = _ := hv 5 (by decide)
    have g14 : vals 6 = _ := hv 6 (by decide)
    have g15 : vals 7 = _ := hv 7 (by decide)
    have g16 : vals 8 = _ := hv 8 (by decide)
    have g17 : vals 9 = _ := hv 9 (by decide)
    have g18 : vals 10 = _ := hv 10 (by decide)
    have g19 : vals 11 = _ := hv 11 (by decide)
    have g20 : vals 12 = _ := hv 12 (by decide)
    have g21 : vals 13 = _ := hv 13 (by decide)
    have g22 : vals 14 = _ := hv 14 (by decide)
    have g4 : vals 15 = _ := hv 15 (by decide)
    have g5 : vals 16 = _ := hv 16 (by decide)
    clear hv
    simp only [putAll, Act.put, List.setIfInBounds_toArray, List.set_cons_zero, List.set_cons_succ, g8, g9, g10, g11, g12, g13, g14, g15, g16, g17, g18, g19, g20, g21, g22, g4, g5]
    clear g8 g9 g10 g11 g12 g13 g14 g15 g16 g17 g18 g19 g20 g21 g22 g4 g5
    have HZ := Lib.hid hz
    clear hz
    go_wp2_with fail
    refine (total_any _ _ wz (HI0.out.below (HW.out.trans (HZ.out.mono HW.out.size)))).mono ?_
    rintro e w1 ⟨rfl, rfl⟩
    rw [HT.out]
    go_wp2_with fail
    refine (wpIn_wide (n := n)).1 ?_
    rw [← HF.out.1]
    have hJw : J (List.range 0) wz := HJ.out [] W wz none H0.out ⟨HZ.out.os, HZ.out.tape, HZ.out.output, HZ.out.size, fun i hi _ => HZ.out.block i hi⟩ (fun r e => by cases e)
    have hWz : Below wq.heap.size wq wz := HW.out.trans (HZ.out.mono HW.out.size)
    gi_wp2
    gi_loopw [6, 7, 27] (fun x _ i wr => ∃ j : Nat, j ≤ sh ∧ i = .int .i64 j ∧ x = .int .i64 (st j) ∧ Hid (J (List.range j) wr ∧ Below wq.heap.size wq wr)) (fun _ _ i _ => sh - (intOf i).toNat)
    case atStart => exact ⟨0, by omega, rfl, rfl, Lib.hid ⟨hJw, hWz⟩⟩
    case round =>
      obtain ⟨j, hj, rfl, rfl, hI⟩ := hrel
      by_cases hlt : j < sh
      · obtain ⟨xu, xv, hu, hv, hb, hs1, h0u, huv, hvm⟩ := HF.out.2.1 j hlt
        have hsb := HF.out.2.2 j (by omega)
        have hsb1 := HF.out.2.2 (j + 1) (by omega)
        obtain ⟨q0, o0, c0, e0, hm0, hmx0, hc0⟩ := HI0.out.at15 j xu hu
        obtain ⟨q1, o1, c1, e2, hm1, hmx1, hc1⟩ := HI1.out.at15 j xv hv
        injection e0 with e0 e4 e5
        injection e2 with e2 e6 e7
        rw [HL.out.1] at hm0
        rw [HL.out.2] at hm1
        clear e4 e6
        subst e0 e2 e5 e7
        obtain ⟨fn, tmps, assign, body, hy, hR⟩ := HY.out (List.range j) j wr hI.out.1 (by simp; omega)
        rw [hb] at hy
        obtain ⟨S, hS⟩ : ∃ z, st j = z := ⟨_, rfl⟩
        rw [hS] at hy hs1 hsb ⊢
        have HS := Lib.hid (And.intro hS hs1)
        have HC0 := Lib.hid hc0
        have HC1 := Lib.hid hc1
        have hcell0 := hc0 wr hI.out.2
        clear hc0 hc1 hu hv hb hS hs1
        gi_wp2
        refine hR.mono ?_
        rintro e W3 (⟨rfl, hJ3, hk3⟩ | ⟨rfl, hJx3⟩)
        · have HK3 := Lib.hid (hI.out.2.trans hk3)
          have hwr : Hid (IntKind.i64.wrap (xv - xu) = xv - xu) := Lib.hid (IntWalk.i64_in _ (by omega))
          have hwr2 : Hid (IntKind.i64.wrap (S + (xv - xu)) = S + (xv - xu)) := Lib.hid (IntWalk.i64_in _ (by omega))
          clear hcell0 hk3
          gi_wp2
          refine wpIn_wide.2 ?_
          go_wp2_with fail
          refine wp_region_facts (by kernel_rfl) Ext (fun iop v w => match iop with
              | 0 => v = .int .i64 S
              | 1 => v = .slice (some ⟨q1, o1, none⟩) sh z1
              | 2 => v = .int .i64 (j : Nat)
              | 3 => v = .pointer (some ⟨q1, o1 + j, none⟩)
              | 4 => v = .int .i64 xv
              | 5 => v = .slice (some ⟨q0, o0, none⟩) sh z0
              | 6 => v = .int .i64 (j : Nat)
              | 7 => v = .pointer (some ⟨q0, o0 + j, none⟩)
              | 8 => v = .int .i64 xu
              | 9 => v = .int .i64 (xv - xu)
              | 10 => v = .int .i64 (S + (xv - xu))
              | _ => v = .int .i64 (S + (xv - xu))
              ) (by kernel_rfl) (fun _ _ _ h k => Ext.trans h k) (fun a => Ext.refl a) (Ext.drew _) ?_ ?_ ?_
          · intro iop v wa wb hF hL
            iterate 11 (rcases iop with _ | iop; exact hF)
            exact hF
          · refine Obls.cons ?_ (Obls.cons ?_ (Obls.cons ?_ (Obls.cons ?_ (Obls.cons ?_ (Obls.cons ?_ (Obls.cons ?_ (Obls.cons ?_ (Obls.cons ?_ (Obls.cons ?_ (Obls.cons ?_ (Obls.cons ?_ (Obls.nil))))))))))))
            · intro ev wy hp hl hk hd
              have e6 : ev _ = .int .i64 S := hk 6 (by decide)
              exact Yield.mv rfl ⟨Ext.refl _, e6⟩
            · intro ev wy hp hl hk hd
              have e5 : ev _ = .slice (some ⟨q1, o1, none⟩) sh z1 := hk 5 (by decide)
              exact Yield.mv rfl ⟨Ext.refl _, e5⟩
            · intro ev wy hp hl hk hd
              have e7 : ev _ = .int .i64 (j : Nat) := hk 7 (by decide)
              exact Yield.mv rfl ⟨Ext.refl _, e7⟩
            · intro ev wy hp hl hk hd
              have e41 : ev _ = _ := hk 41 (by decide)
              have e42 : ev _ = _ := hk 42 (by decide)
              exact Yield.op (v := .pointer (some ⟨q1, o1 + j, none⟩)) (w' := wy) (by simp [execOp, go_sem, e41, e42]; intro hq; omega) ⟨Ext.refl _, rfl⟩
            · intro ev wy hp hl hk hd
              have e43 : ev _ = _ := hk 43 (by decide)
              exact Yield.load rfl e43 (ldInt (HC1.out wy (HK3.out.trans (hl.mono HK3.out.size)))) ⟨Ext.refl _, rfl⟩
            · intro ev wy hp hl hk hd
              have e4 : ev _ = .slice (some ⟨q0, o0, none⟩) sh z0 := hk 4 (by decide)
              exact Yield.mv rfl ⟨Ext.refl _, e4⟩
            · intro ev wy hp hl hk hd
              have e7 : ev _ = .int .i64 (j : Nat) := hk 7 (by decide)
              exact Yield.mv rfl ⟨Ext.refl _, e7⟩
            · intro ev wy hp hl hk hd
              have e45 : ev _ = _ := hk 45 (by decide)
              have e46 : ev _ = _ := hk 46 (by decide)
              exact Yield.op (v := .pointer (some ⟨q0, o0 + j, none⟩)) (w' := wy) (by simp [execOp, go_sem, e45, e46]; intro hq; omega) ⟨Ext.refl _, rfl⟩
            · intro ev wy hp hl hk hd
              have e47 : ev _ = _ := hk 47 (by decide)
              exact Yield.load rfl e47 (ldInt (HC0.out wy (HK3.out.trans (hl.mono HK3.out.size)))) ⟨Ext.refl _, rfl⟩
            · intro ev wy hp hl hk hd
              have e44 : ev _ = _ := hk 44 (by decide)
              have e48 : ev _ = _ := hk 48 (by decide)
              exact Yield.op (v := .int .i64 (xv - xu)) (w' := wy) (by simp [execOp, go_sem, e44, e48]; exact hwr.out) ⟨Ext.refl _, rfl⟩
            · intro ev wy hp hl hk hd
              have e40 : ev _ = _ := hk 40 (by decide)
              have e49 : ev _ = _ := hk 49 (by decide)
              exact Yield.op (v := .int .i64 (S + (xv - xu))) (w' := wy) (by simp [execOp, go_sem, e40, e49]; exact hwr2.out) ⟨Ext.refl _, rfl⟩
            · intro ev wy hp hl hk hd
              have e50 : ev _ = _ := hk 50 (by decide)
              exact Yield.as rfl ⟨Ext.refl _, e50⟩
          · intro vals wz hz hv
            have g40 : vals 0 = _ := hv 0 (by decide)
            have g41 : vals 1 = _ := hv 1 (by decide)
            have g42 : vals 2 = _ := hv 2 (by decide)
            have g43 : vals 3 = _ := hv 3 (by decide)
            have g44 : vals 4 = _ := hv 4 (by decide)
            have g45 : vals 5 = _ := hv 5 (by decide)
            have g46 : vals 6 = _ := hv 6 (by decide)
            have g47 : vals 7 = _ := hv 7 (by decide)
            have g48 : vals 8 = _ := hv 8 (by decide)
            have g49 : vals 9 = _ := hv 9 (by decide)
            have g50 : vals 10 = _ := hv 10 (by decide)
            have g6 : vals 11 = _ := hv 11 (by decide)
            clear hv
            simp only [putAll, Act.put, List.setIfInBounds_toArray, List.set_cons_zero, List.set_cons_succ, g40, g41, g42, g43, g44, g45, g46, g47, g48, g49, g50, g6]
            clear g40 g41 g42 g43 g44 g45 g46 g47 g48 g49 g50 g6
            have hJz : J (List.range (j + 1)) wz := by
              rw [List.range_succ]
              exact HJ.out _ W3 wz none hJ3 ⟨hz.os, hz.tape, hz.output, hz.size, fun i hi _ => hz.block i hi⟩ (fun r e => by cases e)
            have HJZ := Lib.hid (And.intro hJz (HK3.out.trans (hz.mono HK3.out.size)))
            have HS1 := Lib.hid HS.out.2.symm
            clear hJz hz
            gi_wp2
            go_roundw
            case rel => exact ⟨j + 1, by omega, by simp, by rw [HS1.out], Lib.hid HJZ.out⟩
            case measure => simp [intOf]; omega
        · gi_wp2
          refine bodyPost_ret (results_none rfl _ _ _) rfl ?_
          exact ⟨⟨_, rfl⟩, .inr ⟨_, ⟨j, hlt, rfl⟩, by rw [List.range_succ]; exact hJx3⟩⟩
      · obtain rfl : j = sh := by omega
        gi_wp2
        go_end0
        exact ⟨⟨_, rfl⟩, .inl ⟨_, rfl, hI.out.1⟩⟩

theorem brought_stops (n : Nat) (hn : 1 ≤ n) (b1 b2 k B p sh : Nat) (cs : List (List Int)) (wq w : World) (h : IsOrd wq B p cs) (ho : Ord.Ok sh cs) (hk : k + 1 < cs.length) (hlong : cs.length ≤ 4398046511106)
    (hw : Below wq.heap.size wq w) (hb1 : w.cell? ⟨b1, 0, none⟩ = some (.pointer (some ⟨p, 0, none⟩))) (hb2 : w.cell? ⟨b2, 0, none⟩ = some (.int .i64 ((k + 1 : Nat) : Int))) :
    SeqStopsK Fence.wide n Try.prog 36 #[.pointer (some ⟨b1, 0, none⟩), .pointer (some ⟨b2, 0, none⟩)] (Ord.encs cs k) (fun V V' => Below wq.heap.size V V') (fun xs => xs = List.range sh) (fun pre => ∃ j, j < sh ∧ pre = List.range (j + 1)) sh w := fun l J Jx W hW hJ _ hY h0 =>
  brought1_in n hn l b1 b2 k B p sh cs wq h ho hk hlong J Jx W hJ hY (hw.trans (hW.mono hw.size)) (cellExt15 hb1 hW) (cellExt15 hb2 hW) h0
/-- What brought gives: the iterator, and two blocks of its own. -/
def GivesBrought (p m : Nat) (w : World) (e : Ending) (w' : World) : Prop :=
  ∃ b1 b2, e = .returned (.func (.func 36) #[] #[.pointer (some ⟨b1, 0, none⟩), .pointer (some ⟨b2, 0, none⟩)]) ∧ Ext w w' ∧ w'.cell? ⟨b1, 0, none⟩ = some (.pointer (some ⟨p, 0, none⟩)) ∧ w'.cell? ⟨b2, 0, none⟩ = some (.int .i64 (m : Nat))
theorem brought15_any (p m : Nat) (w : World) : Calls Try.prog 26 #[.pointer (some ⟨p, 0, none⟩), .int .i64 (m : Nat)] w (GivesBrought p m w) := by
  go_enter Try.func26, Try.ntmps26
  go_wp2
  go_ret
  refine ⟨w.heap.size, w.heap.size + 1, rfl, (Ext.alloc _ _).trans (Ext.alloc _ _), ?_, ?_⟩
  · have h1 := heap_alloc_new w (.cells #[.pointer (some ⟨p, 0, none⟩)] 25)
    rw [cell_of_heap (heap_ext h1 (Ext.alloc _ (.cells #[.int .i64 (m : Nat)] 3)))]
    rfl
  · have h1 := heap_alloc_new (w.alloc (.cells #[.pointer (some ⟨p, 0, none⟩)] 25)) (.cells #[.int .i64 (m : Nat)] 3)
    rw [World.size_alloc] at h1
    rw [cell_of_heap h1]
    rfl
end Go.Proofs.Ytnldbdgchkknpaa
