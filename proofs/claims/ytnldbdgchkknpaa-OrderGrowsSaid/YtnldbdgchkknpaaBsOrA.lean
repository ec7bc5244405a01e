/-
  Merged: Layer 15, the program: an order in memory.
-/
import Derived.Test.YtnldbdgchkknpaaBsEnt
import Derived.Test.YtnldbdgchkknpaaBsLib
import Derived.Test.YtnldbdgchkknpaaBsMath
import Derived.Test.YtnldbdgchkknpaaBsVec

namespace Go.Proofs.Ytnldbdgchkknpaa
set_option linter.unusedSimpArgs false
set_option linter.unusedVariables false
set_option maxRecDepth 100000
open Go.RowKit
/- Layer 15, the program: an order in memory; New, Entries, last, Len, Cut, After. -/
structure IsOrd (w : World) (B p : Nat) (cs : List (List Int)) : Prop where
  at' : ∃ v, w.heap[p]? = some (.cells #[v] 71 (0, 0)) ∧ OwnRR w B v cs
  ge : B ≤ p
  ok : ∃ sh, Ord.Ok sh cs
theorem IsOrd.ext {w w' : World} {B p : Nat} {cs : List (List Int)} (h : IsOrd w B p cs) (hE : Ext w w') : IsOrd w' B p cs := by
  obtain ⟨v, h1, h2⟩ := h.at'
  exact ⟨⟨v, heap_ext h1 hE, h2.ext hE⟩, h.ge, h.ok⟩
theorem IsOrd.lt {w : World} {B p : Nat} {cs : List (List Int)} (h : IsOrd w B p cs) : p < w.heap.size := by
  obtain ⟨v, h1, h2⟩ := h.at'
  exact (Array.getElem?_eq_some_iff.1 h1).1
theorem IsOrd.lower {w : World} {B b p : Nat} {cs : List (List Int)} (h : IsOrd w B p cs) (hb : b ≤ B) : IsOrd w b p cs := by
  obtain ⟨v, h1, h2⟩ := h.at'
  exact ⟨⟨v, h1, h2.lower hb⟩, Nat.le_trans hb h.ge, h.ok⟩
/-- What is read of it. -/
theorem IsOrd.open {w : World} {B p : Nat} {cs : List (List Int)} (h : IsOrd w B p cs) : ∃ g c, w.heap[p]? = some (.cells #[.slice (some ⟨g, 0, none⟩) cs.length c] 71 (0, 0)) ∧ cs.length ≤ c ∧ c ≤ 9223372036854775807 ∧
    ∀ i (hi : i < cs.length), ∃ a n k, w.cell? ⟨g, i, none⟩ = some (.slice a n k) ∧ OwnI w B (.slice a n k) cs[i] := by
  obtain ⟨v, h1, xs, h2, h3, h4⟩ := h.at'
  obtain ⟨sh, ho⟩ := h.ok
  have hp := ho.pos
  have hs := Sl.ofOwn h2
  rcases h2.2 with ⟨_, h5⟩ | ⟨g, cap, cur, rfl, hb, hg, hr⟩
  · omega
  · obtain ⟨a, c, e, q1, q2, q3, q4⟩ := hs
    injection e with e1 e2 e3
    subst e1 e3
    refine ⟨g, cap, h1, by omega, by unfold maxLen at q2; exact q2, fun i hi => ?_⟩
    obtain ⟨b, off, e, hc⟩ := q4 i (by omega)
    injection e with e
    injection e with e5 e6
    subst e5 e6
    have hx := h4 i (by omega) hi
    obtain ⟨xa, xn, xc, hv⟩ := hx.slice
    rw [Nat.zero_add, hv] at hc
    rw [hv] at hx
    exact ⟨xa, xn, xc, hc, hx⟩

theorem zero15_no (n : Int) (w : World) (h : n < 1 ∨ 8 < n) : Calls Try.prog 30 #[.int .i64 n] w fun e w' => e = .returned (.slice none 0 0) ∧ w = w' := by
  rcases h with h1 | h8
  · go_enter Try.func30, Try.ntmps30
    go_wp2
    go_ret
    exact ⟨rfl, rfl⟩
  · have h1 : ¬ n < 1 := by omega
    go_enter Try.func30, Try.ntmps30
    go_wp2
    go_ret
    exact ⟨rfl, rfl⟩

/-- What New gives. -/
def GivesNew15 (n : Int) (w : World) (e : Ending) (w' : World) : Prop :=
  (¬ (1 ≤ n ∧ n ≤ 8) ∧ e = .returned (.tuple #[.pointer none, .int .i64 1]) ∧ Ext w w') ∨
  (∃ p, (1 ≤ n ∧ n ≤ 8) ∧ e = .returned (.tuple #[.pointer (some ⟨p, 0, none⟩), .int .i64 0]) ∧ IsOrd w' w.heap.size p [List.replicate n.toNat 0] ∧ Ext w w')
theorem Ord.ok_new (n : Nat) (h1 : 1 ≤ n) (h8 : n ≤ 8) : Ord.Ok n [List.replicate n 0] := by
  refine ⟨⟨[], rfl, trivial⟩, fun c hc => ?_, fun c hc => ?_⟩
  · obtain rfl := List.mem_singleton.1 hc
    refine Vec.right_of (fun x hx => ?_) (by simp; omega) (by simp; omega)
    obtain rfl := List.eq_of_mem_replicate hx
    omega
  · obtain rfl := List.mem_singleton.1 hc
    simp
theorem ord_new15 {w : World} {B sh : Nat} {x : Value} {l : List Int} (hx : OwnI w B x l) (hB : B ≤ w.heap.size) (ok : Ord.Ok sh [l]) : IsOrd ((w.alloc (.cells #[x] 46)).alloc (.cells #[.slice (some ⟨w.heap.size, 0, none⟩) 1 1] 71)) B (w.heap.size + 1) [l] := by
  have h1 := World.ownsRow_lit (e := 46) (size := 1) (base := B) w #[x] 1 hB (by simp [maxLen]) rfl
  have h2 := heap_alloc_new (w.alloc (.cells #[x] 46)) (.cells #[.slice (some ⟨w.heap.size, 0, none⟩) 1 1] 71)
  rw [World.size_alloc] at h2
  refine ⟨⟨_, h2, [x], rowExt h1 (Ext.alloc _ _), rfl, fun i h h' => ?_⟩, by omega, sh, ok⟩
  obtain rfl : i = 0 := by simpa using h
  exact (hx.ext (Ext.alloc _ _)).ext (Ext.alloc _ _)
theorem new15_any (n : Int) (w : World) : Calls Try.prog 17 #[.int .i64 n] w (GivesNew15 n w) := by
  have e1 := fun (w : World) (a : Option Addr) (n c : Nat) => Lib.run_eql_slice_nil (P := Try.prog) w 46 3 a n c 0 0 Try.underlying46
  by_cases hn : 1 ≤ n ∧ n ≤ 8
  · obtain ⟨m, rfl⟩ : ∃ m : Nat, n = (m : Int) := ⟨n.toNat, by omega⟩
    go_enter Try.func17, Try.ntmps17
    go_wp2_with fail
    refine (zero_any (m : Int) w).mono ?_
    rintro e w1 ⟨u, rfl, ho, hE⟩
    have hz : zeros (m : Int) = List.replicate m 0 := by unfold zeros; rw [if_pos (by omega)]; simp
    rw [hz] at ho
    obtain ⟨g, c, rfl⟩ : ∃ g c, u = .slice (some g) m c := by
      rcases ho.2 with ⟨_, h5⟩ | ⟨g, cap, cur, rfl, _⟩
      · simp at h5
        omega
      · exact ⟨⟨g, 0, none⟩, cap, by simp⟩
    have HO := Lib.hid ho
    have HE := Lib.hid hE
    clear ho hE hz
    go_wp2_with fail
    go_ret2
    exact .inr ⟨_, hn, rfl, ord_new15 HO.out HE.out.size (by rw [Int.toNat_natCast]; exact Ord.ok_new m (by omega) (by omega)), (HE.out.alloc (by have := HE.out.size; omega) _).alloc (by have := HE.out.size; simp; omega) _⟩
  · go_enter Try.func17, Try.ntmps17
    go_wp2_with fail
    refine (zero15_no n w (by omega)).mono ?_
    rintro e w1 ⟨rfl, rfl⟩
    go_wp2_with fail
    go_ret2
    exact .inl ⟨hn, rfl, Ext.refl _⟩

theorem cellExt15 {w w' : World} {a : Addr} {v : Value} (h : w.cell? a = some v) (hE : Ext w w') : w'.cell? a = some v := (hE.cell (World.block_lt_of_cell? w _ h)).trans h
theorem entries15_any {w : World} {B p n : Nat} {cs : List (List Int)} (h : IsOrd w B p cs) (hn : cs.length = n + 1) : Calls Try.prog 19 #[.pointer (some ⟨p, 0, none⟩)] w fun e w' => e = .returned (.int .i64 (n : Int)) ∧ w = w' := by
  obtain ⟨g, c, h1, h2, h3, _⟩ := h.open
  rw [hn] at h1 h2
  have hc := cell_of_heap h1 0
  simp only [List.getElem?_toArray, List.getElem?_cons_zero] at hc
  have H := Lib.hid h
  have HN := Lib.hid hn
  clear h h1 hn
  go_enter Try.func19, Try.ntmps19
  go_wp2_with fail
  go_ret
  exact ⟨by simp, rfl⟩

/-- What last gives: a row that nobody writes into. -/
def GivesLast15 (B : Nat) (w : World) (l : List Int) (e : Ending) (w' : World) : Prop := ∃ u, e = .returned u ∧ OwnI w' B u l ∧ Ext w w'
theorem last15_any {w : World} {B p : Nat} {cs : List (List Int)} (h : IsOrd w B p cs) : Calls Try.prog 23 #[.pointer (some ⟨p, 0, none⟩)] w (GivesLast15 B w (Ord.last cs)) := by
  obtain ⟨g, c, h1, h2, h3, h4⟩ := h.open
  obtain ⟨sh, ho⟩ := h.ok
  have hp := ho.pos
  have hl := ho.last_is
  obtain ⟨a, k, m, hc4, hO⟩ := h4 (cs.length - 1) (by omega)
  rw [← hl] at hO
  have HO := Lib.hid hO
  obtain ⟨n, hn⟩ : ∃ n, cs.length = n + 1 := ⟨cs.length - 1, by omega⟩
  have HE := Lib.hid (fun (wy : World) (hy : Ext w wy) => (entries15_any (h.ext hy) hn).mono fun e w' q => (⟨q.1, q.2 ▸ Ext.refl wy⟩ : e = .returned (.int .i64 (n : Int)) ∧ Ext wy w'))
  rw [hn] at h1 h2 hp hc4
  rw [Nat.add_sub_cancel] at hc4
  have H1 := Lib.hid h1
  have HC4 := Lib.hid hc4
  have HN := Lib.hid hn
  clear h ho h1 hn hc4 hl h4 hO
  go_enter Try.func23, Try.ntmps23
  go_wp2_with fail
  refine wp_region_facts (by kernel_rfl) Ext (fun iop v w => match iop with
      | 0 => v = .pointer (some ⟨p, 0, none⟩)
      | 1 => v = .pointer (some ⟨p, 0, none⟩)
      | 2 => v = .pointer (some ⟨p, 0, none⟩)
      | 3 => v = .slice (some ⟨g, 0, none⟩) (n + 1) c
      | 4 => v = .pointer (some ⟨p, 0, none⟩)
      | 5 => v = .int .i64 (n : Int)
      | 6 => v = .pointer (some ⟨g, n, none⟩)
      | 7 => v = .slice a k m
      | _ => v = .slice a k m
      ) (by kernel_rfl) (fun _ _ _ h k => Ext.trans h k) (fun a => Ext.refl a) (Ext.drew _) ?_ ?_ ?_
  · intro iop v wa wb hF hL
    iterate 8 (rcases iop with _ | iop; exact hF)
    exact hF
  · refine Obls.cons ?_ (Obls.cons ?_ (Obls.cons ?_ (Obls.cons ?_ (Obls.cons ?_ (Obls.cons ?_ (Obls.cons ?_ (Obls.cons ?_ (Obls.cons ?_ (Obls.nil)))))))))
    · intro ev wy hp hl hk hd
      have e0 : ev _ = .pointer (some ⟨p, 0, none⟩) := hk 0 (by decide)
      exact Yield.mv rfl ⟨Ext.refl _, e0⟩
    · intro ev wy hp hl hk hd
      have e3 : ev _ = _ := hk 3 (by decide)
      exact Yield.oq (by simp [execOp, go_sem, e3])
    · intro ev wy hp hl hk hd
      have e4 : ev _ = _ := hk 4 (by decide)
      exact Yield.oq (by simp [execOp, go_sem, e4])
    · intro ev wy hp hl hk hd
      have e5 : ev _ = _ := hk 5 (by decide)
      exact Yield.op (v := .slice (some ⟨g, 0, none⟩) (n + 1) c) (w' := wy) (by simp [execOp, go_sem, e5, cell_of_heap (heap_ext H1.out hl) 0]) ⟨Ext.refl _, rfl⟩
    · intro ev wy hp hl hk hd
      have e0 : ev _ = .pointer (some ⟨p, 0, none⟩) := hk 0 (by decide)
      exact Yield.mv rfl ⟨Ext.refl _, e0⟩
    · intro ev wy hp hl hk hd
      have e7 : ev _ = _ := hk 7 (by decide)
      refine Yield.call rfl hp Try.func19 rfl (by kernel_rfl) ?_
      simp only [List.map_toArray, List.map_cons, List.map_nil, e7]
      exact (HE.out wy hl).mono fun _ _ ⟨he, hb⟩ => ⟨_, he, hb, by first | rfl | simp⟩
    · intro ev wy hp hl hk hd
      have e6 : ev _ = _ := hk 6 (by decide)
      have e8 : ev _ = _ := hk 8 (by decide)
      exact Yield.op (v := .pointer (some ⟨g, n, none⟩)) (w' := wy) (by simp [execOp, go_sem, e6, e8]; intro hq; omega) ⟨Ext.refl _, rfl⟩
    · intro ev wy hp hl hk hd
      have e9 : ev _ = _ := hk 9 (by decide)
      exact Yield.op (v := .slice a k m) (w' := wy) (by simp [execOp, go_sem, e9, cellExt15 HC4.out hl]) ⟨Ext.refl _, rfl⟩
    · intro ev wy hp hl hk hd
      have e10 : ev _ = _ := hk 10 (by decide)
      exact Yield.as rfl ⟨Ext.refl _, e10⟩
  · intro vals wz hz hv
    have g3 : vals 0 = _ := hv 0 (by decide)
    have g4 : vals 1 = _ := hv 1 (by decide)
    have g5 : vals 2 = _ := hv 2 (by decide)
    have g6 : vals 3 = _ := hv 3 (by decide)
    have g7 : vals 4 = _ := hv 4 (by decide)
    have g8 : vals 5 = _ := hv 5 (by decide)
    have g9 : vals 6 = _ := hv 6 (by decide)
    have g10 : vals 7 = _ := hv 7 (by decide)
    have g2 : vals 8 = _ := hv 8 (by decide)
    clear hv
    simp only [putAll, Act.put, List.setIfInBounds_toArray, List.set_cons_zero, List.set_cons_succ, g3, g4, g5, g6, g7, g8, g9, g10, g2]
    clear g3 g4 g5 g6 g7 g8 g9 g10 g2
    go_wp2_with fail
    go_ret
    exact ⟨_, rfl, HO.out.ext hz, hz⟩
theorem Ord.Ok.last_right {sh : Nat} {cs : List (List Int)} (h : Ord.Ok sh cs) : Vec.right (Ord.last cs) = true := by
  rw [h.last_is]
  exact h.right _ (List.getElem_mem _)
theorem Ord.Ok.last_len {sh : Nat} {cs : List (List Int)} (h : Ord.Ok sh cs) : (Ord.last cs).length = sh := by
  rw [h.last_is]
  exact h.len _ _
theorem Ord.Ok.last_total {sh : Nat} {cs : List (List Int)} (h : Ord.Ok sh cs) : Vec.total (Ord.last cs) = (Ord.last cs).sum := by
  unfold Vec.total
  rw [if_pos h.last_right]
theorem len15_any {w : World} {B p : Nat} {cs : List (List Int)} (h : IsOrd w B p cs) : Calls Try.prog 13 #[.pointer (some ⟨p, 0, none⟩)] w fun e w' => e = .returned (.int .i64 (Ord.last cs).sum) ∧ Ext w w' := by
  have HL := Lib.hid (last15_any h)
  obtain ⟨sh, ho⟩ := h.ok
  have HT := Lib.hid ho.last_total
  clear h ho
  go_enter Try.func13, Try.ntmps13
  go_wp2_with fail
  refine HL.out.mono ?_
  rintro e w1 ⟨u, rfl, hO, hE⟩
  obtain ⟨a, n, c, rfl⟩ := hO.slice
  have HO := Lib.hid hO.ints
  have HE := Lib.hid hE
  clear hO hE
  go_wp2_with fail
  refine (total_any _ _ w1 HO.out).mono ?_
  rintro e w2 ⟨rfl, rfl⟩
  rw [HT.out]
  go_wp2_with fail
  go_ret
  exact ⟨rfl, HE.out⟩
theorem cut15_any {w : World} {B p : Nat} {cs : List (List Int)} (h : IsOrd w B p cs) : Calls Try.prog 21 #[.pointer (some ⟨p, 0, none⟩)] w (GivesLast15 w.heap.size w (Ord.last cs)) := by
  have HL := Lib.hid (last15_any h)
  obtain ⟨sh, ho⟩ := h.ok
  have h8 := (Vec.right_ok ho.last_right).2.2
  clear h ho
  go_enter Try.func21, Try.ntmps21
  go_wp2_with fail
  refine HL.out.mono ?_
  rintro e w1 ⟨u, rfl, hO, hE⟩
  obtain ⟨a, n, c, rfl⟩ := hO.slice
  have HO := Lib.hid hO.ints
  have HE := Lib.hid hE
  clear hO hE
  go_wp2_with fail
  refine (cloneI_any _ _ w1 HO.out (by omega)).mono ?_
  rintro e w2 ⟨u, rfl, hO2, hE2⟩
  obtain ⟨a2, n2, c2, rfl⟩ := ownSlice hO2
  have HO2 := Lib.hid (rowLower hO2 HE.out.size)
  have HE2 := Lib.hid (HE.out.trans hE2)
  clear hO2 hE2
  go_wp2_with fail
  go_ret
  exact ⟨_, rfl, HO2.out, HE2.out⟩
/-- What After tells. -/
def Ord.after (cs : List (List Int)) (n : Int) : Int := if 0 ≤ n ∧ n < cs.length then (cs.getD n.toNat []).sum else 0
theorem after15_any {w : World} {B p : Nat} {cs : List (List Int)} (n : Int) (h : IsOrd w B p cs) : Calls Try.prog 22 #[.pointer (some ⟨p, 0, none⟩), .int .i64 n] w fun e w' => e = .returned (.tuple #[.int .i64 (Ord.after cs n), .bool (decide (0 ≤ n ∧ n < cs.length))]) ∧ Ext w w' := by
  obtain ⟨g, c, h1, h2, h3, h4⟩ := h.open
  obtain ⟨sh, ho⟩ := h.ok
  have hp := ho.pos
  obtain ⟨m, hm⟩ : ∃ m, cs.length = m + 1 := ⟨cs.length - 1, by omega⟩
  have HE := Lib.hid (entries15_any h hm)
  by_cases h0 : n < 0
  · have e1 : Hid (Ord.after cs n = 0) := Lib.hid (by unfold Ord.after; rw [if_neg (by omega)])
    have e2 : Hid (decide (0 ≤ n ∧ n < cs.length) = false) := Lib.hid (decide_eq_false (by omega))
    clear h1 h2 h3 h4 ho hm h
    go_enter Try.func22, Try.ntmps22
    go_wp2_with fail
    go_ret2
    exact ⟨by rw [e1.out, e2.out]; rfl, Ext.refl _⟩
  by_cases hb : (m : Int) < n
  · have e1 : Hid (Ord.after cs n = 0) := Lib.hid (by unfold Ord.after; rw [if_neg (by omega)])
    have e2 : Hid (decide (0 ≤ n ∧ n < cs.length) = false) := Lib.hid (decide_eq_false (by omega))
    clear h1 h2 h3 h4 ho hm h
    go_enter Try.func22, Try.ntmps22
    go_wp2_with fail
    refine HE.out.mono ?_
    rintro e w1 ⟨rfl, rfl⟩
    go_wp2_with fail
    go_ret2
    exact ⟨by rw [e1.out, e2.out]; rfl, Ext.refl _⟩
  obtain ⟨k, rfl⟩ : ∃ k : Nat, n = (k : Int) := ⟨n.toNat, by omega⟩
  have hk : k < cs.length := by omega
  have e1 : Hid (Ord.after cs (k : Int) = cs[k].sum) := Lib.hid (by unfold Ord.after; rw [if_pos (by omega), Int.toNat_natCast, List.getD_eq_getElem?_getD, List.getElem?_eq_getElem hk]; rfl)
  have e2 : Hid (decide (0 ≤ (k : Int) ∧ (k : Int) < cs.length) = true) := Lib.hid (decide_eq_true (by omega))
  have HT := Lib.hid (ho.total k hk)
  obtain ⟨a, q, z, hc, hO⟩ := h4 k hk
  have HO := Lib.hid hO.ints
  have hc1 := cell_of_heap h1 0
  rw [hm] at hc1
  simp only [List.getElem?_toArray, List.getElem?_cons_zero] at hc1
  clear h1 h2 h4 ho h hO
  have HM := Lib.hid hm
  have HK := Lib.hid hk
  have hkm : k < m + 1 := by omega
  clear hm
  go_enter Try.func22, Try.ntmps22
  go_wp2_with fail
  refine HE.out.mono ?_
  rintro e w1 ⟨rfl, rfl⟩
  go_wp2_with fail
  refine (total_any _ _ w HO.out).mono ?_
  rintro e w2 ⟨rfl, rfl⟩
  rw [HT.out]
  go_wp2_with fail
  go_ret2
  exact ⟨by rw [e1.out, e2.out]; rfl, Ext.refl _⟩
end Go.Proofs.Ytnldbdgchkknpaa
