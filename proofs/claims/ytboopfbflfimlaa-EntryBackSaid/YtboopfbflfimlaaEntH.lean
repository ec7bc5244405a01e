/-
  Layer 5: whether two entries are one: the program, and the document's own answer.
-/
import Derived.Test.YtboopfbflfimlaaEntG
namespace Go.Proofs.Ytboopfbflfimlaa
set_option linter.unusedSimpArgs false
set_option linter.unusedVariables false
set_option maxRecDepth 100000
open Go.RowKit

set_option maxHeartbeats 8000000 in
theorem same5_any (v u : Value) (a b : Ent.E) (w : World) (hv : IsEnt w v a) (hu : IsEnt w u b) :
    Calls Try.prog 27 #[v, u] w fun x w' => x = .returned (.bool (Ent.alike a b)) ∧ Ext w w' := by
  have hbx := box_ent
  obtain ⟨s1, rfl, ht⟩ := hv
  obtain ⟨s2, rfl, ht2⟩ := hu
  obtain ⟨n, k, c, t, m, p⟩ := a
  obtain ⟨n2, k2, c2, t2, m2, p2⟩ := b
  unfold entV at *
  simp only at ht ht2 ⊢
  obtain ⟨a1, cap1, rfl, hcap1, hmax1, _, _⟩ := ht.open
  obtain ⟨a2, cap2, rfl, hcap2, hmax2, _, _⟩ := ht2.open
  unfold maxLen at hmax1 hmax2
  have HT := Lib.hid ht
  have HT2 := Lib.hid ht2
  clear ht ht2
  have hE : Ext w ((w.alloc (.cells #[.int .i64 n, .int .i64 k, .slice a1 c.length cap1, .int .i64 t, .int .i64 m, .int .i64 p] 31)).alloc (.cells #[.int .i64 n2, .int .i64 k2, .slice a2 c2.length cap2, .int .i64 t2, .int .i64 m2, .int .i64 p2] 31)) := ext_two _ _ _
  have HH := Lib.hid (heap_two w (.cells #[.int .i64 n, .int .i64 k, .slice a1 c.length cap1, .int .i64 t, .int .i64 m, .int .i64 p] 31) (.cells #[.int .i64 n2, .int .i64 k2, .slice a2 c2.length cap2, .int .i64 t2, .int .i64 m2, .int .i64 p2] 31))
  by_cases hn : n = n2
  · subst hn
    by_cases hk : k = k2
    · subst hk
      cases hc : (c == c2) with
      | false =>
        have HC := Lib.hid hc
        clear hc
        have HR := Lib.hid (show Ent.alike ⟨n, k, c, t, m, p⟩ ⟨n, k, c2, t2, m2, p2⟩ = false by unfold Ent.alike; rw [HC.out]; simp)
        go_enter Try.func27, Try.ntmps27
        go_wp2_with fail
        refine (equalS_any _ _ c c2 _ (HT.out.below hE) (HT2.out.below hE)).mono ?_
        rw [HC.out]
        rintro e w3 ⟨rfl, hE3⟩
        have hz := And.intro (cell_of_heap (heap_ext HH.out.1 hE3)) (cell_of_heap (heap_ext HH.out.2 hE3))
        have y3 := hz.1 3
        have y4 := hz.1 4
        have y5 := hz.1 5
        have z3 := hz.2 3
        have z4 := hz.2 4
        have z5 := hz.2 5
        clear hz
        simp at y3 y4 y5 z3 z4 z5
        go_wp2_with fail
        go_ret
        exact ⟨by rw [HR.out]; rfl, hE.trans hE3⟩
      | true =>
        have HC := Lib.hid hc
        clear hc
        by_cases ht : t = t2
        · subst ht
          by_cases hm : m = m2
          · subst hm
            by_cases hp : p = p2
            · subst hp
              have HR := Lib.hid (show Ent.alike ⟨n, k, c, t, m, p⟩ ⟨n, k, c2, t, m, p⟩ = true by unfold Ent.alike; rw [HC.out]; simp)
              go_enter Try.func27, Try.ntmps27
              go_wp2_with fail
              refine (equalS_any _ _ c c2 _ (HT.out.below hE) (HT2.out.below hE)).mono ?_
              rw [HC.out]
              rintro e w3 ⟨rfl, hE3⟩
              have hz := And.intro (cell_of_heap (heap_ext HH.out.1 hE3)) (cell_of_heap (heap_ext HH.out.2 hE3))
              have y3 := hz.1 3
              have y4 := hz.1 4
              have y5 := hz.1 5
              have z3 := hz.2 3
              have z4 := hz.2 4
              have z5 := hz.2 5
              clear hz
              simp at y3 y4 y5 z3 z4 z5
              go_wp2_with fail
              go_ret
              exact ⟨by rw [HR.out]; rfl, hE.trans hE3⟩
            · have HR := Lib.hid (show Ent.alike ⟨n, k, c, t, m, p⟩ ⟨n, k, c2, t, m, p2⟩ = false by unfold Ent.alike; simp [hp])
              go_enter Try.func27, Try.ntmps27
              go_wp2_with fail
              refine (equalS_any _ _ c c2 _ (HT.out.below hE) (HT2.out.below hE)).mono ?_
              rw [HC.out]
              rintro e w3 ⟨rfl, hE3⟩
              have hz := And.intro (cell_of_heap (heap_ext HH.out.1 hE3)) (cell_of_heap (heap_ext HH.out.2 hE3))
              have y3 := hz.1 3
              have y4 := hz.1 4
              have y5 := hz.1 5
              have z3 := hz.2 3
              have z4 := hz.2 4
              have z5 := hz.2 5
              clear hz
              simp at y3 y4 y5 z3 z4 z5
              go_wp2_with fail
              go_ret
              exact ⟨by rw [HR.out]; rfl, hE.trans hE3⟩
          · have HR := Lib.hid (show Ent.alike ⟨n, k, c, t, m, p⟩ ⟨n, k, c2, t, m2, p2⟩ = false by unfold Ent.alike; simp [hm])
            go_enter Try.func27, Try.ntmps27
            go_wp2_with fail
            refine (equalS_any _ _ c c2 _ (HT.out.below hE) (HT2.out.below hE)).mono ?_
            rw [HC.out]
            rintro e w3 ⟨rfl, hE3⟩
            have hz := And.intro (cell_of_heap (heap_ext HH.out.1 hE3)) (cell_of_heap (heap_ext HH.out.2 hE3))
            have y3 := hz.1 3
            have y4 := hz.1 4
            have y5 := hz.1 5
            have z3 := hz.2 3
            have z4 := hz.2 4
            have z5 := hz.2 5
            clear hz
            simp at y3 y4 y5 z3 z4 z5
            go_wp2_with fail
            go_ret
            exact ⟨by rw [HR.out]; rfl, hE.trans hE3⟩
        · have HR := Lib.hid (show Ent.alike ⟨n, k, c, t, m, p⟩ ⟨n, k, c2, t2, m2, p2⟩ = false by unfold Ent.alike; simp [ht])
          go_enter Try.func27, Try.ntmps27
          go_wp2_with fail
          refine (equalS_any _ _ c c2 _ (HT.out.below hE) (HT2.out.below hE)).mono ?_
          rw [HC.out]
          rintro e w3 ⟨rfl, hE3⟩
          have hz := And.intro (cell_of_heap (heap_ext HH.out.1 hE3)) (cell_of_heap (heap_ext HH.out.2 hE3))
          have y3 := hz.1 3
          have y4 := hz.1 4
          have y5 := hz.1 5
          have z3 := hz.2 3
          have z4 := hz.2 4
          have z5 := hz.2 5
          clear hz
          simp at y3 y4 y5 z3 z4 z5
          go_wp2_with fail
          go_ret
          exact ⟨by rw [HR.out]; rfl, hE.trans hE3⟩
    · have HR := Lib.hid (show Ent.alike ⟨n, k, c, t, m, p⟩ ⟨n, k2, c2, t2, m2, p2⟩ = false by unfold Ent.alike; simp [hk])
      go_enter Try.func27, Try.ntmps27
      go_wp2_with fail
      go_ret
      exact ⟨by rw [HR.out]; rfl, hE⟩
  · have HR := Lib.hid (show Ent.alike ⟨n, k, c, t, m, p⟩ ⟨n2, k2, c2, t2, m2, p2⟩ = false by unfold Ent.alike; simp [hn])
    go_enter Try.func27, Try.ntmps27
    go_wp2_with fail
    go_ret
    exact ⟨by rw [HR.out]; rfl, hE⟩
set_option maxHeartbeats 8000000 in
theorem refSame5_any (v u : Value) (a b : Ent.E) (w : World) (hv : IsEnt w v a) (hu : IsEnt w u b) :
    Calls Try.prog 18 #[v, u] w fun x w' => x = .returned (.bool (Ent.alike a b)) ∧ Ext w w' := by
  have hbx := box_entR
  obtain ⟨s1, rfl, ht⟩ := hv
  obtain ⟨s2, rfl, ht2⟩ := hu
  obtain ⟨n, k, c, t, m, p⟩ := a
  obtain ⟨n2, k2, c2, t2, m2, p2⟩ := b
  unfold entV at *
  simp only at ht ht2 ⊢
  obtain ⟨a1, cap1, rfl, hcap1, hmax1, _, _⟩ := ht.open
  obtain ⟨a2, cap2, rfl, hcap2, hmax2, _, _⟩ := ht2.open
  unfold maxLen at hmax1 hmax2
  have HT := Lib.hid ht
  have HT2 := Lib.hid ht2
  clear ht ht2
  have hE : Ext w ((w.alloc (.cells #[.int .i64 n, .int .i64 k, .slice a1 c.length cap1, .int .i64 t, .int .i64 m, .int .i64 p] 26)).alloc (.cells #[.int .i64 n2, .int .i64 k2, .slice a2 c2.length cap2, .int .i64 t2, .int .i64 m2, .int .i64 p2] 26)) := ext_two _ _ _
  have HH := Lib.hid (heap_two w (.cells #[.int .i64 n, .int .i64 k, .slice a1 c.length cap1, .int .i64 t, .int .i64 m, .int .i64 p] 26) (.cells #[.int .i64 n2, .int .i64 k2, .slice a2 c2.length cap2, .int .i64 t2, .int .i64 m2, .int .i64 p2] 26))
  by_cases hn : n = n2
  · subst hn
    by_cases hk : k = k2
    · subst hk
      by_cases ht : t = t2
      · subst ht
        by_cases hm : m = m2
        · subst hm
          by_cases hp : p = p2
          · subst hp
            cases hc : (c == c2) with
            | false =>
              have HC := Lib.hid hc
              clear hc
              have HR := Lib.hid (show Ent.alike ⟨n, k, c, t, m, p⟩ ⟨n, k, c2, t, m, p⟩ = false by unfold Ent.alike; rw [HC.out]; simp)
              go_enter Try.func18, Try.ntmps18
              go_wp2_with fail
              refine (equal3_any _ _ c c2 _ (HT.out.below hE) (HT2.out.below hE)).mono ?_
              rw [HC.out]
              rintro e w3 ⟨rfl, hE3⟩
              have hz := And.intro (cell_of_heap (heap_ext HH.out.1 hE3)) (cell_of_heap (heap_ext HH.out.2 hE3))
              have y3 := hz.1 3
              have y4 := hz.1 4
              have y5 := hz.1 5
              have z3 := hz.2 3
              have z4 := hz.2 4
              have z5 := hz.2 5
              clear hz
              simp at y3 y4 y5 z3 z4 z5
              go_wp2_with fail
              go_ret
              exact ⟨by rw [HR.out]; rfl, hE.trans hE3⟩
            | true =>
              have HC := Lib.hid hc
              clear hc
              have HR := Lib.hid (show Ent.alike ⟨n, k, c, t, m, p⟩ ⟨n, k, c2, t, m, p⟩ = true by unfold Ent.alike; rw [HC.out]; simp)
              go_enter Try.func18, Try.ntmps18
              go_wp2_with fail
              refine (equal3_any _ _ c c2 _ (HT.out.below hE) (HT2.out.below hE)).mono ?_
              rw [HC.out]
              rintro e w3 ⟨rfl, hE3⟩
              have hz := And.intro (cell_of_heap (heap_ext HH.out.1 hE3)) (cell_of_heap (heap_ext HH.out.2 hE3))
              have y3 := hz.1 3
              have y4 := hz.1 4
              have y5 := hz.1 5
              have z3 := hz.2 3
              have z4 := hz.2 4
              have z5 := hz.2 5
              clear hz
              simp at y3 y4 y5 z3 z4 z5
              go_wp2_with fail
              go_ret
              exact ⟨by rw [HR.out]; rfl, hE.trans hE3⟩
          · have HR := Lib.hid (show Ent.alike ⟨n, k, c, t, m, p⟩ ⟨n, k, c2, t, m, p2⟩ = false by unfold Ent.alike; simp [hp])
            go_enter Try.func18, Try.ntmps18
            go_wp2_with fail
            go_ret
            exact ⟨by rw [HR.out]; rfl, hE⟩
        · have HR := Lib.hid (show Ent.alike ⟨n, k, c, t, m, p⟩ ⟨n, k, c2, t, m2, p2⟩ = false by unfold Ent.alike; simp [hm])
          go_enter Try.func18, Try.ntmps18
          go_wp2_with fail
          go_ret
          exact ⟨by rw [HR.out]; rfl, hE⟩
      · have HR := Lib.hid (show Ent.alike ⟨n, k, c, t, m, p⟩ ⟨n, k, c2, t2, m2, p2⟩ = false by unfold Ent.alike; simp [ht])
        go_enter Try.func18, Try.ntmps18
        go_wp2_with fail
        go_ret
        exact ⟨by rw [HR.out]; rfl, hE⟩
    · have HR := Lib.hid (show Ent.alike ⟨n, k, c, t, m, p⟩ ⟨n, k2, c2, t2, m2, p2⟩ = false by unfold Ent.alike; simp [hk])
      go_enter Try.func18, Try.ntmps18
      go_wp2_with fail
      go_ret
      exact ⟨by rw [HR.out]; rfl, hE⟩
  · have HR := Lib.hid (show Ent.alike ⟨n, k, c, t, m, p⟩ ⟨n2, k2, c2, t2, m2, p2⟩ = false by unfold Ent.alike; simp [hn])
    go_enter Try.func18, Try.ntmps18
    go_wp2_with fail
    go_ret
    exact ⟨by rw [HR.out]; rfl, hE⟩
end Go.Proofs.Ytboopfbflfimlaa
