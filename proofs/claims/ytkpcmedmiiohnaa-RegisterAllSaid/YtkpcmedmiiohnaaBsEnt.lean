/-
  Merged: Layer 5, mathematics: bytes as an entry, vectors read as the program and the document read them; Layer 5, the program: entries by value; Layer 5, the program: which entries may be; Layer 5: which entries may be: the document's own answer; Layer 5, the program: entries as bytes; Layer 5: entries as bytes: the document's own answer; Layer 5, mathematics: bytes as an entry, read part by part up to what each part may be: it is the same as to read, and to write again; Layer 5, the program: bytes as entries; Layer 5: whether two entries are one: the program, and the document's own answer; Layer 5: bytes as entries: the document's own answer; Layer 5, the program: rows of entries, and how many of them follow one another; Layer 5: how many entries follow one another, and the last cut: the program; Layer 5: may an entry stand behind others: the document's own answer; Layer 5: how many entries follow one another, and the last cut: the document's own answers; Layer 5: entries of the program's, of the document's (the statements' own); slices.
-/
import Derived.Deep.RegionLaw
import Derived.Test.YtkpcmedmiiohnaaBsCrcPut
import Derived.Test.YtkpcmedmiiohnaaBsCrcRef
import Derived.Test.YtkpcmedmiiohnaaBsLib
import Derived.Test.YtkpcmedmiiohnaaBsLibW
import Derived.Test.YtkpcmedmiiohnaaBsMath
import Derived.Test.YtkpcmedmiiohnaaBsPack
import Derived.Test.YtkpcmedmiiohnaaBsVec

set_option linter.unusedSimpArgs false
set_option linter.unusedVariables false

/- Layer 5, mathematics: bytes as an entry, vectors read as the program and the document read them. -/
namespace Go.Proofs.Ytkpcmedmiiohnaa.Ent

end Go.Proofs.Ytkpcmedmiiohnaa.Ent

namespace Go.Proofs.Ytkpcmedmiiohnaa
set_option linter.unusedSimpArgs false
set_option linter.unusedVariables false
set_option maxRecDepth 100000
open Go.RowKit
/- Layer 5, the program: entries by value; which may be. -/
/-- An entry, by value: its cut's slice, and what it holds. -/
def entV (t : Value) (e : Ent.E) : Value := .agg #[.int .i64 e.number, .int .i64 e.kind, t, .int .i64 e.tag, .int .i64 e.term, .int .i64 e.pos]
def IsEnt (w : World) (v : Value) (e : Ent.E) : Prop := ∃ t, v = entV t e ∧ Ints w t e.cut
theorem IsEnt.below {w w' : World} {v : Value} {e : Ent.E} (h : IsEnt w v e) (hb : Below w.heap.size w w') : IsEnt w' v e := by
  obtain ⟨t, rfl, h⟩ := h
  exact ⟨t, rfl, h.below hb⟩
/-- An entry's value, opened. -/
theorem IsEnt.shape {w : World} {v : Value} {e : Ent.E} (h : IsEnt w v e) : ∃ a n c, v = .agg #[.int .i64 e.number, .int .i64 e.kind, .slice a n c, .int .i64 e.tag, .int .i64 e.term, .int .i64 e.pos] := by
  obtain ⟨t, rfl, ht⟩ := h
  obtain ⟨a, c, rfl, _⟩ := ht.open
  exact ⟨_, _, _, rfl⟩
/-- Block p is an entry (of the program's type, or of the document's). -/
def EntAt (T : TypeId) (w : World) (p : Nat) (t : Value) (e : Ent.E) : Prop := w.heap[p]? = some (.cells #[.int .i64 e.number, .int .i64 e.kind, t, .int .i64 e.tag, .int .i64 e.term, .int .i64 e.pos] T (0, 0))
theorem EntAt.new (T : TypeId) (w : World) (t : Value) (e : Ent.E) : EntAt T (w.alloc (.cells #[.int .i64 e.number, .int .i64 e.kind, t, .int .i64 e.tag, .int .i64 e.term, .int .i64 e.pos] T)) w.heap.size t e := heap_alloc_new w _
theorem EntAt.lt {T : TypeId} {w : World} {p : Nat} {t : Value} {e : Ent.E} (h : EntAt T w p t e) : p < w.heap.size := (Array.getElem?_eq_some_iff.1 h).1
theorem EntAt.ext {T : TypeId} {w w' : World} {p : Nat} {t : Value} {e : Ent.E} (h : EntAt T w p t e) (hE : Ext w w') : EntAt T w' p t e := (hE.block p h.lt).trans h
theorem EntAt.but {T : TypeId} {w w' : World} {p q : Nat} {t : Value} {e : Ent.E} (h : EntAt T w p t e) (hB : But q w w') (hne : p ≠ q) : EntAt T w' p t e := (hB.block p h.lt hne).trans h
theorem EntAt.cells {T : TypeId} {w : World} {p : Nat} {t : Value} {e : Ent.E} (h : EntAt T w p t e) : w.cell? ⟨p, 0, none⟩ = some (.int .i64 e.number) ∧ w.cell? ⟨p, 1, none⟩ = some (.int .i64 e.kind) ∧ w.cell? ⟨p, 2, none⟩ = some t ∧ w.cell? ⟨p, 3, none⟩ = some (.int .i64 e.tag) ∧ w.cell? ⟨p, 4, none⟩ = some (.int .i64 e.term) ∧ w.cell? ⟨p, 5, none⟩ = some (.int .i64 e.pos) :=
  ⟨cell_of_heap h 0, cell_of_heap h 1, cell_of_heap h 2, cell_of_heap h 3, cell_of_heap h 4, cell_of_heap h 5⟩

theorem box_ent (w : World) (n k t m p : Int) (v : Value) : (Instr.box 63 (.agg #[.int .i64 n, .int .i64 k, v, .int .i64 t, .int .i64 m, .int .i64 p])).run Try.prog w = .ok (.pointer (some ⟨w.heap.size, 0, none⟩)) (w.alloc (.cells #[.int .i64 n, .int .i64 k, v, .int .i64 t, .int .i64 m, .int .i64 p] 63)) := by kernel_rfl
theorem box_entR (w : World) (n k t m p : Int) (v : Value) : (Instr.box 65 (.agg #[.int .i64 n, .int .i64 k, v, .int .i64 t, .int .i64 m, .int .i64 p])).run Try.prog w = .ok (.pointer (some ⟨w.heap.size, 0, none⟩)) (w.alloc (.cells #[.int .i64 n, .int .i64 k, v, .int .i64 t, .int .i64 m, .int .i64 p] 65)) := by kernel_rfl
theorem build_seq0 (w : World) : (Instr.build 49 #[]).run Try.prog w = .ok (.agg #[.int .i64 0, .int .i64 0]) w := by kernel_rfl

set_option maxHeartbeats 1000000 in
theorem isBetween5_any (n a b : Int) (w : World) : Calls Try.prog 70 #[.int .i64 n, .int .i64 a, .int .i64 b] w fun e w' => e = .returned (.bool (decide (a ≤ n ∧ n ≤ b))) ∧ w = w' := by
  by_cases h0 : a ≤ n
  · by_cases h1 : n ≤ b
    · have e : decide (a ≤ n ∧ n ≤ b) = true := by simp [h0, h1]
      rw [e]
      clear e
      go_enter Try.func70, Try.ntmps70
      go_wp2
      go_ret
      exact ⟨rfl, rfl⟩
    · have e : decide (a ≤ n ∧ n ≤ b) = false := by simp [h1]
      rw [e]
      clear e
      go_enter Try.func70, Try.ntmps70
      go_wp2
      go_ret
      exact ⟨rfl, rfl⟩
  · have e : decide (a ≤ n ∧ n ≤ b) = false := by simp [h0]
    rw [e]
    clear e
    go_enter Try.func70, Try.ntmps70
    go_wp2
    go_ret
    exact ⟨rfl, rfl⟩
/- Layer 5, the program: which entries may be. -/
theorem Ent.right_no {n k : Int} {c : List Int} {t m p : Int} (h : decide (1 ≤ n ∧ n ≤ 1099511627776) = false) : Ent.right ⟨n, k, c, t, m, p⟩ = false := by
  unfold Ent.right; simp only [h, Bool.false_and]
theorem Ent.right_one {n : Int} {c : List Int} {t m p : Int} (h : decide (1 ≤ n ∧ n ≤ 1099511627776) = true) : Ent.right ⟨n, 1, c, t, m, p⟩ = (Vec.right c && decide (t = 0 ∧ m = 0 ∧ p = 0)) := by
  unfold Ent.right Ent.rightCut Ent.rightTrim; simp only [h]; simp
theorem Ent.right_two {n : Int} {c : List Int} {t m p : Int} (h : decide (1 ≤ n ∧ n ≤ 1099511627776) = true) : Ent.right ⟨n, 2, c, t, m, p⟩ = (c.isEmpty && (decide (0 ≤ t ∧ t ≤ 1073741824) && (decide (1 ≤ m ∧ m ≤ 64) && decide (0 ≤ p ∧ p ≤ 1099511627776)))) := by
  unfold Ent.right Ent.rightCut Ent.rightTrim; simp only [h]; simp
theorem Ent.right_other {n k : Int} {c : List Int} {t m p : Int} (h1 : k ≠ 1) (h2 : k ≠ 2) : Ent.right ⟨n, k, c, t, m, p⟩ = false := by
  unfold Ent.right; simp [h1, h2]
theorem isEmpty_len (c : List Int) : c.isEmpty = decide ((c.length : Int) = 0) := by
  cases c with
  | nil => rfl
  | cons x c => simp; omega

set_option maxHeartbeats 4000000 in
theorem right5_any (v : Value) (e : Ent.E) (w : World) (hv : IsEnt w v e) :
    Calls Try.prog 64 #[v] w fun x w' => x = .returned (.bool (Ent.right e)) ∧ Ext w w' := by
  have hbx := box_ent
  have hb0 := build_seq0
  obtain ⟨u, rfl, hu⟩ := hv
  obtain ⟨n, k, c, t, m, p⟩ := e
  unfold entV
  simp only at hu ⊢
  have HU := Lib.hid hu
  obtain ⟨a, cap, rfl, hcap, hmax, _, _⟩ := hu.open
  unfold maxLen at hmax
  clear hu
  have hE0 : Ext w (w.alloc (.cells #[.int .i64 n, .int .i64 k, .slice a c.length cap, .int .i64 t, .int .i64 m, .int .i64 p] 63)) := Ext.alloc _ _
  cases hn : decide (1 ≤ n ∧ n ≤ 1099511627776) with
  | false =>
    have HN := Lib.hid hn
    have HR := Lib.hid (Ent.right_no (k := k) (c := c) (t := t) (m := m) (p := p) hn)
    clear hn
    go_enter Try.func64, Try.ntmps64
    go_wp2_with fail
    refine (isBetween5_any _ _ _ _).mono ?_
    rw [HN.out]
    rintro e w1 ⟨rfl, rfl⟩
    go_wp2_with fail
    go_ret
    exact ⟨by rw [HR.out]; rfl, hE0⟩
  | true =>
    by_cases k1 : k = 1
    · subst k1
      have HN := Lib.hid hn
      have HR := Lib.hid (Ent.right_one (c := c) (t := t) (m := m) (p := p) hn)
      clear hn
      cases hv : Vec.right c with
      | false =>
        have HV := Lib.hid hv
        clear hv
        go_enter Try.func64, Try.ntmps64
        go_wp2_with fail
        refine (isBetween5_any _ _ _ _).mono ?_
        rw [HN.out]
        rintro e w1 ⟨rfl, rfl⟩
        go_wp2_with fail
        refine (right_any _ c _ (HU.out.below hE0)).mono ?_
        rw [HV.out]
        rintro e w1 ⟨rfl, rfl⟩
        go_wp2_with fail
        go_ret
        exact ⟨by rw [HR.out, HV.out]; rfl, hE0⟩
      | true =>
        have HV := Lib.hid hv
        clear hv
        by_cases t0 : t = 0
        · by_cases m0 : m = 0
          · by_cases p0 : p = 0
            · subst t0 m0 p0
              replace HR := Lib.hid (show Ent.right ⟨n, 1, c, 0, 0, 0⟩ = true by rw [HR.out, HV.out]; rfl)
              go_enter Try.func64, Try.ntmps64
              go_wp2_with fail
              refine (isBetween5_any _ _ _ _).mono ?_
              rw [HN.out]
              rintro e w1 ⟨rfl, rfl⟩
              go_wp2_with fail
              refine (right_any _ c _ (HU.out.below hE0)).mono ?_
              rw [HV.out]
              rintro e w1 ⟨rfl, rfl⟩
              go_wp2_with fail
              go_ret
              exact ⟨by rw [HR.out]; rfl, hE0⟩
            · subst t0 m0
              replace HR := Lib.hid (show Ent.right ⟨n, 1, c, 0, 0, p⟩ = false by rw [HR.out, HV.out]; simp [p0])
              go_enter Try.func64, Try.ntmps64
              go_wp2_with fail
              refine (isBetween5_any _ _ _ _).mono ?_
              rw [HN.out]
              rintro e w1 ⟨rfl, rfl⟩
              go_wp2_with fail
              refine (right_any _ c _ (HU.out.below hE0)).mono ?_
              rw [HV.out]
              rintro e w1 ⟨rfl, rfl⟩
              go_wp2_with fail
              go_ret
              exact ⟨by rw [HR.out]; rfl, hE0⟩
          · subst t0
            replace HR := Lib.hid (show Ent.right ⟨n, 1, c, 0, m, p⟩ = false by rw [HR.out, HV.out]; simp [m0])
            go_enter Try.func64, Try.ntmps64
            go_wp2_with fail
            refine (isBetween5_any _ _ _ _).mono ?_
            rw [HN.out]
            rintro e w1 ⟨rfl, rfl⟩
            go_wp2_with fail
            refine (right_any _ c _ (HU.out.below hE0)).mono ?_
            rw [HV.out]
            rintro e w1 ⟨rfl, rfl⟩
            go_wp2_with fail
            go_ret
            exact ⟨by rw [HR.out]; rfl, hE0⟩
        · replace HR := Lib.hid (show Ent.right ⟨n, 1, c, t, m, p⟩ = false by rw [HR.out, HV.out]; simp [t0])
          go_enter Try.func64, Try.ntmps64
          go_wp2_with fail
          refine (isBetween5_any _ _ _ _).mono ?_
          rw [HN.out]
          rintro e w1 ⟨rfl, rfl⟩
          go_wp2_with fail
          refine (right_any _ c _ (HU.out.below hE0)).mono ?_
          rw [HV.out]
          rintro e w1 ⟨rfl, rfl⟩
          go_wp2_with fail
          go_ret
          exact ⟨by rw [HR.out]; rfl, hE0⟩
    · by_cases k2 : k = 2
      · subst k2
        have HN := Lib.hid hn
        have HR := Lib.hid (Ent.right_two (c := c) (t := t) (m := m) (p := p) hn)
        clear hn
        by_cases hc : (c.length : Int) = 0
        · have HC := Lib.hid (show c.isEmpty = true by rw [isEmpty_len]; simpa using hc)
          cases ht : decide (0 ≤ t ∧ t ≤ 1073741824) with
          | false =>
            rw [HC.out, ht] at HR
            have HT := Lib.hid ht
            clear ht
            go_enter Try.func64, Try.ntmps64
            go_wp2_with fail
            refine (isBetween5_any _ _ _ _).mono ?_
            rw [HN.out]
            rintro e w1 ⟨rfl, rfl⟩
            go_wp2_with fail
            refine (isBetween5_any _ _ _ _).mono ?_
            rw [HT.out]
            rintro e w1 ⟨rfl, rfl⟩
            go_wp2_with fail
            go_ret
            exact ⟨by rw [HR.out]; rfl, hE0⟩
          | true =>
            cases hm : decide (1 ≤ m ∧ m ≤ 64) with
            | false =>
              rw [HC.out, ht, hm] at HR
              have HT := Lib.hid ht
              have HM := Lib.hid hm
              clear ht hm
              go_enter Try.func64, Try.ntmps64
              go_wp2_with fail
              refine (isBetween5_any _ _ _ _).mono ?_
              rw [HN.out]
              rintro e w1 ⟨rfl, rfl⟩
              go_wp2_with fail
              refine (isBetween5_any _ _ _ _).mono ?_
              rw [HT.out]
              rintro e w1 ⟨rfl, rfl⟩
              go_wp2_with fail
              refine (isBetween5_any _ _ _ _).mono ?_
              rw [HM.out]
              rintro e w1 ⟨rfl, rfl⟩
              go_wp2_with fail
              go_ret
              exact ⟨by rw [HR.out]; rfl, hE0⟩
            | true =>
              rw [HC.out, ht, hm] at HR
              have HT := Lib.hid ht
              have HM := Lib.hid hm
              clear ht hm
              go_enter Try.func64, Try.ntmps64
              go_wp2_with fail
              refine (isBetween5_any _ _ _ _).mono ?_
              rw [HN.out]
              rintro e w1 ⟨rfl, rfl⟩
              go_wp2_with fail
              refine (isBetween5_any _ _ _ _).mono ?_
              rw [HT.out]
              rintro e w1 ⟨rfl, rfl⟩
              go_wp2_with fail
              refine (isBetween5_any _ _ _ _).mono ?_
              rw [HM.out]
              rintro e w1 ⟨rfl, rfl⟩
              go_wp2_with fail
              refine (isBetween5_any _ _ _ _).mono ?_
              generalize decide (0 ≤ p ∧ p ≤ 1099511627776) = dp at *
              rintro e w1 ⟨rfl, rfl⟩
              cases dp <;> (go_wp2_with fail; go_ret; exact ⟨by rw [HR.out]; rfl, hE0⟩)
        · have HC := Lib.hid (show c.isEmpty = false by rw [isEmpty_len]; simpa using hc)
          rw [HC.out] at HR
          have hcb : ((c.length : Int) == 0) = false := by simpa using hc
          go_enter Try.func64, Try.ntmps64
          go_wp2_with fail
          refine (isBetween5_any _ _ _ _).mono ?_
          rw [HN.out]
          rintro e w1 ⟨rfl, rfl⟩
          go_wp2_with fail
          go_ret
          exact ⟨by rw [HR.out]; rfl, hE0⟩
      · have HN := Lib.hid hn
        have HR := Lib.hid (Ent.right_other (n := n) (c := c) (t := t) (m := m) (p := p) k1 k2)
        clear hn
        go_enter Try.func64, Try.ntmps64
        go_wp2_with fail
        refine (isBetween5_any _ _ _ _).mono ?_
        rw [HN.out]
        rintro e w1 ⟨rfl, rfl⟩
        go_wp2_with fail
        go_ret
        exact ⟨by rw [HR.out]; rfl, hE0⟩
/- Layer 5: which entries may be: the document's own answer. -/
set_option maxHeartbeats 4000000 in
theorem refRight5_any (v : Value) (e : Ent.E) (w : World) (hv : IsEnt w v e) :
    Calls Try.prog 62 #[v] w fun x w' => x = .returned (.bool (Ent.right e)) ∧ Ext w w' := by
  have hbx := box_entR
  obtain ⟨u, rfl, hu⟩ := hv
  obtain ⟨n, k, c, t, m, p⟩ := e
  unfold entV
  simp only at hu ⊢
  have HU := Lib.hid hu
  obtain ⟨a, cap, rfl, hcap, hmax, _, _⟩ := hu.open
  unfold maxLen at hmax
  clear hu
  have hE0 : Ext w (w.alloc (.cells #[.int .i64 n, .int .i64 k, .slice a c.length cap, .int .i64 t, .int .i64 m, .int .i64 p] 65)) := Ext.alloc _ _
  by_cases n0 : n < 1
  · have HR := Lib.hid (show Ent.right ⟨n, k, c, t, m, p⟩ = false by exact Ent.right_no (by simp; omega))
    go_enter Try.func62, Try.ntmps62
    go_wp2_with fail
    go_ret
    exact ⟨by rw [HR.out]; rfl, hE0⟩
  by_cases n1 : (1099511627776 : Int) < n
  · have HR := Lib.hid (show Ent.right ⟨n, k, c, t, m, p⟩ = false by exact Ent.right_no (by simp; omega))
    go_enter Try.func62, Try.ntmps62
    go_wp2_with fail
    go_ret
    exact ⟨by rw [HR.out]; rfl, hE0⟩
  have hn : decide (1 ≤ n ∧ n ≤ 1099511627776) = true := by simp; omega
  by_cases k1 : k = 1
  · subst k1
    have HD := Lib.hid (Ent.right_one (c := c) (t := t) (m := m) (p := p) hn)
    clear hn
    cases hv : Vec.right c with
    | false =>
      have HV := Lib.hid hv
      have HR := Lib.hid (show Ent.right ⟨n, 1, c, t, m, p⟩ = false by rw [HD.out, hv]; rfl)
      clear hv
      go_enter Try.func62, Try.ntmps62
      go_wp2_with fail
      refine (refRight_any _ c _ (HU.out.below hE0)).mono ?_
      rw [HV.out]
      rintro e w1 ⟨rfl, rfl⟩
      go_wp2_with fail
      go_ret
      exact ⟨by rw [HR.out]; rfl, hE0⟩
    | true =>
      have HV := Lib.hid hv
      clear hv
      by_cases t0 : t = 0
      rotate_left
      · have HR := Lib.hid (show Ent.right ⟨n, 1, c, t, m, p⟩ = false by rw [HD.out]; simp [t0])
        go_enter Try.func62, Try.ntmps62
        go_wp2_with fail
        refine (refRight_any _ c _ (HU.out.below hE0)).mono ?_
        rw [HV.out]
        rintro e w1 ⟨rfl, rfl⟩
        go_wp2_with fail
        go_ret
        exact ⟨by rw [HR.out]; rfl, hE0⟩
      subst t0
      by_cases m0 : m = 0
      rotate_left
      · have HR := Lib.hid (show Ent.right ⟨n, 1, c, 0, m, p⟩ = false by rw [HD.out]; simp [m0])
        go_enter Try.func62, Try.ntmps62
        go_wp2_with fail
        refine (refRight_any _ c _ (HU.out.below hE0)).mono ?_
        rw [HV.out]
        rintro e w1 ⟨rfl, rfl⟩
        go_wp2_with fail
        go_ret
        exact ⟨by rw [HR.out]; rfl, hE0⟩
      subst m0
      by_cases p0 : p = 0
      rotate_left
      · have HR := Lib.hid (show Ent.right ⟨n, 1, c, 0, 0, p⟩ = false by rw [HD.out]; simp [p0])
        go_enter Try.func62, Try.ntmps62
        go_wp2_with fail
        refine (refRight_any _ c _ (HU.out.below hE0)).mono ?_
        rw [HV.out]
        rintro e w1 ⟨rfl, rfl⟩
        go_wp2_with fail
        go_ret
        exact ⟨by rw [HR.out]; show Ending.returned (.bool (p == 0)) = _; rw [beq_eq_false_iff_ne.2 p0], hE0⟩
      subst p0
      have HR := Lib.hid (show Ent.right ⟨n, 1, c, 0, 0, 0⟩ = true by rw [HD.out, HV.out]; rfl)
      go_enter Try.func62, Try.ntmps62
      go_wp2_with fail
      refine (refRight_any _ c _ (HU.out.below hE0)).mono ?_
      rw [HV.out]
      rintro e w1 ⟨rfl, rfl⟩
      go_wp2_with fail
      go_ret
      exact ⟨by rw [HR.out]; rfl, hE0⟩
  · by_cases k2 : k = 2
    rotate_left
    · have HR := Lib.hid (Ent.right_other (n := n) (c := c) (t := t) (m := m) (p := p) k1 k2)
      clear hn
      go_enter Try.func62, Try.ntmps62
      go_wp2_with fail
      go_ret
      exact ⟨by rw [HR.out]; rfl, hE0⟩
    subst k2
    have HD := Lib.hid (Ent.right_two (c := c) (t := t) (m := m) (p := p) hn)
    clear hn
    by_cases c0 : (0 : Int) < (c.length : Int)
    · have HR := Lib.hid (show Ent.right ⟨n, 2, c, t, m, p⟩ = false by rw [HD.out, isEmpty_len, decide_eq_false (by omega)]; rfl)
      have hce : ¬ c = [] := by rintro rfl; simp at c0
      go_enter Try.func62, Try.ntmps62
      go_wp2_with fail
      go_ret
      exact ⟨by rw [HR.out]; rfl, hE0⟩
    obtain rfl : c = [] := by cases c with
      | nil => rfl
      | cons x c => exact absurd (show (0 : Int) < ((x :: c).length : Int) by simp) c0
    by_cases c1 : t < 0
    · have HR := Lib.hid (show Ent.right ⟨n, 2, [], t, m, p⟩ = false by rw [HD.out]; simp; omega)
      go_enter Try.func62, Try.ntmps62
      go_wp2_with fail
      go_ret
      exact ⟨by rw [HR.out]; rfl, hE0⟩
    by_cases c2 : (1073741824 : Int) < t
    · have HR := Lib.hid (show Ent.right ⟨n, 2, [], t, m, p⟩ = false by rw [HD.out]; simp; omega)
      go_enter Try.func62, Try.ntmps62
      go_wp2_with fail
      go_ret
      exact ⟨by rw [HR.out]; rfl, hE0⟩
    by_cases c3 : m < 1
    · have HR := Lib.hid (show Ent.right ⟨n, 2, [], t, m, p⟩ = false by rw [HD.out]; simp; omega)
      go_enter Try.func62, Try.ntmps62
      go_wp2_with fail
      go_ret
      exact ⟨by rw [HR.out]; rfl, hE0⟩
    by_cases c4 : (64 : Int) < m
    · have HR := Lib.hid (show Ent.right ⟨n, 2, [], t, m, p⟩ = false by rw [HD.out]; simp; omega)
      go_enter Try.func62, Try.ntmps62
      go_wp2_with fail
      go_ret
      exact ⟨by rw [HR.out]; rfl, hE0⟩
    by_cases c5 : p < 0
    · have HR := Lib.hid (show Ent.right ⟨n, 2, [], t, m, p⟩ = false by rw [HD.out]; simp; omega)
      go_enter Try.func62, Try.ntmps62
      go_wp2_with fail
      go_ret
      exact ⟨by rw [HR.out]; rfl, hE0⟩
    by_cases c6 : (1099511627776 : Int) < p
    · have HR := Lib.hid (show Ent.right ⟨n, 2, [], t, m, p⟩ = false by rw [HD.out]; simp; omega)
      go_enter Try.func62, Try.ntmps62
      go_wp2_with fail
      go_ret
      exact ⟨by rw [HR.out]; show Ending.returned (.bool (decide (p ≤ 1099511627776))) = _; rw [decide_eq_false (by omega)], hE0⟩
    have HR := Lib.hid (show Ent.right ⟨n, 2, [], t, m, p⟩ = true by rw [HD.out, isEmpty_len, decide_eq_true (by omega), decide_eq_true (by omega), decide_eq_true (by omega), decide_eq_true (by omega)]; rfl)
    go_enter Try.func62, Try.ntmps62
    go_wp2_with fail
    go_ret
    exact ⟨by rw [HR.out]; rfl, hE0⟩
/- Layer 5, the program: entries as bytes. -/
/- Layer 5: entries as bytes: the document's own answer. -/
end Go.Proofs.Ytkpcmedmiiohnaa

namespace Go.Proofs.Ytkpcmedmiiohnaa

/- Layer 5, mathematics: bytes as an entry, read part by part up to what each part may be: it is the same as to read, and to write again. -/
namespace Ent

/-! The program's reading: each part up to what it may be. -/
/-- What Decode tells. -/
def noE : E := ⟨0, 0, [], 0, 0, 0⟩
end Ent
end Go.Proofs.Ytkpcmedmiiohnaa

namespace Go.Proofs.Ytkpcmedmiiohnaa
set_option linter.unusedSimpArgs false
set_option linter.unusedVariables false
set_option maxRecDepth 100000
open Go.RowKit
/- Layer 5, the program: bytes as entries. -/
/-- A row of new blocks alone. -/
def RowN (B : Nat) (w : World) (v : Value) (l : List Int) : Prop := ∃ b n, B ≤ b ∧ w.ownsRow b 3 1 v n (i64s l)
theorem RowN.nil (B : Nat) (w : World) : RowN B w (.slice none 0 0) [] := ⟨B, 0, Nat.le_refl _, World.ownsRow_nil _ _ _ _⟩
theorem RowN.row {B : Nat} {w : World} {v : Value} {l : List Int} (h : RowN B w v l) : RowI w v l := by
  obtain ⟨b, n, _, h⟩ := h
  exact ⟨b, n, h⟩
def RowEnt (w : World) (v : Value) (e : Ent.E) : Prop := ∃ t, v = entV t e ∧ RowI w t e.cut
theorem RowEnt.is {w : World} {v : Value} {e : Ent.E} (h : RowEnt w v e) : IsEnt w v e := by
  obtain ⟨t, e, h⟩ := h
  exact ⟨t, e, h.ints⟩
theorem EntAt.zero (T : TypeId) (w : World) : EntAt T (w.alloc (.cells #[.int .i64 0, .int .i64 0, .slice none 0 0, .int .i64 0, .int .i64 0, .int .i64 0] T)) w.heap.size (.slice none 0 0) Ent.noE := by
  unfold EntAt Ent.noE
  exact heap_alloc_new w _
theorem set_six {w : World} {q : Nat} {x0 x1 x2 x3 x4 x5 : Value} {T : TypeId} (h : w.heap[q]? = some (.cells #[x0, x1, x2, x3, x4, x5] T (0, 0))) (v0 v1 v2 v3 v4 v5 : Value) :
    ((((((w.setCell ⟨q, 0, none⟩ v0).setCell ⟨q, 1, none⟩ v1).setCell ⟨q, 2, none⟩ v2).setCell ⟨q, 3, none⟩ v3).setCell ⟨q, 4, none⟩ v4).setCell ⟨q, 5, none⟩ v5).heap[q]? = some (.cells #[v0, v1, v2, v3, v4, v5] T (0, 0)) ∧ But q w ((((((w.setCell ⟨q, 0, none⟩ v0).setCell ⟨q, 1, none⟩ v1).setCell ⟨q, 2, none⟩ v2).setCell ⟨q, 3, none⟩ v3).setCell ⟨q, 4, none⟩ v4).setCell ⟨q, 5, none⟩ v5) := by
  refine ⟨?_, ((((((But.refl _ _).setCell 0 none v0).setCell 1 none v1).setCell 2 none v2).setCell 3 none v3).setCell 4 none v4).setCell 5 none v5⟩
  have := heap_setCell (heap_setCell (heap_setCell (heap_setCell (heap_setCell (heap_setCell h 0 v0) 1 v1) 2 v2) 3 v3) 4 v4) 5 v5
  simpa using this
theorem EntAt.set {T : TypeId} {w : World} {p : Nat} {t : Value} {e : Ent.E} (h : EntAt T w p t e) (t' : Value) (e' : Ent.E) :
    EntAt T ((((((w.setCell ⟨p, 0, none⟩ (.int .i64 e'.number)).setCell ⟨p, 1, none⟩ (.int .i64 e'.kind)).setCell ⟨p, 2, none⟩ t').setCell ⟨p, 3, none⟩ (.int .i64 e'.tag)).setCell ⟨p, 4, none⟩ (.int .i64 e'.term)).setCell ⟨p, 5, none⟩ (.int .i64 e'.pos)) p t' e' ∧
    But p w ((((((w.setCell ⟨p, 0, none⟩ (.int .i64 e'.number)).setCell ⟨p, 1, none⟩ (.int .i64 e'.kind)).setCell ⟨p, 2, none⟩ t').setCell ⟨p, 3, none⟩ (.int .i64 e'.tag)).setCell ⟨p, 4, none⟩ (.int .i64 e'.term)).setCell ⟨p, 5, none⟩ (.int .i64 e'.pos)) := set_six h _ _ _ _ _ _
/- Layer 5: whether two entries are one: the program, and the document's own answer. -/
set_option maxHeartbeats 8000000 in
theorem same5_any (v u : Value) (a b : Ent.E) (w : World) (hv : IsEnt w v a) (hu : IsEnt w u b) :
    Calls Try.prog 34 #[v, u] w fun x w' => x = .returned (.bool (Ent.alike a b)) ∧ Ext w w' := by
  have hbx := box_ent
  obtain ⟨s1, rfl, ht⟩ := hv
  obtain ⟨s2, rfl, ht2⟩ := hu
  obtain ⟨n, k, c, t, m, p⟩ := a
  obtain ⟨n2, k2, c2, t2, m2, p2⟩ := b
  unfold entV at *
  simp only at ht ht2 ⊢
  obtain ⟨a1, cap1, rfl, hcap1, hmax1, _, _⟩ := ht.open
  obtain ⟨a2, cap2, rfl, hcap2, hmax2, _, _⟩ := ht2.open
  unfold maxLen at hmax1 hmax2
  have HT := Lib.hid ht
  have HT2 := Lib.hid ht2
  clear ht ht2
  have hE : Ext w ((w.alloc (.cells #[.int .i64 n, .int .i64 k, .slice a1 c.length cap1, .int .i64 t, .int .i64 m, .int .i64 p] 63)).alloc (.cells #[.int .i64 n2, .int .i64 k2, .slice a2 c2.length cap2, .int .i64 t2, .int .i64 m2, .int .i64 p2] 63)) := ext_two _ _ _
  have HH := Lib.hid (heap_two w (.cells #[.int .i64 n, .int .i64 k, .slice a1 c.length cap1, .int .i64 t, .int .i64 m, .int .i64 p] 63) (.cells #[.int .i64 n2, .int .i64 k2, .slice a2 c2.length cap2, .int .i64 t2, .int .i64 m2, .int .i64 p2] 63))
  by_cases hn : n = n2
  · subst hn
    by_cases hk : k = k2
    · subst hk
      cases hc : (c == c2) with
      | false =>
        have HC := Lib.hid hc
        clear hc
        have HR := Lib.hid (show Ent.alike ⟨n, k, c, t, m, p⟩ ⟨n, k, c2, t2, m2, p2⟩ = false by unfold Ent.alike; rw [HC.out]; simp)
        go_enter Try.func34, Try.ntmps34
        go_wp2_with fail
        refine (equalS_any _ _ c c2 _ (HT.out.below hE) (HT2.out.below hE)).mono ?_
        rw [HC.out]
        rintro e w3 ⟨rfl, hE3⟩
        have hz := And.intro (cell_of_heap (heap_ext HH.out.1 hE3)) (cell_of_heap (heap_ext HH.out.2 hE3))
        have y3 := hz.1 3
        have y4 := hz.1 4
        have y5 := hz.1 5
        have z3 := hz.2 3
        have z4 := hz.2 4
        have z5 := hz.2 5
        clear hz
        simp at y3 y4 y5 z3 z4 z5
        go_wp2_with fail
        go_ret
        exact ⟨by rw [HR.out]; rfl, hE.trans hE3⟩
      | true =>
        have HC := Lib.hid hc
        clear hc
        by_cases ht : t = t2
        · subst ht
          by_cases hm : m = m2
          · subst hm
            by_cases hp : p = p2
            · subst hp
              have HR := Lib.hid (show Ent.alike ⟨n, k, c, t, m, p⟩ ⟨n, k, c2, t, m, p⟩ = true by unfold Ent.alike; rw [HC.out]; simp)
              go_enter Try.func34, Try.ntmps34
              go_wp2_with fail
              refine (equalS_any _ _ c c2 _ (HT.out.below hE) (HT2.out.below hE)).mono ?_
              rw [HC.out]
              rintro e w3 ⟨rfl, hE3⟩
              have hz := And.intro (cell_of_heap (heap_ext HH.out.1 hE3)) (cell_of_heap (heap_ext HH.out.2 hE3))
              have y3 := hz.1 3
              have y4 := hz.1 4
              have y5 := hz.1 5
              have z3 := hz.2 3
              have z4 := hz.2 4
              have z5 := hz.2 5
              clear hz
              simp at y3 y4 y5 z3 z4 z5
              go_wp2_with fail
              go_ret
              exact ⟨by rw [HR.out]; rfl, hE.trans hE3⟩
            · have HR := Lib.hid (show Ent.alike ⟨n, k, c, t, m, p⟩ ⟨n, k, c2, t, m, p2⟩ = false by unfold Ent.alike; simp [hp])
              go_enter Try.func34, Try.ntmps34
              go_wp2_with fail
              refine (equalS_any _ _ c c2 _ (HT.out.below hE) (HT2.out.below hE)).mono ?_
              rw [HC.out]
              rintro e w3 ⟨rfl, hE3⟩
              have hz := And.intro (cell_of_heap (heap_ext HH.out.1 hE3)) (cell_of_heap (heap_ext HH.out.2 hE3))
              have y3 := hz.1 3
              have y4 := hz.1 4
              have y5 := hz.1 5
              have z3 := hz.2 3
              have z4 := hz.2 4
              have z5 := hz.2 5
              clear hz
              simp at y3 y4 y5 z3 z4 z5
              go_wp2_with fail
              go_ret
              exact ⟨by rw [HR.out]; rfl, hE.trans hE3⟩
          · have HR := Lib.hid (show Ent.alike ⟨n, k, c, t, m, p⟩ ⟨n, k, c2, t, m2, p2⟩ = false by unfold Ent.alike; simp [hm])
            go_enter Try.func34, Try.ntmps34
            go_wp2_with fail
            refine (equalS_any _ _ c c2 _ (HT.out.below hE) (HT2.out.below hE)).mono ?_
            rw [HC.out]
            rintro e w3 ⟨rfl, hE3⟩
            have hz := And.intro (cell_of_heap (heap_ext HH.out.1 hE3)) (cell_of_heap (heap_ext HH.out.2 hE3))
            have y3 := hz.1 3
            have y4 := hz.1 4
            have y5 := hz.1 5
            have z3 := hz.2 3
            have z4 := hz.2 4
            have z5 := hz.2 5
            clear hz
            simp at y3 y4 y5 z3 z4 z5
            go_wp2_with fail
            go_ret
            exact ⟨by rw [HR.out]; rfl, hE.trans hE3⟩
        · have HR := Lib.hid (show Ent.alike ⟨n, k, c, t, m, p⟩ ⟨n, k, c2, t2, m2, p2⟩ = false by unfold Ent.alike; simp [ht])
          go_enter Try.func34, Try.ntmps34
          go_wp2_with fail
          refine (equalS_any _ _ c c2 _ (HT.out.below hE) (HT2.out.below hE)).mono ?_
          rw [HC.out]
          rintro e w3 ⟨rfl, hE3⟩
          have hz := And.intro (cell_of_heap (heap_ext HH.out.1 hE3)) (cell_of_heap (heap_ext HH.out.2 hE3))
          have y3 := hz.1 3
          have y4 := hz.1 4
          have y5 := hz.1 5
          have z3 := hz.2 3
          have z4 := hz.2 4
          have z5 := hz.2 5
          clear hz
          simp at y3 y4 y5 z3 z4 z5
          go_wp2_with fail
          go_ret
          exact ⟨by rw [HR.out]; rfl, hE.trans hE3⟩
    · have HR := Lib.hid (show Ent.alike ⟨n, k, c, t, m, p⟩ ⟨n, k2, c2, t2, m2, p2⟩ = false by unfold Ent.alike; simp [hk])
      go_enter Try.func34, Try.ntmps34
      go_wp2_with fail
      go_ret
      exact ⟨by rw [HR.out]; rfl, hE⟩
  · have HR := Lib.hid (show Ent.alike ⟨n, k, c, t, m, p⟩ ⟨n2, k2, c2, t2, m2, p2⟩ = false by unfold Ent.alike; simp [hn])
    go_enter Try.func34, Try.ntmps34
    go_wp2_with fail
    go_ret
    exact ⟨by rw [HR.out]; rfl, hE⟩
set_option maxHeartbeats 8000000 in
theorem refSame5_any (v u : Value) (a b : Ent.E) (w : World) (hv : IsEnt w v a) (hu : IsEnt w u b) :
    Calls Try.prog 52 #[v, u] w fun x w' => x = .returned (.bool (Ent.alike a b)) ∧ Ext w w' := by
  have hbx := box_entR
  obtain ⟨s1, rfl, ht⟩ := hv
  obtain ⟨s2, rfl, ht2⟩ := hu
  obtain ⟨n, k, c, t, m, p⟩ := a
  obtain ⟨n2, k2, c2, t2, m2, p2⟩ := b
  unfold entV at *
  simp only at ht ht2 ⊢
  obtain ⟨a1, cap1, rfl, hcap1, hmax1, _, _⟩ := ht.open
  obtain ⟨a2, cap2, rfl, hcap2, hmax2, _, _⟩ := ht2.open
  unfold maxLen at hmax1 hmax2
  have HT := Lib.hid ht
  have HT2 := Lib.hid ht2
  clear ht ht2
  have hE : Ext w ((w.alloc (.cells #[.int .i64 n, .int .i64 k, .slice a1 c.length cap1, .int .i64 t, .int .i64 m, .int .i64 p] 65)).alloc (.cells #[.int .i64 n2, .int .i64 k2, .slice a2 c2.length cap2, .int .i64 t2, .int .i64 m2, .int .i64 p2] 65)) := ext_two _ _ _
  have HH := Lib.hid (heap_two w (.cells #[.int .i64 n, .int .i64 k, .slice a1 c.length cap1, .int .i64 t, .int .i64 m, .int .i64 p] 65) (.cells #[.int .i64 n2, .int .i64 k2, .slice a2 c2.length cap2, .int .i64 t2, .int .i64 m2, .int .i64 p2] 65))
  by_cases hn : n = n2
  · subst hn
    by_cases hk : k = k2
    · subst hk
      by_cases ht : t = t2
      · subst ht
        by_cases hm : m = m2
        · subst hm
          by_cases hp : p = p2
          · subst hp
            cases hc : (c == c2) with
            | false =>
              have HC := Lib.hid hc
              clear hc
              have HR := Lib.hid (show Ent.alike ⟨n, k, c, t, m, p⟩ ⟨n, k, c2, t, m, p⟩ = false by unfold Ent.alike; rw [HC.out]; simp)
              go_enter Try.func52, Try.ntmps52
              go_wp2_with fail
              refine (equal3_any _ _ c c2 _ (HT.out.below hE) (HT2.out.below hE)).mono ?_
              rw [HC.out]
              rintro e w3 ⟨rfl, hE3⟩
              have hz := And.intro (cell_of_heap (heap_ext HH.out.1 hE3)) (cell_of_heap (heap_ext HH.out.2 hE3))
              have y3 := hz.1 3
              have y4 := hz.1 4
              have y5 := hz.1 5
              have z3 := hz.2 3
              have z4 := hz.2 4
              have z5 := hz.2 5
              clear hz
              simp at y3 y4 y5 z3 z4 z5
              go_wp2_with fail
              go_ret
              exact ⟨by rw [HR.out]; rfl, hE.trans hE3⟩
            | true =>
              have HC := Lib.hid hc
              clear hc
              have HR := Lib.hid (show Ent.alike ⟨n, k, c, t, m, p⟩ ⟨n, k, c2, t, m, p⟩ = true by unfold Ent.alike; rw [HC.out]; simp)
              go_enter Try.func52, Try.ntmps52
              go_wp2_with fail
              refine (equal3_any _ _ c c2 _ (HT.out.below hE) (HT2.out.below hE)).mono ?_
              rw [HC.out]
              rintro e w3 ⟨rfl, hE3⟩
              have hz := And.intro (cell_of_heap (heap_ext HH.out.1 hE3)) (cell_of_heap (heap_ext HH.out.2 hE3))
              have y3 := hz.1 3
              have y4 := hz.1 4
              have y5 := hz.1 5
              have z3 := hz.2 3
              have z4 := hz.2 4
              have z5 := hz.2 5
              clear hz
              simp at y3 y4 y5 z3 z4 z5
              go_wp2_with fail
              go_ret
              exact ⟨by rw [HR.out]; rfl, hE.trans hE3⟩
          · have HR := Lib.hid (show Ent.alike ⟨n, k, c, t, m, p⟩ ⟨n, k, c2, t, m, p2⟩ = false by unfold Ent.alike; simp [hp])
            go_enter Try.func52, Try.ntmps52
            go_wp2_with fail
            go_ret
            exact ⟨by rw [HR.out]; rfl, hE⟩
        · have HR := Lib.hid (show Ent.alike ⟨n, k, c, t, m, p⟩ ⟨n, k, c2, t, m2, p2⟩ = false by unfold Ent.alike; simp [hm])
          go_enter Try.func52, Try.ntmps52
          go_wp2_with fail
          go_ret
          exact ⟨by rw [HR.out]; rfl, hE⟩
      · have HR := Lib.hid (show Ent.alike ⟨n, k, c, t, m, p⟩ ⟨n, k, c2, t2, m2, p2⟩ = false by unfold Ent.alike; simp [ht])
        go_enter Try.func52, Try.ntmps52
        go_wp2_with fail
        go_ret
        exact ⟨by rw [HR.out]; rfl, hE⟩
    · have HR := Lib.hid (show Ent.alike ⟨n, k, c, t, m, p⟩ ⟨n, k2, c2, t2, m2, p2⟩ = false by unfold Ent.alike; simp [hk])
      go_enter Try.func52, Try.ntmps52
      go_wp2_with fail
      go_ret
      exact ⟨by rw [HR.out]; rfl, hE⟩
  · have HR := Lib.hid (show Ent.alike ⟨n, k, c, t, m, p⟩ ⟨n2, k2, c2, t2, m2, p2⟩ = false by unfold Ent.alike; simp [hn])
    go_enter Try.func52, Try.ntmps52
    go_wp2_with fail
    go_ret
    exact ⟨by rw [HR.out]; rfl, hE⟩
/- Layer 5: bytes as entries: the document's own answer. -/
/- Layer 5, the program: rows of entries, and how many of them follow one another. -/
/-- An entry stands here. -/
def EntHere (w : World) (b o : Nat) (e : Ent.E) : Prop :=
  ∃ t, w.cell? ⟨b, o, none⟩ = some (.int .i64 e.number) ∧ w.cell? ⟨b, o + 1, none⟩ = some (.int .i64 e.kind) ∧ w.cell? ⟨b, o + 2, none⟩ = some t ∧ w.cell? ⟨b, o + 3, none⟩ = some (.int .i64 e.tag) ∧ w.cell? ⟨b, o + 4, none⟩ = some (.int .i64 e.term) ∧ w.cell? ⟨b, o + 5, none⟩ = some (.int .i64 e.pos) ∧ Ints w t e.cut
theorem EntHere.below {w w' : World} {b o : Nat} {e : Ent.E} (h : EntHere w b o e) (hb : Below w.heap.size w w') : EntHere w' b o e := by
  obtain ⟨t, h1, h2, h3, h4, h5, h6, h7⟩ := h
  have key : ∀ i, w'.cell? ⟨b, i, none⟩ = w.cell? ⟨b, i, none⟩ := fun i => World.cell?_of_block (w := w) (hb.block b (World.block_lt_of_cell? w _ h1))
  exact ⟨t, (key _).trans h1, (key _).trans h2, (key _).trans h3, (key _).trans h4, (key _).trans h5, (key _).trans h6, h7.below hb⟩
/-- A slice of entries reads as these. -/
def Ents (w : World) (v : Value) (l : List Ent.E) : Prop :=
  ∃ (a : Option Addr) (cap : Nat), v = .slice a l.length cap ∧ l.length ≤ cap ∧ cap ≤ maxLen ∧ (a = none → cap = 0) ∧ ∀ i (h : i < l.length), ∃ b off, a = some ⟨b, off, none⟩ ∧ EntHere w b (off + i * 6) l[i]
theorem Ents.below {w w' : World} {v : Value} {l : List Ent.E} (h : Ents w v l) (hb : Below w.heap.size w w') : Ents w' v l := by
  obtain ⟨a, cap, rfl, h1, h2, h4, h3⟩ := h
  refine ⟨a, cap, rfl, h1, h2, h4, fun i hi => ?_⟩
  obtain ⟨b, off, e, hc⟩ := h3 i hi
  exact ⟨b, off, e, hc.below hb⟩
theorem Ents.shape {w : World} {v : Value} {l : List Ent.E} (h : Ents w v l) : ∃ a c, v = .slice a l.length c ∧ l.length ≤ c ∧ c ≤ 9223372036854775807 := by
  obtain ⟨a, cap, rfl, h1, h2, _⟩ := h
  unfold maxLen at h2
  exact ⟨a, cap, rfl, h1, h2⟩
theorem Ents.nil (w : World) : Ents w (.slice none 0 0) [] := ⟨none, 0, rfl, Nat.le_refl _, by simp [maxLen], fun _ => rfl, fun i hi => absurd hi (by simp)⟩
/-- The first k of them. -/
theorem Ents.take {w : World} {a : Option Addr} {n cap : Nat} {l : List Ent.E} (h : Ents w (.slice a n cap) l) (k : Nat) (hk : k ≤ l.length) : Ents w (.slice a k cap) (l.take k) := by
  obtain ⟨a', cap', e, h1, h2, h4, h3⟩ := h
  injection e with e1 e2 e3
  subst e1 e3
  have hl : (l.take k).length = k := by rw [List.length_take]; omega
  refine ⟨_, _, by rw [hl], by omega, h2, h4, fun i hi => ?_⟩
  obtain ⟨b, off, e, hc⟩ := h3 i (by omega)
  exact ⟨b, off, e, by simpa using hc⟩

/-- The last cut, as the program holds it: none is nil. -/
def LastIs (w : World) (u : Value) : Option (List Int) → Prop
  | none => u = .slice none 0 0
  | some c => Ints w u c ∧ ∃ a n k, u = .slice (some a) n k
theorem LastIs.ext {w w' : World} {u : Value} {o : Option (List Int)} (h : LastIs w u o) (hE : Ext w w') : LastIs w' u o := by
  cases o with
  | none => exact h
  | some c => exact ⟨h.1.below hE, h.2⟩
theorem LastIs.isSlice {w : World} {u : Value} {o : Option (List Int)} (h : LastIs w u o) : ∃ a n k, u = .slice a n k := by
  cases o with
  | none => exact ⟨_, _, _, h⟩
  | some c =>
    obtain ⟨_, a, n, k, e⟩ := h
    exact ⟨_, _, _, e⟩
theorem LastIs.of_ints {w : World} {u : Value} {c : List Int} (h : Ints w u c) (hc : c ≠ []) : LastIs w u (some c) := by
  refine ⟨h, ?_⟩
  obtain ⟨a, cap, rfl, _, _, _, hx⟩ := h.open
  obtain ⟨b, off, rfl, _⟩ := hx 0 (List.length_pos_iff.2 hc)
  exact ⟨_, _, _, rfl⟩
theorem Ent.cut_next (l : List Ent.E) (k : Nat) (hk : k < l.length) : Ent.lastCut (l.take (k + 1)) = if l[k].kind = 1 then some l[k].cut else Ent.lastCut (l.take k) := by
  rw [take_succ_getD l k hk, Ent.lastCut_snoc]
theorem Ent.right_cut {e : Ent.E} (h : Ent.right e = true) (hk : e.kind = 1) : Vec.right e.cut = true ∧ e.cut ≠ [] := by
  rcases (Ent.right_ok h).2 with ⟨_, hv, _⟩ | ⟨h, _⟩
  · refine ⟨hv, fun e0 => ?_⟩
    have := (Vec.right_ok hv).2.1
    rw [e0] at this
    simp at this
  · omega
/-- What follow leaves. -/
def Follows5 (w : World) (l : List Ent.E) (x : Ending) (w' : World) : Prop := ∃ u, x = .returned (.tuple #[.int .i64 (Ent.chain l : Int), u]) ∧ LastIs w' u (Ent.lastCut (l.take (Ent.chain l))) ∧ Ext w w'

set_option maxHeartbeats 8000000 in
theorem follow5_any (v : Value) (l : List Ent.E) (w : World) (hv : Ents w v l) :
    Calls Try.prog 53 #[v] w (Follows5 w l) := by
  have HV := Lib.hid hv
  have e1 := fun (w : World) (a : Option Addr) (n c : Nat) => Lib.run_eql_slice_nil (P := Try.prog) w 22 3 a n c 0 0 Try.underlying22
  obtain ⟨a, cap, rfl, hcap, hmax, _, _⟩ := hv
  unfold maxLen at hmax
  unfold Follows5
  go_enter Try.func53, Try.ntmps53
  go_wp2
  go_step3
  go_wp2
  go_step3
  go_wp2
  go_loopw [2, 3, 5, 8] (fun n u _ i wr => ∃ k : Nat, k ≤ l.length ∧ i = .int .i64 k ∧ n = .int .i64 k ∧ Hid (Ent.chain (l.take k) = k) ∧ Hid (LastIs wr u (Ent.lastCut (l.take k))) ∧ Ext w wr) (fun _ _ _ i _ => l.length - (intOf i).toNat)
  case atStart => exact ⟨0, by omega, rfl, rfl, rfl, rfl, Ext.refl _⟩
  case round =>
    obtain ⟨k, hk, rfl, rfl, hch, hlast, hE⟩ := hrel
    by_cases hlt : k < l.length
    · obtain ⟨a', cap', e', _, _, _, hc⟩ := HV.out.below hE
      obtain ⟨b, off, rfl, t, p0, p1, p2, p3, p4, p5, ht⟩ := hc k hlt
      injection e' with e1' e2' e3'
      subst e1'
      have hstop := fun h => Ent.chain_stop hlt hch.out h
      have hnext := Ent.chain_next hlt hch.out
      have hcut := Ent.cut_next l k hlt
      have hfol := Ent.follows_iff (l.take k) l[k]
      have hrc := fun (h1 : Ent.right l[k] = true) (h2 : l[k].kind = 1) => Ent.right_cut h1 h2
      have hlk : (l.take k).length = k := by rw [List.length_take]; omega
      rw [hlk] at hfol
      obtain ⟨a2, cap2, rfl, hcap2, hmax2, _, _⟩ := ht.open
      unfold maxLen at hmax2
      have HI := Lib.hid (show IsEnt wr (.agg #[.int .i64 l[k].number, .int .i64 l[k].kind, .slice a2 l[k].cut.length cap2, .int .i64 l[k].tag, .int .i64 l[k].term, .int .i64 l[k].pos]) l[k] from ⟨_, rfl, ht⟩)
      have HT := Lib.hid ht
      generalize l[k] = R at *
      obtain ⟨n, kd, c, tg, m, p⟩ := R
      clear hc e2' e3' ht
      simp only at *
      have hEa : Ext wr (wr.alloc (.cells #[.int .i64 n, .int .i64 kd, .slice a2 c.length cap2, .int .i64 tg, .int .i64 m, .int .i64 p] 63)) := Ext.alloc _ _
      have HX := Lib.hid (EntAt.new 63 wr (.slice a2 c.length cap2) ⟨n, kd, c, tg, m, p⟩)
      have HSTOP := Lib.hid hstop
      have HNEXT := Lib.hid hnext
      have HCUT := Lib.hid hcut
      have HFOL := Lib.hid hfol
      have HRC := Lib.hid hrc
      have hk63 : (k : Int) + 1 ≤ 9223372036854775807 := by omega
      clear hstop hnext hcut hfol hrc hlk
      obtain ⟨au, nu, ku, rfl⟩ := LastIs.isSlice hlast.out
      have hn0 : (Ent.follows (l.take k) ⟨n, kd, c, tg, m, p⟩ = true → False) → Ent.chain l = k := fun h => HSTOP.out (by
        cases hf : Ent.follows (l.take k) ⟨n, kd, c, tg, m, p⟩ with
        | false => rfl
        | true => exact (h hf).elim)
      have HN0 := Lib.hid hn0
      clear hn0
      by_cases hn : n = (k : Int) + 1
      · subst hn
        cases hr : Ent.right ⟨(k : Int) + 1, kd, c, tg, m, p⟩ with
        | false =>
          have HR := Lib.hid hr
          have HC := Lib.hid (HN0.out fun h => by have := (HFOL.out.1 h).1; rw [hr] at this; cases this)
          clear hr
          go_wp2_with fail
          refine (right5_any _ ⟨(k : Int) + 1, kd, c, tg, m, p⟩ _ (HI.out.below hEa)).mono ?_
          rw [HR.out]
          rintro e w1 ⟨rfl, hE1⟩
          go_wp2_with fail
          (try rw [Exit.noGoto_ret])
          go_ret2
          exact ⟨_, by rw [HC.out]; rfl, by rw [HC.out]; exact hlast.out.ext (hEa.trans hE1), hE.trans (hEa.trans hE1)⟩
        | true =>
          have HR := Lib.hid hr
          by_cases k1 : kd = 1
          · subst k1
            obtain ⟨hvr, hcne⟩ := HRC.out hr rfl
            obtain ⟨o, ho⟩ : ∃ o, Ent.lastCut (l.take k) = o := ⟨_, rfl⟩
            have hcut2 := HCUT.out
            rw [if_pos rfl] at hcut2
            have HC2 := Lib.hid hcut2
            rw [ho] at hlast
            cases o with
            | none =>
              have hf : Ent.follows (l.take k) ⟨(k : Int) + 1, 1, c, tg, m, p⟩ = true := HFOL.out.2 ⟨hr, rfl, fun _ => by rw [ho]; rfl⟩
              have hnx := HNEXT.out
              rw [hf, if_pos rfl] at hnx
              have HNX := Lib.hid hnx
              obtain ⟨rfl, rfl, rfl⟩ : au = none ∧ nu = 0 ∧ ku = 0 := by have := hlast.out; unfold LastIs at this; simpa using this
              have HCN := Lib.hid hcne
              clear hr hf hnx ho hcut2 hvr hcne
              go_wp2_with fail
              refine (right5_any _ ⟨(k : Int) + 1, 1, c, tg, m, p⟩ _ (HI.out.below hEa)).mono ?_
              rw [HR.out]
              rintro e w1 ⟨rfl, hE1⟩
              have x1 := Lib.hid (HX.out.ext hE1)
              obtain ⟨c0, c1, c2, c3, c4, c5⟩ := x1.out.cells
              go_wp2_with fail
              go_roundw
              case rel => exact ⟨k + 1, by omega, by go_num, by go_num, HNX.out, by rw [Hid, HC2.out]; exact LastIs.of_ints (HT.out.below (hEa.trans hE1)) HCN.out, hE.trans (hEa.trans hE1)⟩
              case measure => simp [intOf]; omega
            | some u =>
              have hu := hlast.out.1
              obtain ⟨a3, n3, k3, e3⟩ := hlast.out.2
              injection e3 with e4 e5 e6
              subst e4 e5 e6
              have HU := Lib.hid hu
              cases hcv : Vec.covers c u with
              | false =>
                have HC := Lib.hid (HN0.out fun h => by
                  have := (HFOL.out.1 h).2.2 rfl
                  rw [ho] at this
                  have h2 : Vec.covers c u = true := this
                  rw [hcv] at h2
                  cases h2)
                have HCV := Lib.hid hcv
                have HO := Lib.hid ho
                clear hr ho hcut2 hvr hcne hcv hu
                go_wp2_with fail
                refine (right5_any _ ⟨(k : Int) + 1, 1, c, tg, m, p⟩ _ (HI.out.below hEa)).mono ?_
                rw [HR.out]
                rintro e w1 ⟨rfl, hE1⟩
                have x1 := Lib.hid (HX.out.ext hE1)
                obtain ⟨c0, c1, c2, c3, c4, c5⟩ := x1.out.cells
                go_wp2_with fail
                refine (covers_any _ _ c u _ (HT.out.below (hEa.trans hE1)) (HU.out.below (hEa.trans hE1))).mono ?_
                rw [HCV.out]
                rintro e w2 ⟨rfl, rfl⟩
                go_wp2_with fail
                (try rw [Exit.noGoto_ret])
                go_ret2
                exact ⟨_, by rw [HC.out]; rfl, by rw [HC.out, HO.out]; exact hlast.out.ext (hEa.trans hE1), hE.trans (hEa.trans hE1)⟩
              | true =>
                have hf : Ent.follows (l.take k) ⟨(k : Int) + 1, 1, c, tg, m, p⟩ = true := HFOL.out.2 ⟨hr, rfl, fun _ => by rw [ho]; exact hcv⟩
                have hnx := HNEXT.out
                rw [hf, if_pos rfl] at hnx
                have HNX := Lib.hid hnx
                have HCV := Lib.hid hcv
                have HCN := Lib.hid hcne
                clear hr hf hnx ho hcut2 hvr hcne hcv hu
                go_wp2_with fail
                refine (right5_any _ ⟨(k : Int) + 1, 1, c, tg, m, p⟩ _ (HI.out.below hEa)).mono ?_
                rw [HR.out]
                rintro e w1 ⟨rfl, hE1⟩
                have x1 := Lib.hid (HX.out.ext hE1)
                obtain ⟨c0, c1, c2, c3, c4, c5⟩ := x1.out.cells
                go_wp2_with fail
                refine (covers_any _ _ c u _ (HT.out.below (hEa.trans hE1)) (HU.out.below (hEa.trans hE1))).mono ?_
                rw [HCV.out]
                rintro e w2 ⟨rfl, rfl⟩
                go_wp2_with fail
                go_roundw
                case rel => exact ⟨k + 1, by omega, by go_num, by go_num, HNX.out, by rw [Hid, HC2.out]; exact LastIs.of_ints (HT.out.below (hEa.trans hE1)) HCN.out, hE.trans (hEa.trans hE1)⟩
                case measure => simp [intOf]; omega
          · have hf : Ent.follows (l.take k) ⟨(k : Int) + 1, kd, c, tg, m, p⟩ = true := HFOL.out.2 ⟨hr, rfl, fun h => absurd h k1⟩
            have hnx := HNEXT.out
            rw [hf, if_pos rfl] at hnx
            have hcut2 := HCUT.out
            rw [if_neg k1] at hcut2
            have HNX := Lib.hid hnx
            have HC2 := Lib.hid hcut2
            clear hr hf hnx hcut2
            have hkb : (kd == 1) = false := beq_eq_false_iff_ne.2 k1
            go_wp2_with fail
            refine (right5_any _ ⟨(k : Int) + 1, kd, c, tg, m, p⟩ _ (HI.out.below hEa)).mono ?_
            rw [HR.out]
            rintro e w1 ⟨rfl, hE1⟩
            have x1 := Lib.hid (HX.out.ext hE1)
            obtain ⟨c0, c1, c2, c3, c4, c5⟩ := x1.out.cells
            go_wp2_with fail
            go_roundw
            case rel => exact ⟨k + 1, by omega, by go_num, by go_num, HNX.out, by rw [Hid, HC2.out]; exact hlast.out.ext (hEa.trans hE1), hE.trans (hEa.trans hE1)⟩
            case measure => simp [intOf]; omega
      · have HC := Lib.hid (HN0.out fun h => hn (HFOL.out.1 h).2.1)
        go_wp2_with fail
        (try rw [Exit.noGoto_ret])
        go_ret2
        exact ⟨_, by rw [HC.out]; rfl, by rw [HC.out]; exact hlast.out.ext hEa, hE.trans hEa⟩
    · obtain rfl : k = l.length := by omega
      have HC := Lib.hid (Ent.chain_end hch.out)
      obtain ⟨au, nu, ku, rfl⟩ := LastIs.isSlice hlast.out
      go_wp2_with fail
      (try rw [Exit.noGoto_ret])
      go_ret2
      exact ⟨_, by rw [HC.out]; rfl, by rw [HC.out]; exact hlast.out, hE⟩
/- Layer 5: how many entries follow one another, and the last cut: the program; may an entry stand behind others: the document's own answer. -/
set_option maxHeartbeats 2000000 in
theorem chain5_any (v : Value) (l : List Ent.E) (w : World) (hv : Ents w v l) :
    Calls Try.prog 31 #[v] w fun x w' => x = .returned (.int .i64 (Ent.chain l : Int)) ∧ Ext w w' := by
  have HV := Lib.hid hv
  obtain ⟨a, cap, rfl, hcap, hmax⟩ := hv.shape
  clear hv
  go_enter Try.func31, Try.ntmps31
  go_wp2_with fail
  refine (follow5_any _ l _ HV.out).mono ?_
  unfold Follows5
  rintro e w1 ⟨u, rfl, hl, hE⟩
  obtain ⟨au, nu, ku, rfl⟩ := hl.isSlice
  clear hl
  go_wp2_with fail
  go_ret
  exact ⟨rfl, hE⟩

set_option maxHeartbeats 4000000 in
theorem last5_any (v : Value) (l : List Ent.E) (n : Int) (w : World) (hv : Ents w v l) :
    Calls Try.prog 56 #[v, .int .i64 n] w fun x w' => ∃ u, x = .returned u ∧ Ints w' u (Ent.lastOf l (zeros n)) ∧ Ext w w' := by
  have HV := Lib.hid hv
  obtain ⟨a, cap, rfl, hcap, hmax⟩ := hv.shape
  clear hv
  have e1 := fun (w : World) (a : Option Addr) (n c : Nat) => Lib.run_eql_slice_nil (P := Try.prog) w 22 3 a n c 0 0 Try.underlying22
  have hlo : Ent.lastOf l (zeros n) = match Ent.lastCut (l.take (Ent.chain l)) with
    | none => zeros n
    | some c => c := rfl
  have hrt := fun c h => Ent.last_right (l := l) (c := c) h
  go_enter Try.func56, Try.ntmps56
  go_wp2_with fail
  refine (follow5_any _ l _ HV.out).mono ?_
  unfold Follows5
  obtain ⟨o, ho⟩ : ∃ o, Ent.lastCut (l.take (Ent.chain l)) = o := ⟨_, rfl⟩
  rw [ho] at hlo hrt ⊢
  have HLO := Lib.hid hlo
  have HRT := Lib.hid hrt
  clear hlo hrt ho
  rintro e w1 ⟨u, rfl, hl, hE⟩
  cases o with
  | none =>
    obtain rfl : u = .slice none 0 0 := hl
    go_wp2_with fail
    refine (zero_any n _).mono ?_
    unfold GivesOwnI
    rintro e w2 ⟨u2, rfl, ho2, hE2⟩
    go_wp2_with fail
    go_ret
    exact ⟨_, rfl, by rw [HLO.out]; exact Sl.ofOwn ho2, hE.trans hE2⟩
  | some c =>
    have hc8 : c.length ≤ 8 := (Vec.right_ok (HRT.out c rfl)).2.2
    obtain ⟨hi, a3, n3, k3, rfl⟩ := hl
    have HI := Lib.hid hi
    clear hi
    go_wp2_with fail
    refine (cloneI_any _ c _ HI.out (by omega)).mono ?_
    rintro e w2 ⟨u2, rfl, ho2, hE2⟩
    go_wp2_with fail
    go_ret
    exact ⟨_, rfl, by rw [HLO.out]; exact Sl.ofOwn ho2, hE.trans hE2⟩
/- Layer 5: may an entry stand behind others: the document's own answer. -/
theorem Ent.follows_of (d : List Ent.E) (e : Ent.E) (h1 : Ent.right e = true) (h2 : e.number = (d.length : Int) + 1) : Ent.follows d e = (!decide (e.kind = 1) || Ent.coversLast (Ent.lastCut d) e.cut) := by
  unfold Ent.follows
  rw [h1, decide_eq_true h2]
  rfl

set_option maxHeartbeats 8000000 in
theorem refFollows5_any (v u : Value) (l : List Ent.E) (e : Ent.E) (w : World) (hv : Ents w v l) (hu : IsEnt w u e) (hl : l.length ≤ 4611686018427387904) :
    Calls Try.prog 50 #[v, u] w fun x w' => x = .returned (.bool (Ent.follows l e)) ∧ Ext w w' := by
  have hbx := box_entR
  have hr5 := fun w1 hv => refRight5_any u e w1 hv
  have HV := Lib.hid hv
  have HU := Lib.hid hu
  obtain ⟨a, cap, rfl, hcap, hmax⟩ := hv.shape
  obtain ⟨u, rfl, ht⟩ := hu
  obtain ⟨n, k, c, t, m, p⟩ := e
  unfold entV at *
  simp only at ht hr5 ⊢
  obtain ⟨a2, cap2, rfl, hcap2, hmax2, _, _⟩ := ht.open
  unfold maxLen at hmax2
  have HT := Lib.hid ht
  clear ht hv
  have hE0 : Ext w (w.alloc (.cells #[.int .i64 n, .int .i64 k, .slice a2 c.length cap2, .int .i64 t, .int .i64 m, .int .i64 p] 65)) := Ext.alloc _ _
  have HX0 := Lib.hid (EntAt.new 65 w (.slice a2 c.length cap2) ⟨n, k, c, t, m, p⟩)
  have hl63 : (l.length : Int) + 1 ≤ 9223372036854775807 := by omega
  cases hr : Ent.right ⟨n, k, c, t, m, p⟩ with
  | false =>
    have HF := Lib.hid (show Ent.follows l ⟨n, k, c, t, m, p⟩ = false by unfold Ent.follows; rw [hr]; rfl)
    have HR := Lib.hid hr
    clear hr
    go_enter Try.func50, Try.ntmps50
    go_wp2_with fail
    refine (hr5 _ (HU.out.below hE0)).mono ?_
    rw [HR.out]
    rintro e w1 ⟨rfl, hE1⟩
    go_wp2_with fail
    go_ret
    exact ⟨by rw [HF.out]; rfl, hE0.trans hE1⟩
  | true =>
    by_cases hn : n = (l.length : Int) + 1
    · subst hn
      have HF := Lib.hid (Ent.follows_of l _ hr rfl)
      have HR := Lib.hid hr
      clear hr
      go_enter Try.func50, Try.ntmps50
      go_wp2_with fail
      refine (hr5 _ (HU.out.below hE0)).mono ?_
      rw [HR.out]
      rintro e w1 ⟨rfl, hE1⟩
      have HX := Lib.hid (HX0.out.ext hE1)
      obtain ⟨c0, c1, c2, c3, c4, c5⟩ := HX.out.cells
      have e1 := hE0.trans hE1
      go_wp2_with fail
      generalize hq : w.heap.size = q at *
      have HQ := Lib.hid hq
      clear hq c0 c1 c2 c3 c4 c5
      go_loopw [5] (fun i wr => ∃ j : Nat, j ≤ l.length ∧ i = .int .i64 (prevI j) ∧ Hid (∀ x ∈ l.drop j, x.kind ≠ 1) ∧ Ext w1 wr) (fun i _ => (intOf i + 1).toNat)
      case atStart => exact ⟨l.length, Nat.le_refl _, by unfold prevI; rfl, Lib.hid (fun x hx => by rw [List.drop_length] at hx; cases hx), Ext.refl _⟩
      case round =>
        obtain ⟨j, hj, rfl, hbe, hE⟩ := hrel
        obtain ⟨c0, c1, c2, c3, c4, c5⟩ := (HX.out.ext hE).cells
        by_cases k1 : k = 1
        · subst k1
          cases j with
          | zero =>
            have hi : prevI 0 = -1 := rfl
            rw [hi]
            have HG := Lib.hid (show Ent.follows l ⟨(l.length : Int) + 1, 1, c, t, m, p⟩ = true by rw [HF.out, Ent.lastCut_drop hbe.out]; rfl)
            go_wp2_with fail
            go_ret
            exact ⟨by rw [HG.out]; rfl, e1.trans hE⟩
          | succ j =>
            have hi : prevI (j + 1) = (j : Int) := by unfold prevI; omega
            rw [hi]
            have hi2 : ∀ x : Value, x = .int .i64 ((j : Int) - 1) → x = .int .i64 (prevI j) := fun x h => h
            have hlt : j < l.length := by omega
            obtain ⟨a', cap', e', _, _, _, hc⟩ := HV.out.below (e1.trans hE)
            obtain ⟨b, off, rfl, tj, p0, p1, p2, p3, p4, p5, htj⟩ := hc j hlt
            injection e' with e1' e2' e3'
            subst e1'
            clear hc e2' e3'
            obtain ⟨a3, cap3, rfl, hcap3, hmax3, _, _⟩ := htj.open
            have hat := fun hk => Ent.lastCut_at l j hlt hk hbe.out
            have hdk := fun hk => Ent.drop_kinds hlt hk hbe.out
            have HTJ := Lib.hid htj
            generalize l[j] = R at *
            obtain ⟨nj, kj, cj, tgj, mj, pj⟩ := R
            simp only at *
            have HAT := Lib.hid hat
            have HDK := Lib.hid hdk
            clear hat hdk htj
            by_cases kj1 : kj = 1
            · subst kj1
              have HG := Lib.hid (show Ent.follows l ⟨(l.length : Int) + 1, 1, c, t, m, p⟩ = Vec.covers c cj by rw [HF.out, HAT.out rfl]; rfl)
              obtain ⟨V, hV⟩ : ∃ V, Vec.covers c cj = V := ⟨_, rfl⟩
              have HVV := Lib.hid hV
              clear hV
              have HEnt := Lib.hid (HX.out.ext hE)
              have HP2 := Lib.hid p2
              have hlt2 : b < wr.heap.size := World.block_lt_of_cell? _ _ p2
              have HC := Lib.hid (HT.out.below (e1.trans hE))
              go_wp2_with fail
              clear c0 c1 c2 c3 c4 c5 p0 p1 p2 p3 p4 p5
              refine wp_region_facts (by kernel_rfl) Ext (fun iop v w => match iop with
                  | 0 => v = .pointer (some ⟨q, 2, none⟩)
                  | 1 => v = .slice a2 c.length cap2
                  | 2 => v = .slice (some ⟨b, off, none⟩) l.length cap
                  | 3 => v = .int .i64 (j : Int)
                  | 4 => v = .pointer (some ⟨b, off + j * 6, none⟩)
                  | 5 => v = .pointer (some ⟨b, off + j * 6 + 2, none⟩)
                  | 6 => v = .slice a3 cj.length cap3
                  | 7 => v = .bool V
                  | _ => v = .bool V
                  ) (by kernel_rfl) (fun _ _ _ h k => Ext.trans h k) (fun a => Ext.refl a) (Ext.drew _) ?_ ?_ ?_
              · intro iop v wa wb hF hL
                iterate 8 (rcases iop with _ | iop; exact hF)
                exact hF
              · refine Obls.cons ?_ (Obls.cons ?_ (Obls.cons ?_ (Obls.cons ?_ (Obls.cons ?_ (Obls.cons ?_ (Obls.cons ?_ (Obls.cons ?_ (Obls.cons ?_ (Obls.nil)))))))))
                · intro ev wy hp hl hk hd
                  have e3 : ev _ = .pointer (some ⟨q, 0, none⟩) := hk 3 (by decide)
                  exact Yield.oq (by simp [execOp, go_sem, e3])
                · intro ev wy hp hl hk hd
                  have e35 : ev _ = _ := hk 35 (by decide)
                  exact Yield.load rfl e35 (ldInts (HEnt.out.ext hl).cells.2.2.1) ⟨Ext.refl _, rfl⟩
                · intro ev wy hp hl hk hd
                  have e0 : ev _ = .slice (some ⟨b, off, none⟩) l.length cap := hk 0 (by decide)
                  exact Yield.mv rfl ⟨Ext.refl _, e0⟩
                · intro ev wy hp hl hk hd
                  have e5 : ev _ = .int .i64 (j : Int) := hk 5 (by decide)
                  exact Yield.mv rfl ⟨Ext.refl _, e5⟩
                · intro ev wy hp hl hk hd
                  have e37 : ev _ = _ := hk 37 (by decide)
                  have e38 : ev _ = _ := hk 38 (by decide)
                  exact Yield.op (w' := wy) (by simp [execOp, go_sem, e37, e38]; intro h; omega) ⟨Ext.refl _, rfl⟩
                · intro ev wy hp hl hk hd
                  have e39 : ev _ = _ := hk 39 (by decide)
                  exact Yield.oq (by simp [execOp, go_sem, e39])
                · intro ev wy hp hl hk hd
                  have e40 : ev _ = _ := hk 40 (by decide)
                  exact Yield.load rfl e40 (ldInts ((hl.cell (p := ⟨b, off + j * 6 + 2, none⟩) hlt2).trans HP2.out)) ⟨Ext.refl _, rfl⟩
                · intro ev wy hp hl hk hd
                  have e36 : ev _ = _ := hk 36 (by decide)
                  have e41 : ev _ = _ := hk 41 (by decide)
                  refine Yield.call rfl hp Try.func63 rfl (by kernel_rfl) ?_
                  simp only [List.map_toArray, List.map_cons, List.map_nil, e36, e41]
                  exact ((HVV.out ▸ refCovers_any _ _ c cj wy (HC.out.below hl) (HTJ.out.below hl))).mono fun _ _ ⟨he, hb⟩ => ⟨_, he, hb, by first | rfl | simp⟩
                · intro ev wy hp hl hk hd
                  have e42 : ev _ = _ := hk 42 (by decide)
                  exact Yield.as rfl ⟨Ext.refl _, e42⟩
              · intro vals wz hz hv
                have g35 : vals 0 = _ := hv 0 (by decide)
                have g36 : vals 1 = _ := hv 1 (by decide)
                have g37 : vals 2 = _ := hv 2 (by decide)
                have g38 : vals 3 = _ := hv 3 (by decide)
                have g39 : vals 4 = _ := hv 4 (by decide)
                have g40 : vals 5 = _ := hv 5 (by decide)
                have g41 : vals 6 = _ := hv 6 (by decide)
                have g42 : vals 7 = _ := hv 7 (by decide)
                have g4 : vals 8 = _ := hv 8 (by decide)
                clear hv
                simp only [putAll, Act.put, List.setIfInBounds_toArray, List.set_cons_zero, List.set_cons_succ, g35, g36, g37, g38, g39, g40, g41, g42, g4]
                clear g35 g36 g37 g38 g39 g40 g41 g42 g4
                go_wp2_with fail
                go_ret
                exact ⟨by rw [HG.out, HVV.out]; rfl, (e1.trans hE).trans hz⟩
            · have hkb : (kj == 1) = false := beq_eq_false_iff_ne.2 kj1
              have HD := Lib.hid (HDK.out kj1)
              go_wp2_with fail
              go_roundw
              case rel => exact ⟨j, by omega, hi2 _ (by go_num), HD, hE⟩
              case measure => simp [intOf]
        · have hkb : (k == 1) = false := beq_eq_false_iff_ne.2 k1
          have HG := Lib.hid (show Ent.follows l ⟨(l.length : Int) + 1, k, c, t, m, p⟩ = true by rw [HF.out, decide_eq_false k1]; rfl)
          cases j with
          | zero =>
            have hi : prevI 0 = -1 := rfl
            rw [hi]
            go_wp2_with fail
            go_ret
            exact ⟨by rw [HG.out]; rfl, e1.trans hE⟩
          | succ j =>
            have hi : prevI (j + 1) = (j : Int) := by unfold prevI; omega
            rw [hi]
            go_wp2_with fail
            go_ret
            exact ⟨by rw [HG.out]; rfl, e1.trans hE⟩
    · have HF := Lib.hid (show Ent.follows l ⟨n, k, c, t, m, p⟩ = false by unfold Ent.follows; rw [decide_eq_false hn]; simp)
      have hnb : (n != (l.length : Int) + 1) = true := by simp [hn]
      clear hl63
      have HR := Lib.hid hr
      clear hr
      go_enter Try.func50, Try.ntmps50
      go_wp2_with fail
      refine (hr5 _ (HU.out.below hE0)).mono ?_
      rw [HR.out]
      rintro e w1 ⟨rfl, hE1⟩
      obtain ⟨c0, c1, c2, c3, c4, c5⟩ := (HX0.out.ext hE1).cells
      go_wp2_with fail
      go_ret
      exact ⟨by rw [HF.out]; rfl, hE0.trans hE1⟩
/- Layer 5: how many entries follow one another, and the last cut: the document's own answers. -/
/-- s[:h], the elements of any size. -/
theorem ldEntR {w : World} {b o : Nat} {n k t m p : Int} {u : Value} (h : ∃ a n c, u = .slice a n c) (p0 : w.cell? ⟨b, o, none⟩ = some (.int .i64 n)) (p1 : w.cell? ⟨b, o + 1, none⟩ = some (.int .i64 k)) (p2 : w.cell? ⟨b, o + 2, none⟩ = some u) (p3 : w.cell? ⟨b, o + 3, none⟩ = some (.int .i64 t)) (p4 : w.cell? ⟨b, o + 4, none⟩ = some (.int .i64 m)) (p5 : w.cell? ⟨b, o + 5, none⟩ = some (.int .i64 p)) :
    (Instr.loadAt 65 (.pointer (some ⟨b, o, none⟩))).run Try.prog w = .ok (.agg #[.int .i64 n, .int .i64 k, u, .int .i64 t, .int .i64 m, .int .i64 p]) w := by
  obtain ⟨a, x, c, rfl⟩ := h
  simp [go_sem, p0, p1, p2, p3, p4, p5]

set_option maxHeartbeats 8000000 in
theorem refChain5_any (v : Value) (l : List Ent.E) (w : World) (hv : Ents w v l) (hl : l.length ≤ 4611686018427387904) :
    Calls Try.prog 26 #[v] w fun x w' => x = .returned (.int .i64 (Ent.chain l : Int)) ∧ Ext w w' := by
  have HV := Lib.hid hv
  obtain ⟨a, cap, rfl, hcap, hmax⟩ := hv.shape
  clear hv
  go_enter Try.func26, Try.ntmps26
  go_wp2_with fail
  go_loopw [3] (fun n wr => ∃ k : Nat, k ≤ l.length ∧ n = .int .i64 k ∧ Hid (Ent.chain (l.take k) = k) ∧ Ext w wr) (fun n _ => l.length - (intOf n).toNat)
  case atStart => exact ⟨0, by omega, rfl, rfl, Ext.refl _⟩
  case round =>
    obtain ⟨k, hk, rfl, hch, hE⟩ := hrel
    by_cases hlt : k < l.length
    · have HVR := HV.out.below hE
      have HVR2 := Lib.hid (HVR.take k hk)
      obtain ⟨a', cap', e', _, _, _, hc⟩ := HVR
      obtain ⟨b, off, rfl, t, p0, p1, p2, p3, p4, p5, ht⟩ := hc k hlt
      injection e' with e1' e2' e3'
      subst e1' e3'
      have hnext := Ent.chain_next hlt hch.out
      have hstop := fun h => Ent.chain_stop hlt hch.out h
      obtain ⟨a2, cap2, rfl, hcap2, hmax2, _, _⟩ := ht.open
      have hb := World.block_lt_of_cell? _ _ p0
      have key : ∀ w', Ext wr w' → ∀ i, w'.cell? ⟨b, i, none⟩ = wr.cell? ⟨b, i, none⟩ := fun w' h i => h.cell (p := ⟨b, i, none⟩) hb
      have HLD := Lib.hid (show ∀ w', Ext wr w' → (Instr.loadAt 65 (.pointer (some ⟨b, off + k * 6, none⟩))).run Try.prog w' = .ok (.agg #[.int .i64 l[k].number, .int .i64 l[k].kind, .slice a2 l[k].cut.length cap2, .int .i64 l[k].tag, .int .i64 l[k].term, .int .i64 l[k].pos]) w' from fun w' h => ldEntR ⟨_, _, _, rfl⟩ ((key w' h _).trans p0) ((key w' h _).trans p1) ((key w' h _).trans p2) ((key w' h _).trans p3) ((key w' h _).trans p4) ((key w' h _).trans p5))
      have HI := Lib.hid (show IsEnt wr (.agg #[.int .i64 l[k].number, .int .i64 l[k].kind, .slice a2 l[k].cut.length cap2, .int .i64 l[k].tag, .int .i64 l[k].term, .int .i64 l[k].pos]) l[k] from ⟨_, rfl, ht⟩)
      clear key p0 p1 p2 p3 p4 p5 hc ht e2'
      generalize l[k] = R at *
      obtain ⟨n, kd, c, tg, m, p⟩ := R
      simp only at *
      obtain ⟨F, hF⟩ : ∃ F, Ent.follows (l.take k) ⟨n, kd, c, tg, m, p⟩ = F := ⟨_, rfl⟩
      rw [hF] at hnext hstop
      have HF := Lib.hid hF
      have HNEXT := Lib.hid hnext
      have HSTOP := Lib.hid hstop
      have hsl : ∀ wy : World, (Instr.sliceAt 39 (.slice (some ⟨b, off, none⟩) l.length cap) none (some (.int .i64 (k : Int))) none).run Try.prog wy = .ok (.slice (some ⟨b, off, none⟩) k cap) wy := fun wy => runTo (size := 6) Try.underlying39 (by kernel_rfl) k (by omega) .i64
      have hlk : (l.take k).length ≤ 4611686018427387904 := by rw [List.length_take]; omega
      clear hF hnext hstop
      go_wp2_with fail
      refine wp_region_facts (by kernel_rfl) Ext (fun iop v w => match iop with
          | 0 => v = .int .i64 (k : Int)
          | 1 => v = .slice (some ⟨b, off, none⟩) l.length cap
          | 2 => v = .int .i64 (l.length : Int)
          | 3 => v = .bool true
          | 4 => v = .bool true
          | 5 => v = .slice (some ⟨b, off, none⟩) l.length cap
          | 6 => v = .int .i64 (k : Int)
          | 7 => v = .slice (some ⟨b, off, none⟩) k cap
          | 8 => v = .slice (some ⟨b, off, none⟩) l.length cap
          | 9 => v = .int .i64 (k : Int)
          | 10 => v = .pointer (some ⟨b, off + k * 6, none⟩)
          | 11 => v = .agg #[.int .i64 n, .int .i64 kd, .slice a2 c.length cap2, .int .i64 tg, .int .i64 m, .int .i64 p]
          | 12 => v = .bool F
          | _ => v = .bool F
          ) (by kernel_rfl) (fun _ _ _ h k => Ext.trans h k) (fun a => Ext.refl a) (Ext.drew _) ?_ ?_ ?_
      · intro iop v wa wb hF hL
        iterate 13 (rcases iop with _ | iop; exact hF)
        exact hF
      · refine Obls.cons ?_ (Obls.cons ?_ (Obls.cons ?_ (Obls.cons ?_ (Obls.cons ?_ (Obls.cons ?_ (Obls.cons ?_ (Obls.cons ?_ (Obls.cons ?_ (Obls.cons ?_ (Obls.cons ?_ (Obls.cons ?_ (Obls.cons ?_ (Obls.cons ?_ (Obls.nil))))))))))))))
        · intro ev wy hp hl hk hd
          have e3 : ev _ = .int .i64 (k : Int) := hk 3 (by decide)
          exact Yield.mv rfl ⟨Ext.refl _, e3⟩
        · intro ev wy hp hl hk hd
          have e0 : ev _ = .slice (some ⟨b, off, none⟩) l.length cap := hk 0 (by decide)
          exact Yield.mv rfl ⟨Ext.refl _, e0⟩
        · intro ev wy hp hl hk hd
          have e5 : ev _ = _ := hk 5 (by decide)
          exact Yield.oq (by simp [execOp, go_sem, e5])
        · intro ev wy hp hl hk hd
          have e4 : ev _ = _ := hk 4 (by decide)
          have e6 : ev _ = _ := hk 6 (by decide)
          exact Yield.op (w' := wy) (by simp [execOp, go_sem, e4, e6]; omega) ⟨Ext.refl _, rfl⟩
        · intro ev wy hp hl hk hd
          have e7 : ev _ = _ := hk 7 (by decide)
          exact Yield.mv rfl ⟨Ext.refl _, e7⟩
        · intro ev wy hp hl hk hd
          have e0 : ev _ = .slice (some ⟨b, off, none⟩) l.length cap := hk 0 (by decide)
          refine ⟨fun _ _ _ => ?_, fun _ hx hne => absurd hx hne⟩
          exact Yield.mv rfl ⟨Ext.refl _, e0⟩
        · intro ev wy hp hl hk hd
          have e3 : ev _ = .int .i64 (k : Int) := hk 3 (by decide)
          refine ⟨fun _ _ _ => ?_, fun _ hx hne => absurd hx hne⟩
          exact Yield.mv rfl ⟨Ext.refl _, e3⟩
        · intro ev wy hp hl hk hd
          have e9 : ev _ = _ := hk 9 (by decide)
          have e10 : ev _ = _ := hk 10 (by decide)
          refine ⟨fun _ _ _ => ?_, fun _ hx hne => absurd hx hne⟩
          exact Yield.op (w' := wy) (by simp [execOp, go_sem, e9, e10, hsl]) ⟨Ext.refl _, rfl⟩
        · intro ev wy hp hl hk hd
          have e0 : ev _ = .slice (some ⟨b, off, none⟩) l.length cap := hk 0 (by decide)
          refine ⟨fun _ _ _ => ?_, fun _ hx hne => absurd hx hne⟩
          exact Yield.mv rfl ⟨Ext.refl _, e0⟩
        · intro ev wy hp hl hk hd
          have e3 : ev _ = .int .i64 (k : Int) := hk 3 (by decide)
          refine ⟨fun _ _ _ => ?_, fun _ hx hne => absurd hx hne⟩
          exact Yield.mv rfl ⟨Ext.refl _, e3⟩
        · intro ev wy hp hl hk hd
          have e12 : ev _ = _ := hk 12 (by decide)
          have e13 : ev _ = _ := hk 13 (by decide)
          refine ⟨fun _ _ _ => ?_, fun _ hx hne => absurd hx hne⟩
          exact Yield.op (w' := wy) (by simp [execOp, go_sem, e12, e13]; intro h; omega) ⟨Ext.refl _, rfl⟩
        · intro ev wy hp hl hk hd
          have e14 : ev _ = _ := hk 14 (by decide)
          refine ⟨fun _ _ _ => ?_, fun _ hx hne => absurd hx hne⟩
          exact Yield.load rfl e14 (HLD.out _ hl) ⟨Ext.refl _, rfl⟩
        · intro ev wy hp hl hk hd
          have e11 : ev _ = _ := hk 11 (by decide)
          have e15 : ev _ = _ := hk 15 (by decide)
          refine ⟨fun _ _ _ => ?_, fun _ hx hne => absurd hx hne⟩
          refine Yield.call rfl hp Try.func50 rfl (by kernel_rfl) ?_
          simp only [List.map_toArray, List.map_cons, List.map_nil, e11, e15]
          exact ((HF.out ▸ refFollows5_any _ _ (l.take k) ⟨n, kd, c, tg, m, p⟩ wy (HVR2.out.below hl) (HI.out.below hl) hlk)).mono fun _ _ ⟨he, hb⟩ => ⟨_, he, hb, by first | rfl | simp⟩
        · intro ev wy hp hl hk hd
          have e8 : ev _ = _ := hk 8 (by decide)
          have e16 : ev _ = _ := hk 16 (by decide)
          exact Yield.pick (t := true) rfl e8 ⟨Ext.refl _, e16⟩
      · intro vals wz hz hv
        have g4 : vals 0 = _ := hv 0 (by decide)
        have g5 : vals 1 = _ := hv 1 (by decide)
        have g6 : vals 2 = _ := hv 2 (by decide)
        have g7 : vals 3 = _ := hv 3 (by decide)
        have g8 : vals 4 = _ := hv 4 (by decide)
        have g9 : vals 5 = _ := hv 5 (by decide)
        have g10 : vals 6 = _ := hv 6 (by decide)
        have g11 : vals 7 = _ := hv 7 (by decide)
        have g12 : vals 8 = _ := hv 8 (by decide)
        have g13 : vals 9 = _ := hv 9 (by decide)
        have g14 : vals 10 = _ := hv 10 (by decide)
        have g15 : vals 11 = _ := hv 11 (by decide)
        have g16 : vals 12 = _ := hv 12 (by decide)
        have g17 : vals 13 = _ := hv 13 (by decide)
        clear hv
        simp only [putAll, Act.put, List.setIfInBounds_toArray, List.set_cons_zero, List.set_cons_succ, g4, g5, g6, g7, g8, g9, g10, g11, g12, g13, g14, g15, g16, g17]
        clear g4 g5 g6 g7 g8 g9 g10 g11 g12 g13 g14 g15 g16 g17
        have hE2 := hE.trans hz
        cases F with
        | true =>
          have hnx := HNEXT.out
          rw [if_pos rfl] at hnx
          have HNX := Lib.hid hnx
          clear hnx
          go_wp2_with fail
          go_roundw
          case rel => exact ⟨k + 1, by omega, by go_num, HNX.out, hE2⟩
          case measure => simp [intOf]; omega
        | false =>
          have HC := Lib.hid (HSTOP.out rfl)
          go_wp2_with fail
          go_ret
          exact ⟨by rw [HC.out]; rfl, hE2⟩
    · obtain rfl : k = l.length := by omega
      have HC := Lib.hid (Ent.chain_end hch.out)
      go_wp2_with fail
      refine wp_region_facts (by kernel_rfl) Ext (fun iop v w => match iop with
          | 0 => v = .int .i64 (l.length : Int)
          | 1 => v = .slice a l.length cap
          | 2 => v = .int .i64 (l.length : Int)
          | 3 => v = .bool false
          | 4 => v = .bool false
          | 5 => v = undef
          | 6 => v = undef
          | 7 => v = undef
          | 8 => v = undef
          | 9 => v = undef
          | 10 => v = undef
          | 11 => v = undef
          | 12 => v = undef
          | _ => v = .bool false
          ) (by kernel_rfl) (fun _ _ _ h k => Ext.trans h k) (fun a => Ext.refl a) (Ext.drew _) ?_ ?_ ?_
      · intro iop v wa wb hF hL
        iterate 13 (rcases iop with _ | iop; exact hF)
        exact hF
      · refine Obls.cons ?_ (Obls.cons ?_ (Obls.cons ?_ (Obls.cons ?_ (Obls.cons ?_ (Obls.cons ?_ (Obls.cons ?_ (Obls.cons ?_ (Obls.cons ?_ (Obls.cons ?_ (Obls.cons ?_ (Obls.cons ?_ (Obls.cons ?_ (Obls.cons ?_ (Obls.nil))))))))))))))
        · intro ev wy hp hl hk hd
          have e3 : ev _ = .int .i64 (l.length : Int) := hk 3 (by decide)
          exact Yield.mv rfl ⟨Ext.refl _, e3⟩
        · intro ev wy hp hl hk hd
          have e0 : ev _ = .slice a l.length cap := hk 0 (by decide)
          exact Yield.mv rfl ⟨Ext.refl _, e0⟩
        · intro ev wy hp hl hk hd
          have e5 : ev _ = _ := hk 5 (by decide)
          exact Yield.oq (by simp [execOp, go_sem, e5])
        · intro ev wy hp hl hk hd
          have e4 : ev _ = _ := hk 4 (by decide)
          have e6 : ev _ = _ := hk 6 (by decide)
          exact Yield.oq (by simp [execOp, go_sem, e4, e6])
        · intro ev wy hp hl hk hd
          have e7 : ev _ = _ := hk 7 (by decide)
          exact Yield.mv rfl ⟨Ext.refl _, e7⟩
        · intro ev wy hp hl hk hd
          have e0 : ev _ = .slice a l.length cap := hk 0 (by decide)
          exact ⟨fun x hx he => (by rw [show x = .bool false from hx] at he; cases he), fun _ _ _ => rfl⟩
        · intro ev wy hp hl hk hd
          have e3 : ev _ = .int .i64 (l.length : Int) := hk 3 (by decide)
          exact ⟨fun x hx he => (by rw [show x = .bool false from hx] at he; cases he), fun _ _ _ => rfl⟩
        · intro ev wy hp hl hk hd
          have e9 : ev _ = _ := hk 9 (by decide)
          have e10 : ev _ = _ := hk 10 (by decide)
          exact ⟨fun x hx he => (by rw [show x = .bool false from hx] at he; cases he), fun _ _ _ => rfl⟩
        · intro ev wy hp hl hk hd
          have e0 : ev _ = .slice a l.length cap := hk 0 (by decide)
          exact ⟨fun x hx he => (by rw [show x = .bool false from hx] at he; cases he), fun _ _ _ => rfl⟩
        · intro ev wy hp hl hk hd
          have e3 : ev _ = .int .i64 (l.length : Int) := hk 3 (by decide)
          exact ⟨fun x hx he => (by rw [show x = .bool false from hx] at he; cases he), fun _ _ _ => rfl⟩
        · intro ev wy hp hl hk hd
          have e12 : ev _ = _ := hk 12 (by decide)
          have e13 : ev _ = _ := hk 13 (by decide)
          exact ⟨fun x hx he => (by rw [show x = .bool false from hx] at he; cases he), fun _ _ _ => rfl⟩
        · intro ev wy hp hl hk hd
          have e14 : ev _ = _ := hk 14 (by decide)
          exact ⟨fun x hx he => (by rw [show x = .bool false from hx] at he; cases he), fun _ _ _ => rfl⟩
        · intro ev wy hp hl hk hd
          have e11 : ev _ = _ := hk 11 (by decide)
          have e15 : ev _ = _ := hk 15 (by decide)
          exact ⟨fun x hx he => (by rw [show x = .bool false from hx] at he; cases he), fun _ _ _ => rfl⟩
        · intro ev wy hp hl hk hd
          have e8 : ev _ = _ := hk 8 (by decide)
          have e16 : ev _ = _ := hk 16 (by decide)
          exact Yield.pick (t := false) rfl e8 ⟨Ext.refl _, hp.const _⟩
      · intro vals wz hz hv
        have g4 : vals 0 = _ := hv 0 (by decide)
        have g5 : vals 1 = _ := hv 1 (by decide)
        have g6 : vals 2 = _ := hv 2 (by decide)
        have g7 : vals 3 = _ := hv 3 (by decide)
        have g8 : vals 4 = _ := hv 4 (by decide)
        have g9 : vals 5 = _ := hv 5 (by decide)
        have g10 : vals 6 = _ := hv 6 (by decide)
        have g11 : vals 7 = _ := hv 7 (by decide)
        have g12 : vals 8 = _ := hv 8 (by decide)
        have g13 : vals 9 = _ := hv 9 (by decide)
        have g14 : vals 10 = _ := hv 10 (by decide)
        have g15 : vals 11 = _ := hv 11 (by decide)
        have g16 : vals 12 = _ := hv 12 (by decide)
        have g17 : vals 13 = _ := hv 13 (by decide)
        clear hv
        simp only [putAll, Act.put, List.setIfInBounds_toArray, List.set_cons_zero, List.set_cons_succ, g4, g5, g6, g7, g8, g9, g10, g11, g12, g13, g14, g15, g16, g17]
        clear g4 g5 g6 g7 g8 g9 g10 g11 g12 g13 g14 g15 g16 g17
        go_wp2_with fail
        go_ret
        exact ⟨by rw [HC.out]; rfl, hE.trans hz⟩

set_option maxHeartbeats 8000000 in
theorem refLast5_any (v : Value) (l : List Ent.E) (n : Int) (w : World) (hv : Ents w v l) (hl : l.length ≤ 4611686018427387904) :
    Calls Try.prog 59 #[v, .int .i64 n] w fun x w' => ∃ u, x = .returned u ∧ Ints w' u (Ent.lastOf l (zeros n)) ∧ Ext w w' := by
  have HV := Lib.hid hv
  obtain ⟨a, cap, rfl, hcap, hmax⟩ := hv.shape
  clear hv
  have hch0 := refChain5_any (.slice a l.length cap) l w HV.out hl
  have hdl0 : (l.take (Ent.chain l)).length = Ent.chain l := by have := Ent.chain_le l; rw [List.length_take]; omega
  obtain ⟨K, d, hcl, hch, hdl, hlo, hget2⟩ : ∃ (K : Nat) (d : List Ent.E) (hcl : K ≤ l.length), (Calls Try.prog 26 #[.slice a l.length cap] w fun x w' => x = .returned (.int .i64 (K : Int)) ∧ Ext w w') ∧ d.length = K ∧ (Ent.lastOf l (zeros n) = match Ent.lastCut d with
    | none => zeros n
    | some c => c) ∧ ∀ (j : Nat) (hj : j < K), ∃ h : j < d.length, d[j] = l[j]'(by omega) := ⟨Ent.chain l, l.take (Ent.chain l), Ent.chain_le l, hch0, hdl0, rfl, fun j hj => ⟨by omega, by simp⟩⟩
  have HCH := Lib.hid hch
  have HLO := Lib.hid hlo
  have HDL := Lib.hid hdl
  have HG2 := Lib.hid hget2
  clear hch hlo hdl hget2 hch0 hdl0
  go_enter Try.func59, Try.ntmps59
  go_wp2_with fail
  refine HCH.out.mono ?_
  rintro e w1 ⟨rfl, hE1⟩
  go_wp2_with fail
  go_loopw [5] (fun i wr => ∃ j : Nat, j ≤ K ∧ i = .int .i64 (prevI j) ∧ Hid (∀ x ∈ d.drop j, x.kind ≠ 1) ∧ Ext w wr) (fun i _ => (intOf i + 1).toNat)
  case atStart => exact ⟨K, Nat.le_refl _, by unfold prevI; rfl, Lib.hid (fun x hx => by rw [← HDL.out, List.drop_length] at hx; cases hx), hE1⟩
  case round =>
    obtain ⟨j, hj, rfl, hbe, hE⟩ := hrel
    cases j with
    | zero =>
      have hi : prevI 0 = -1 := rfl
      rw [hi]
      have hz : Ent.lastOf l (zeros n) = zeros n := by rw [HLO.out, Ent.lastCut_drop hbe.out]
      have HZ := Lib.hid hz
      clear hz
      by_cases h1 : n < 1
      · have hz0 : zeros n = [] := by unfold zeros; rw [if_neg (by omega)]
        have HZ0 := Lib.hid hz0
        clear hz0
        go_wp2_with fail
        go_ret
        exact ⟨_, rfl, by rw [HZ.out, HZ0.out]; exact ints_none _, hE⟩
      · by_cases h8 : (8 : Int) < n
        · have hz0 : zeros n = [] := by unfold zeros; rw [if_neg (by omega)]
          have HZ0 := Lib.hid hz0
          clear hz0
          go_wp2_with fail
          go_ret
          exact ⟨_, rfl, by rw [HZ.out, HZ0.out]; exact ints_none _, hE⟩
        · obtain ⟨z, rfl⟩ : ∃ z : Nat, n = (z : Int) := ⟨n.toNat, by omega⟩
          have hz0 : zeros (z : Int) = List.replicate z 0 := by unfold zeros; rw [if_pos (by omega)]; simp
          have HZ0 := Lib.hid hz0
          have hz1 : z ≤ 9223372036854775807 := by omega
          have hm2 : 8 * z ≤ 281474976710656 := by omega
          have ti := tI
          clear hz0
          go_wp2_with (refine wpList_mkfull rfl (.tmp 30) (.tmp 30) ti rfl wr.heap.size z rfl rfl hm2 (by unfold maxLen; omega) (Nat.le_refl _) ?_; intro w9 hown9 hg9)
          go_ret
          rw [made_zeros] at hown9
          exact ⟨_, rfl, by rw [HZ.out, HZ0.out]; exact Sl.ofOwn hown9, hE.trans ((Below.refl _ wr).grown hg9 (Nat.le_refl _) (fun k hk => by cases hk))⟩
    | succ j =>
      have hi : prevI (j + 1) = (j : Int) := by unfold prevI; omega
      rw [hi]
      have hi2 : ∀ x : Value, x = .int .i64 ((j : Int) - 1) → x = .int .i64 (prevI j) := fun x h => h
      have hlt : j < l.length := by omega
      obtain ⟨a', cap', e', _, _, _, hc⟩ := HV.out.below hE
      obtain ⟨b, off, rfl, tj, p0, p1, p2, p3, p4, p5, htj⟩ := hc j hlt
      injection e' with e1' e2' e3'
      subst e1'
      clear hc e2' e3'
      obtain ⟨a3, cap3, rfl, hcap3, hmax3, _, _⟩ := htj.open
      obtain ⟨hjd, hje⟩ := HG2.out j hj
      have hat := fun hk => Ent.lastCut_at d j hjd hk hbe.out
      have hdk := fun hk => Ent.drop_kinds hjd hk hbe.out
      rw [hje] at hat hdk
      have HTJ := Lib.hid htj
      clear hje
      generalize l[j] = R at *
      obtain ⟨nj, kj, cj, tgj, mj, pj⟩ := R
      simp only at *
      have HAT := Lib.hid hat
      have HDK := Lib.hid hdk
      clear hat hdk htj
      by_cases kj1 : kj = 1
      · subst kj1
        have HG := Lib.hid (show Ent.lastOf l (zeros n) = cj by rw [HLO.out, HAT.out rfl])
        go_wp2_with fail
        go_ret
        exact ⟨_, rfl, by rw [HG.out]; exact HTJ.out, hE⟩
      · have hkb : (kj == 1) = false := beq_eq_false_iff_ne.2 kj1
        have HD := Lib.hid (HDK.out kj1)
        go_wp2_with fail
        go_roundw
        case rel => exact ⟨j, by omega, hi2 _ (by go_num), HD, hE⟩
        case measure => simp [intOf]
/- Layer 5: entries of the program's, of the document's (the statements' own); a cut that is read as it was, and a chain. -/
/-- The cells of entries, each with its cut's slice. -/
def entFlat (ps : List (Value × Ent.E)) : List Value := ps.flatMap fun p => [.int .i64 p.2.number, .int .i64 p.2.kind, p.1, .int .i64 p.2.tag, .int .i64 p.2.term, .int .i64 p.2.pos]
theorem entFlat_append (ps qs : List (Value × Ent.E)) : entFlat (ps ++ qs) = entFlat ps ++ entFlat qs := by simp [entFlat]
theorem entFlat_length (ps : List (Value × Ent.E)) : (entFlat ps).length = ps.length * 6 := by
  induction ps with
  | nil => rfl
  | cons p ps ih =>
    simp only [entFlat, List.flatMap_cons, List.length_append, List.length_cons, List.length_nil] at ih ⊢
    omega
theorem entFlat_at : ∀ (ps : List (Value × Ent.E)) (i j : Nat) (hi : i < ps.length), j < 6 → (entFlat ps)[i * 6 + j]? = [Value.int .i64 ps[i].2.number, .int .i64 ps[i].2.kind, ps[i].1, .int .i64 ps[i].2.tag, .int .i64 ps[i].2.term, .int .i64 ps[i].2.pos][j]? := by
  intro ps
  induction ps with
  | nil => intro i j hi; exact absurd hi (by simp)
  | cons p ps ih =>
    intro i j hi hj
    unfold entFlat
    rw [List.flatMap_cons]
    cases i with
    | zero => rw [Nat.zero_mul, Nat.zero_add, List.getElem?_append_left (by simpa using hj)]; rfl
    | succ i =>
      rw [List.getElem?_append_right (by simp; omega)]
      have e : (i + 1) * 6 + j - [Value.int IntKind.i64 p.2.number, .int .i64 p.2.kind, p.1, .int .i64 p.2.tag, .int .i64 p.2.term, .int .i64 p.2.pos].length = i * 6 + j := by
        simp only [List.length_cons, List.length_nil]
        omega
      rw [e]
      exact ih i j (by simpa using hi) hj
theorem ents_of_flat {w : World} {v : Value} {ps : List (Value × Ent.E)} (h1 : ∀ p ∈ ps, Ints w p.1 p.2.cut) (h2 : SlN 6 w v ps.length (entFlat ps)) : Ents w v (ps.map (·.2)) := by
  obtain ⟨a, cap, rfl, q1, q2, q4, q5, q3⟩ := h2
  refine ⟨a, cap, by simp, by simpa using q1, q2, q4, fun i hi => ?_⟩
  have hi' : i < ps.length := by simpa using hi
  have hl := entFlat_length ps
  have cell : ∀ j, j < 6 → ∃ b off, a = some ⟨b, off, none⟩ ∧ w.cell? ⟨b, off + (i * 6 + j), none⟩ = [Value.int .i64 ps[i].2.number, .int .i64 ps[i].2.kind, ps[i].1, .int .i64 ps[i].2.tag, .int .i64 ps[i].2.term, .int .i64 ps[i].2.pos][j]? := by
    intro j hj
    obtain ⟨b, off, e, hc⟩ := q3 (i * 6 + j) (by omega)
    have hx := entFlat_at ps i j hi' hj
    rw [List.getElem?_eq_getElem (by omega)] at hx
    exact ⟨b, off, e, hc.trans hx⟩
  obtain ⟨b, off, rfl, k0⟩ := cell 0 (by omega)
  have same : ∀ j, j < 6 → w.cell? ⟨b, off + (i * 6 + j), none⟩ = [Value.int .i64 ps[i].2.number, .int .i64 ps[i].2.kind, ps[i].1, .int .i64 ps[i].2.tag, .int .i64 ps[i].2.term, .int .i64 ps[i].2.pos][j]? := by
    intro j hj
    obtain ⟨b', off', e, hc⟩ := cell j hj
    injection e with e
    injection e with e1 e2
    subst e1 e2
    exact hc
  refine ⟨b, off, rfl, ps[i].1, ?_⟩
  simp only [List.getElem_map]
  exact ⟨same 0 (by omega), same 1 (by omega), same 2 (by omega), same 3 (by omega), same 4 (by omega), same 5 (by omega), h1 _ (List.getElem_mem _)⟩
theorem entFlat_one {w : World} {ps : List (Value × Ent.E)} (h : ∀ p ∈ ps, Ints w p.1 p.2.cut) : ∀ y ∈ entFlat ps, y.oneCell' = true := by
  intro y hy
  unfold entFlat at hy
  rw [List.mem_flatMap] at hy
  obtain ⟨p, hp, hy⟩ := hy
  obtain ⟨a, n, c, e⟩ := Ints.isSlice (h p hp)
  simp only [List.mem_cons, List.not_mem_nil, or_false] at hy
  rcases hy with rfl | rfl | rfl | rfl | rfl | rfl
  · rfl
  · rfl
  · rw [e]; rfl
  · rfl
  · rfl
  · rfl
theorem tE : ElemN Try.prog 45 63 (.agg #[.int .i64 0, .int .i64 0, .slice none 0 0, .int .i64 0, .int .i64 0, .int .i64 0]) 6 64 := ⟨Try.underlying45, by kernel_rfl, rfl, by omega⟩

/-- A row of entries of the call's own: what it holds; the cuts' slices were there ahead of it. -/
def OwnEnts (w0 w : World) (base : Nat) (v : Value) (l : List Ent.E) : Prop := ∃ ps : List (Value × Ent.E), ps.map (·.2) = l ∧ (∀ p ∈ ps, Ints w0 p.1 p.2.cut) ∧ w.ownsRow base 63 6 v l.length (entFlat ps)
theorem OwnEnts.ents {w0 w : World} {base : Nat} {v : Value} {l : List Ent.E} (h : OwnEnts w0 w base v l) (hE : Ext w0 w) : Ents w v l := by
  obtain ⟨ps, rfl, h1, h2⟩ := h
  refine ents_of_flat (fun p hp => (h1 p hp).below hE) ?_
  have := SlN.ofOwn h2
  rwa [List.length_map] at this
theorem OwnEnts.nil (w0 w : World) (base : Nat) : OwnEnts w0 w base (.slice none 0 0) [] := ⟨[], rfl, by simp, World.ownsRow_nil _ _ _ _⟩
theorem OwnEnts.ext {w0 w w' : World} {base : Nat} {v : Value} {l : List Ent.E} (h : OwnEnts w0 w base v l) (hE : Ext w w') : OwnEnts w0 w' base v l := by
  obtain ⟨ps, h1, h2, h3⟩ := h
  exact ⟨ps, h1, h2, rowExt h3 hE⟩
theorem OwnEnts.isSlice {w0 w : World} {base : Nat} {v : Value} {l : List Ent.E} (h : OwnEnts w0 w base v l) : ∃ a c, v = .slice a l.length c := by
  obtain ⟨ps, h1, h2, h3⟩ := h
  rcases h3.2 with ⟨rfl, h0⟩ | ⟨g, c, cur, rfl, _⟩
  · rw [h0]; exact ⟨_, _, rfl⟩
  · exact ⟨_, _, rfl⟩
/-- A block with one entry in it. -/
theorem SlN.one6 (w : World) {T : TypeId} (u : Value) (e : Ent.E) : SlN 6 (w.alloc (.cells #[.int .i64 e.number, .int .i64 e.kind, u, .int .i64 e.tag, .int .i64 e.term, .int .i64 e.pos] T)) (.slice (some ⟨w.heap.size, 0, none⟩) 1 1) 1 (entFlat [(u, e)]) := by
  refine ⟨_, _, rfl, Nat.le_refl _, by simp [maxLen], fun e => by simp at e, rfl, fun j hj => ⟨_, _, rfl, ?_⟩⟩
  have hj6 : j < 6 := by simpa [entFlat] using hj
  rw [Nat.zero_add, World.cell?_alloc_mark]
  simp [entFlat]

/- slices.Clone at rows of entries. -/
theorem cloneEw_any (v : Value) (ps : List (Value × Ent.E)) (w : World) (hv : SlN 6 w v ps.length (entFlat ps)) (h1 : ∀ y ∈ entFlat ps, y.oneCell' = true) (hl : ps.length * 64 ≤ 140737488355328) :
    Calls Try.prog 55 #[v] w fun x w' => ∃ u, x = .returned u ∧ w'.ownsRow w.heap.size 63 6 u ps.length (entFlat ps) ∧ Ext w w' := by
  have hv0 := hv
  obtain ⟨a, cap, rfl, hcap, hmax, hn, hc, hcell⟩ := hv
  have e1 := fun (w : World) (a : Option Addr) (n c : Nat) => Lib.run_eql_slice_nil (P := Try.prog) w 45 63 a n c 0 0 Try.underlying45
  cases a with
  | none =>
    obtain rfl := hn rfl
    have : ps = [] := List.eq_nil_of_length_eq_zero (by omega)
    subst this
    clear hc hcell hv0
    go_enter Try.func55, Try.ntmps55
    go_wp2
    go_ret
    exact ⟨_, rfl, World.ownsRow_nil _ _ _ _, Below.refl _ _⟩
  | some ad =>
    have ti := tE
    clear hc hcell
    have hown0 : (w.alloc (.cells #[] 63)).ownsRow w.heap.size 63 6 (.slice (some ⟨w.heap.size, 0, none⟩) 0 0) 0 [] := World.ownsRow_made w #[] 0 (Nat.le_refl _) (by simp [maxLen]) (by simp)
    have hsl := hv0.below (Ext.alloc w (.cells #[] 63))
    have hc1 : 0 + ps.length ≤ maxLen := by unfold maxLen; omega
    have hc2 : (0 + ps.length) * 64 ≤ 140737488355328 := by omega
    go_enter Try.func55, Try.ntmps55
    go_wp2_with (first | (at_builtin; refine wpList_appN rfl (.tmp 5) (.tmp 6) ti rfl rfl rfl hown0 hsl h1 hc1 hc2 (by simp) ?_; intro v2 w2 hown2 hg2))
    go_ret
    exact ⟨_, rfl, by simpa using hown2, ((Below.refl _ w).alloc (Nat.le_refl _) _).grown hg2 (by simp) (fun k hk => (hown0.lt k hk).1)⟩
end Go.Proofs.Ytkpcmedmiiohnaa
