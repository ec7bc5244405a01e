/-
  Merged: Layer 5, mathematics: bytes as an entry, vectors read as the program and the document read them; Layer 5, the program: entries by value; Layer 5, the program: which entries may be; Layer 5: which entries may be: the document's own answer; Layer 5, the program: entries as bytes; Layer 5: entries as bytes: the document's own answer; Layer 5, mathematics: bytes as an entry, read part by part up to what each part may be: it is the same as to read, and to write again; Layer 5, the program: bytes as entries; Rows of numbers in blocks of their own: what leaves them as they are; Layer 5: whether two entries are one: the program, and the document's own answer; Layer 5: bytes as entries: the document's own answer; Layer 5, the program: rows of entries, and how many of them follow one another; Layer 5: how many entries follow one another, and the last cut: the program; Layer 5: may an entry stand behind others: the document's own answer; Layer 5: how many entries follow one another, and the last cut: the document's own answers; Layer 5: entries of the program's, of the document's (the statements' own); slices.
-/
import Derived.Deep.RegionLaw
import Derived.Test.YtckdofhcifdpmaaGreatBsCrcPut
import Derived.Test.YtckdofhcifdpmaaGreatBsCrcRef
import Derived.Test.YtckdofhcifdpmaaGreatBsLib
import Derived.Test.YtckdofhcifdpmaaGreatBsLibW
import Derived.Test.YtckdofhcifdpmaaGreatBsMath
import Derived.Test.YtckdofhcifdpmaaGreatBsPack
import Derived.Test.YtckdofhcifdpmaaGreatBsVec

set_option linter.unusedSimpArgs false
set_option linter.unusedVariables false

/- Layer 5, mathematics: bytes as an entry, vectors read as the program and the document read them. -/
namespace Go.Proofs.YtckdofhcifdpmaaGreat.Ent

/-- How a vector is read. -/
def vd (l : List UInt8) : List Int := orNone (decOk l) (decS l).2
theorem vecBytes_enc (v : List Int) : vecBytes v = Vec.enc v := rfl
theorem vd_back (v : List Int) (h : Vec.right v = true) : vd (vecBytes v) = v := by
  rw [vecBytes_enc]
  unfold vd
  rw [(Go.Proofs.YtckdofhcifdpmaaGreat.dec_enc h).1, (Go.Proofs.YtckdofhcifdpmaaGreat.dec_enc h).2, orNone_true]
theorem dec_vd_iff {b : List UInt8} {e : E} : dec vd b = some e ↔ right e = true ∧ enc e = b := dec_iff vd_back
end Go.Proofs.YtckdofhcifdpmaaGreat.Ent

namespace Go.Proofs.YtckdofhcifdpmaaGreat
set_option linter.unusedSimpArgs false
set_option linter.unusedVariables false
set_option maxRecDepth 100000
open Go.RowKit
/- Layer 5, the program: entries by value; which may be. -/
/-- An entry, by value: its cut's slice, and what it holds. -/
def entV (t : Value) (e : Ent.E) : Value := .agg #[.int .i64 e.number, .int .i64 e.kind, t, .int .i64 e.tag, .int .i64 e.term, .int .i64 e.pos]
def IsEnt (w : World) (v : Value) (e : Ent.E) : Prop := ∃ t, v = entV t e ∧ Ints w t e.cut
theorem IsEnt.below {w w' : World} {v : Value} {e : Ent.E} (h : IsEnt w v e) (hb : Below w.heap.size w w') : IsEnt w' v e := by
  obtain ⟨t, rfl, h⟩ := h
  exact ⟨t, rfl, h.below hb⟩
/-- An entry's value, opened. -/
theorem IsEnt.shape {w : World} {v : Value} {e : Ent.E} (h : IsEnt w v e) : ∃ a n c, v = .agg #[.int .i64 e.number, .int .i64 e.kind, .slice a n c, .int .i64 e.tag, .int .i64 e.term, .int .i64 e.pos] := by
  obtain ⟨t, rfl, ht⟩ := h
  obtain ⟨a, c, rfl, _⟩ := ht.open
  exact ⟨_, _, _, rfl⟩
/-- Block p is an entry (of the program's type, or of the document's). -/
def EntAt (T : TypeId) (w : World) (p : Nat) (t : Value) (e : Ent.E) : Prop := w.heap[p]? = some (.cells #[.int .i64 e.number, .int .i64 e.kind, t, .int .i64 e.tag, .int .i64 e.term, .int .i64 e.pos] T (0, 0))
theorem EntAt.new (T : TypeId) (w : World) (t : Value) (e : Ent.E) : EntAt T (w.alloc (.cells #[.int .i64 e.number, .int .i64 e.kind, t, .int .i64 e.tag, .int .i64 e.term, .int .i64 e.pos] T)) w.heap.size t e := heap_alloc_new w _
theorem EntAt.lt {T : TypeId} {w : World} {p : Nat} {t : Value} {e : Ent.E} (h : EntAt T w p t e) : p < w.heap.size := (Array.getElem?_eq_some_iff.1 h).1
theorem EntAt.ext {T : TypeId} {w w' : World} {p : Nat} {t : Value} {e : Ent.E} (h : EntAt T w p t e) (hE : Ext w w') : EntAt T w' p t e := (hE.block p h.lt).trans h
theorem EntAt.but {T : TypeId} {w w' : World} {p q : Nat} {t : Value} {e : Ent.E} (h : EntAt T w p t e) (hB : But q w w') (hne : p ≠ q) : EntAt T w' p t e := (hB.block p h.lt hne).trans h
theorem EntAt.cells {T : TypeId} {w : World} {p : Nat} {t : Value} {e : Ent.E} (h : EntAt T w p t e) : w.cell? ⟨p, 0, none⟩ = some (.int .i64 e.number) ∧ w.cell? ⟨p, 1, none⟩ = some (.int .i64 e.kind) ∧ w.cell? ⟨p, 2, none⟩ = some t ∧ w.cell? ⟨p, 3, none⟩ = some (.int .i64 e.tag) ∧ w.cell? ⟨p, 4, none⟩ = some (.int .i64 e.term) ∧ w.cell? ⟨p, 5, none⟩ = some (.int .i64 e.pos) :=
  ⟨cell_of_heap h 0, cell_of_heap h 1, cell_of_heap h 2, cell_of_heap h 3, cell_of_heap h 4, cell_of_heap h 5⟩

theorem box_ent (w : World) (n k t m p : Int) (v : Value) : (Instr.box 77 (.agg #[.int .i64 n, .int .i64 k, v, .int .i64 t, .int .i64 m, .int .i64 p])).run Tryz.prog w = .ok (.pointer (some ⟨w.heap.size, 0, none⟩)) (w.alloc (.cells #[.int .i64 n, .int .i64 k, v, .int .i64 t, .int .i64 m, .int .i64 p] 77)) := by kernel_rfl
theorem box_entR (w : World) (n k t m p : Int) (v : Value) : (Instr.box 54 (.agg #[.int .i64 n, .int .i64 k, v, .int .i64 t, .int .i64 m, .int .i64 p])).run Tryz.prog w = .ok (.pointer (some ⟨w.heap.size, 0, none⟩)) (w.alloc (.cells #[.int .i64 n, .int .i64 k, v, .int .i64 t, .int .i64 m, .int .i64 p] 54)) := by kernel_rfl
theorem build_seq0 (w : World) : (Instr.build 52 #[]).run Tryz.prog w = .ok (.agg #[.int .i64 0, .int .i64 0]) w := by kernel_rfl

set_option maxHeartbeats 1000000 in
theorem isBetween5_any (n a b : Int) (w : World) : Calls Tryz.prog 162 #[.int .i64 n, .int .i64 a, .int .i64 b] w fun e w' => e = .returned (.bool (decide (a ≤ n ∧ n ≤ b))) ∧ w = w' := by
  by_cases h0 : a ≤ n
  · by_cases h1 : n ≤ b
    · have e : decide (a ≤ n ∧ n ≤ b) = true := by simp [h0, h1]
      rw [e]
      clear e
      go_enter Tryz.func162, Tryz.ntmps162
      go_wp2
      go_ret
      exact ⟨rfl, rfl⟩
    · have e : decide (a ≤ n ∧ n ≤ b) = false := by simp [h1]
      rw [e]
      clear e
      go_enter Tryz.func162, Tryz.ntmps162
      go_wp2
      go_ret
      exact ⟨rfl, rfl⟩
  · have e : decide (a ≤ n ∧ n ≤ b) = false := by simp [h0]
    rw [e]
    clear e
    go_enter Tryz.func162, Tryz.ntmps162
    go_wp2
    go_ret
    exact ⟨rfl, rfl⟩
/- Layer 5, the program: which entries may be. -/
theorem Ent.right_no {n k : Int} {c : List Int} {t m p : Int} (h : decide (1 ≤ n ∧ n ≤ 1099511627776) = false) : Ent.right ⟨n, k, c, t, m, p⟩ = false := by
  unfold Ent.right; simp only [h, Bool.false_and]
theorem Ent.right_one {n : Int} {c : List Int} {t m p : Int} (h : decide (1 ≤ n ∧ n ≤ 1099511627776) = true) : Ent.right ⟨n, 1, c, t, m, p⟩ = (Vec.right c && decide (t = 0 ∧ m = 0 ∧ p = 0)) := by
  unfold Ent.right Ent.rightCut Ent.rightTrim; simp only [h]; simp
theorem Ent.right_two {n : Int} {c : List Int} {t m p : Int} (h : decide (1 ≤ n ∧ n ≤ 1099511627776) = true) : Ent.right ⟨n, 2, c, t, m, p⟩ = (c.isEmpty && (decide (0 ≤ t ∧ t ≤ 1073741824) && (decide (1 ≤ m ∧ m ≤ 64) && decide (0 ≤ p ∧ p ≤ 1099511627776)))) := by
  unfold Ent.right Ent.rightCut Ent.rightTrim; simp only [h]; simp
theorem Ent.right_other {n k : Int} {c : List Int} {t m p : Int} (h1 : k ≠ 1) (h2 : k ≠ 2) : Ent.right ⟨n, k, c, t, m, p⟩ = false := by
  unfold Ent.right; simp [h1, h2]
theorem isEmpty_len (c : List Int) : c.isEmpty = decide ((c.length : Int) = 0) := by
  cases c with
  | nil => rfl
  | cons x c => simp; omega

set_option maxHeartbeats 4000000 in
theorem right5_any (v : Value) (e : Ent.E) (w : World) (hv : IsEnt w v e) :
    Calls Tryz.prog 115 #[v] w fun x w' => x = .returned (.bool (Ent.right e)) ∧ Ext w w' := by
  have hbx := box_ent
  have hb0 := build_seq0
  obtain ⟨u, rfl, hu⟩ := hv
  obtain ⟨n, k, c, t, m, p⟩ := e
  unfold entV
  simp only at hu ⊢
  have HU := Lib.hid hu
  obtain ⟨a, cap, rfl, hcap, hmax, _, _⟩ := hu.open
  unfold maxLen at hmax
  clear hu
  have hE0 : Ext w (w.alloc (.cells #[.int .i64 n, .int .i64 k, .slice a c.length cap, .int .i64 t, .int .i64 m, .int .i64 p] 77)) := Ext.alloc _ _
  cases hn : decide (1 ≤ n ∧ n ≤ 1099511627776) with
  | false =>
    have HN := Lib.hid hn
    have HR := Lib.hid (Ent.right_no (k := k) (c := c) (t := t) (m := m) (p := p) hn)
    clear hn
    go_enter Tryz.func115, Tryz.ntmps115
    go_wp2_with fail
    refine (isBetween5_any _ _ _ _).mono ?_
    rw [HN.out]
    rintro e w1 ⟨rfl, rfl⟩
    go_wp2_with fail
    go_ret
    exact ⟨by rw [HR.out]; rfl, hE0⟩
  | true =>
    by_cases k1 : k = 1
    · subst k1
      have HN := Lib.hid hn
      have HR := Lib.hid (Ent.right_one (c := c) (t := t) (m := m) (p := p) hn)
      clear hn
      cases hv : Vec.right c with
      | false =>
        have HV := Lib.hid hv
        clear hv
        go_enter Tryz.func115, Tryz.ntmps115
        go_wp2_with fail
        refine (isBetween5_any _ _ _ _).mono ?_
        rw [HN.out]
        rintro e w1 ⟨rfl, rfl⟩
        go_wp2_with fail
        refine (right_any _ c _ (HU.out.below hE0)).mono ?_
        rw [HV.out]
        rintro e w1 ⟨rfl, rfl⟩
        go_wp2_with fail
        go_ret
        exact ⟨by rw [HR.out, HV.out]; rfl, hE0⟩
      | true =>
        have HV := Lib.hid hv
        clear hv
        by_cases t0 : t = 0
        · by_cases m0 : m = 0
          · by_cases p0 : p = 0
            · subst t0 m0 p0
              replace HR := Lib.hid (show Ent.right ⟨n, 1, c, 0, 0, 0⟩ = true by rw [HR.out, HV.out]; rfl)
              go_enter Tryz.func115, Tryz.ntmps115
              go_wp2_with fail
              refine (isBetween5_any _ _ _ _).mono ?_
              rw [HN.out]
              rintro e w1 ⟨rfl, rfl⟩
              go_wp2_with fail
              refine (right_any _ c _ (HU.out.below hE0)).mono ?_
              rw [HV.out]
              rintro e w1 ⟨rfl, rfl⟩
              go_wp2_with fail
              go_ret
              exact ⟨by rw [HR.out]; rfl, hE0⟩
            · subst t0 m0
              replace HR := Lib.hid (show Ent.right ⟨n, 1, c, 0, 0, p⟩ = false by rw [HR.out, HV.out]; simp [p0])
              go_enter Tryz.func115, Tryz.ntmps115
              go_wp2_with fail
              refine (isBetween5_any _ _ _ _).mono ?_
              rw [HN.out]
              rintro e w1 ⟨rfl, rfl⟩
              go_wp2_with fail
              refine (right_any _ c _ (HU.out.below hE0)).mono ?_
              rw [HV.out]
              rintro e w1 ⟨rfl, rfl⟩
              go_wp2_with fail
              go_ret
              exact ⟨by rw [HR.out]; rfl, hE0⟩
          · subst t0
            replace HR := Lib.hid (show Ent.right ⟨n, 1, c, 0, m, p⟩ = false by rw [HR.out, HV.out]; simp [m0])
            go_enter Tryz.func115, Tryz.ntmps115
            go_wp2_with fail
            refine (isBetween5_any _ _ _ _).mono ?_
            rw [HN.out]
            rintro e w1 ⟨rfl, rfl⟩
            go_wp2_with fail
            refine (right_any _ c _ (HU.out.below hE0)).mono ?_
            rw [HV.out]
            rintro e w1 ⟨rfl, rfl⟩
            go_wp2_with fail
            go_ret
            exact ⟨by rw [HR.out]; rfl, hE0⟩
        · replace HR := Lib.hid (show Ent.right ⟨n, 1, c, t, m, p⟩ = false by rw [HR.out, HV.out]; simp [t0])
          go_enter Tryz.func115, Tryz.ntmps115
          go_wp2_with fail
          refine (isBetween5_any _ _ _ _).mono ?_
          rw [HN.out]
          rintro e w1 ⟨rfl, rfl⟩
          go_wp2_with fail
          refine (right_any _ c _ (HU.out.below hE0)).mono ?_
          rw [HV.out]
          rintro e w1 ⟨rfl, rfl⟩
          go_wp2_with fail
          go_ret
          exact ⟨by rw [HR.out]; rfl, hE0⟩
    · by_cases k2 : k = 2
      · subst k2
        have HN := Lib.hid hn
        have HR := Lib.hid (Ent.right_two (c := c) (t := t) (m := m) (p := p) hn)
        clear hn
        by_cases hc : (c.length : Int) = 0
        · have HC := Lib.hid (show c.isEmpty = true by rw [isEmpty_len]; simpa using hc)
          cases ht : decide (0 ≤ t ∧ t ≤ 1073741824) with
          | false =>
            rw [HC.out, ht] at HR
            have HT := Lib.hid ht
            clear ht
            go_enter Tryz.func115, Tryz.ntmps115
            go_wp2_with fail
            refine (isBetween5_any _ _ _ _).mono ?_
            rw [HN.out]
            rintro e w1 ⟨rfl, rfl⟩
            go_wp2_with fail
            refine (isBetween5_any _ _ _ _).mono ?_
            rw [HT.out]
            rintro e w1 ⟨rfl, rfl⟩
            go_wp2_with fail
            go_ret
            exact ⟨by rw [HR.out]; rfl, hE0⟩
          | true =>
            cases hm : decide (1 ≤ m ∧ m ≤ 64) with
            | false =>
              rw [HC.out, ht, hm] at HR
              have HT := Lib.hid ht
              have HM := Lib.hid hm
              clear ht hm
              go_enter Tryz.func115, Tryz.ntmps115
              go_wp2_with fail
              refine (isBetween5_any _ _ _ _).mono ?_
              rw [HN.out]
              rintro e w1 ⟨rfl, rfl⟩
              go_wp2_with fail
              refine (isBetween5_any _ _ _ _).mono ?_
              rw [HT.out]
              rintro e w1 ⟨rfl, rfl⟩
              go_wp2_with fail
              refine (isBetween5_any _ _ _ _).mono ?_
              rw [HM.out]
              rintro e w1 ⟨rfl, rfl⟩
              go_wp2_with fail
              go_ret
              exact ⟨by rw [HR.out]; rfl, hE0⟩
            | true =>
              rw [HC.out, ht, hm] at HR
              have HT := Lib.hid ht
              have HM := Lib.hid hm
              clear ht hm
              go_enter Tryz.func115, Tryz.ntmps115
              go_wp2_with fail
              refine (isBetween5_any _ _ _ _).mono ?_
              rw [HN.out]
              rintro e w1 ⟨rfl, rfl⟩
              go_wp2_with fail
              refine (isBetween5_any _ _ _ _).mono ?_
              rw [HT.out]
              rintro e w1 ⟨rfl, rfl⟩
              go_wp2_with fail
              refine (isBetween5_any _ _ _ _).mono ?_
              rw [HM.out]
              rintro e w1 ⟨rfl, rfl⟩
              go_wp2_with fail
              refine (isBetween5_any _ _ _ _).mono ?_
              generalize decide (0 ≤ p ∧ p ≤ 1099511627776) = dp at *
              rintro e w1 ⟨rfl, rfl⟩
              cases dp <;> (go_wp2_with fail; go_ret; exact ⟨by rw [HR.out]; rfl, hE0⟩)
        · have HC := Lib.hid (show c.isEmpty = false by rw [isEmpty_len]; simpa using hc)
          rw [HC.out] at HR
          have hcb : ((c.length : Int) == 0) = false := by simpa using hc
          go_enter Tryz.func115, Tryz.ntmps115
          go_wp2_with fail
          refine (isBetween5_any _ _ _ _).mono ?_
          rw [HN.out]
          rintro e w1 ⟨rfl, rfl⟩
          go_wp2_with fail
          go_ret
          exact ⟨by rw [HR.out]; rfl, hE0⟩
      · have HN := Lib.hid hn
        have HR := Lib.hid (Ent.right_other (n := n) (c := c) (t := t) (m := m) (p := p) k1 k2)
        clear hn
        go_enter Tryz.func115, Tryz.ntmps115
        go_wp2_with fail
        refine (isBetween5_any _ _ _ _).mono ?_
        rw [HN.out]
        rintro e w1 ⟨rfl, rfl⟩
        go_wp2_with fail
        go_ret
        exact ⟨by rw [HR.out]; rfl, hE0⟩
/- Layer 5: which entries may be: the document's own answer. -/
set_option maxHeartbeats 4000000 in
theorem refRight5_any (v : Value) (e : Ent.E) (w : World) (hv : IsEnt w v e) :
    Calls Tryz.prog 121 #[v] w fun x w' => x = .returned (.bool (Ent.right e)) ∧ Ext w w' := by
  have hbx := box_entR
  obtain ⟨u, rfl, hu⟩ := hv
  obtain ⟨n, k, c, t, m, p⟩ := e
  unfold entV
  simp only at hu ⊢
  have HU := Lib.hid hu
  obtain ⟨a, cap, rfl, hcap, hmax, _, _⟩ := hu.open
  unfold maxLen at hmax
  clear hu
  have hE0 : Ext w (w.alloc (.cells #[.int .i64 n, .int .i64 k, .slice a c.length cap, .int .i64 t, .int .i64 m, .int .i64 p] 54)) := Ext.alloc _ _
  by_cases n0 : n < 1
  · have HR := Lib.hid (show Ent.right ⟨n, k, c, t, m, p⟩ = false by exact Ent.right_no (by simp; omega))
    go_enter Tryz.func121, Tryz.ntmps121
    go_wp2_with fail
    go_ret
    exact ⟨by rw [HR.out]; rfl, hE0⟩
  by_cases n1 : (1099511627776 : Int) < n
  · have HR := Lib.hid (show Ent.right ⟨n, k, c, t, m, p⟩ = false by exact Ent.right_no (by simp; omega))
    go_enter Tryz.func121, Tryz.ntmps121
    go_wp2_with fail
    go_ret
    exact ⟨by rw [HR.out]; rfl, hE0⟩
  have hn : decide (1 ≤ n ∧ n ≤ 1099511627776) = true := by simp; omega
  by_cases k1 : k = 1
  · subst k1
    have HD := Lib.hid (Ent.right_one (c := c) (t := t) (m := m) (p := p) hn)
    clear hn
    cases hv : Vec.right c with
    | false =>
      have HV := Lib.hid hv
      have HR := Lib.hid (show Ent.right ⟨n, 1, c, t, m, p⟩ = false by rw [HD.out, hv]; rfl)
      clear hv
      go_enter Tryz.func121, Tryz.ntmps121
      go_wp2_with fail
      refine (refRight_any _ c _ (HU.out.below hE0)).mono ?_
      rw [HV.out]
      rintro e w1 ⟨rfl, rfl⟩
      go_wp2_with fail
      go_ret
      exact ⟨by rw [HR.out]; rfl, hE0⟩
    | true =>
      have HV := Lib.hid hv
      clear hv
      by_cases t0 : t = 0
      rotate_left
      · have HR := Lib.hid (show Ent.right ⟨n, 1, c, t, m, p⟩ = false by rw [HD.out]; simp [t0])
        go_enter Tryz.func121, Tryz.ntmps121
        go_wp2_with fail
        refine (refRight_any _ c _ (HU.out.below hE0)).mono ?_
        rw [HV.out]
        rintro e w1 ⟨rfl, rfl⟩
        go_wp2_with fail
        go_ret
        exact ⟨by rw [HR.out]; rfl, hE0⟩
      subst t0
      by_cases m0 : m = 0
      rotate_left
      · have HR := Lib.hid (show Ent.right ⟨n, 1, c, 0, m, p⟩ = false by rw [HD.out]; simp [m0])
        go_enter Tryz.func121, Tryz.ntmps121
        go_wp2_with fail
        refine (refRight_any _ c _ (HU.out.below hE0)).mono ?_
        rw [HV.out]
        rintro e w1 ⟨rfl, rfl⟩
        go_wp2_with fail
        go_ret
        exact ⟨by rw [HR.out]; rfl, hE0⟩
      subst m0
      by_cases p0 : p = 0
      rotate_left
      · have HR := Lib.hid (show Ent.right ⟨n, 1, c, 0, 0, p⟩ = false by rw [HD.out]; simp [p0])
        go_enter Tryz.func121, Tryz.ntmps121
        go_wp2_with fail
        refine (refRight_any _ c _ (HU.out.below hE0)).mono ?_
        rw [HV.out]
        rintro e w1 ⟨rfl, rfl⟩
        go_wp2_with fail
        go_ret
        exact ⟨by rw [HR.out]; show Ending.returned (.bool (p == 0)) = _; rw [beq_eq_false_iff_ne.2 p0], hE0⟩
      subst p0
      have HR := Lib.hid (show Ent.right ⟨n, 1, c, 0, 0, 0⟩ = true by rw [HD.out, HV.out]; rfl)
      go_enter Tryz.func121, Tryz.ntmps121
      go_wp2_with fail
      refine (refRight_any _ c _ (HU.out.below hE0)).mono ?_
      rw [HV.out]
      rintro e w1 ⟨rfl, rfl⟩
      go_wp2_with fail
      go_ret
      exact ⟨by rw [HR.out]; rfl, hE0⟩
  · by_cases k2 : k = 2
    rotate_left
    · have HR := Lib.hid (Ent.right_other (n := n) (c := c) (t := t) (m := m) (p := p) k1 k2)
      clear hn
      go_enter Tryz.func121, Tryz.ntmps121
      go_wp2_with fail
      go_ret
      exact ⟨by rw [HR.out]; rfl, hE0⟩
    subst k2
    have HD := Lib.hid (Ent.right_two (c := c) (t := t) (m := m) (p := p) hn)
    clear hn
    by_cases c0 : (0 : Int) < (c.length : Int)
    · have HR := Lib.hid (show Ent.right ⟨n, 2, c, t, m, p⟩ = false by rw [HD.out, isEmpty_len, decide_eq_false (by omega)]; rfl)
      have hce : ¬ c = [] := by rintro rfl; simp at c0
      go_enter Tryz.func121, Tryz.ntmps121
      go_wp2_with fail
      go_ret
      exact ⟨by rw [HR.out]; rfl, hE0⟩
    obtain rfl : c = [] := by cases c with
      | nil => rfl
      | cons x c => exact absurd (show (0 : Int) < ((x :: c).length : Int) by simp) c0
    by_cases c1 : t < 0
    · have HR := Lib.hid (show Ent.right ⟨n, 2, [], t, m, p⟩ = false by rw [HD.out]; simp; omega)
      go_enter Tryz.func121, Tryz.ntmps121
      go_wp2_with fail
      go_ret
      exact ⟨by rw [HR.out]; rfl, hE0⟩
    by_cases c2 : (1073741824 : Int) < t
    · have HR := Lib.hid (show Ent.right ⟨n, 2, [], t, m, p⟩ = false by rw [HD.out]; simp; omega)
      go_enter Tryz.func121, Tryz.ntmps121
      go_wp2_with fail
      go_ret
      exact ⟨by rw [HR.out]; rfl, hE0⟩
    by_cases c3 : m < 1
    · have HR := Lib.hid (show Ent.right ⟨n, 2, [], t, m, p⟩ = false by rw [HD.out]; simp; omega)
      go_enter Tryz.func121, Tryz.ntmps121
      go_wp2_with fail
      go_ret
      exact ⟨by rw [HR.out]; rfl, hE0⟩
    by_cases c4 : (64 : Int) < m
    · have HR := Lib.hid (show Ent.right ⟨n, 2, [], t, m, p⟩ = false by rw [HD.out]; simp; omega)
      go_enter Tryz.func121, Tryz.ntmps121
      go_wp2_with fail
      go_ret
      exact ⟨by rw [HR.out]; rfl, hE0⟩
    by_cases c5 : p < 0
    · have HR := Lib.hid (show Ent.right ⟨n, 2, [], t, m, p⟩ = false by rw [HD.out]; simp; omega)
      go_enter Tryz.func121, Tryz.ntmps121
      go_wp2_with fail
      go_ret
      exact ⟨by rw [HR.out]; rfl, hE0⟩
    by_cases c6 : (1099511627776 : Int) < p
    · have HR := Lib.hid (show Ent.right ⟨n, 2, [], t, m, p⟩ = false by rw [HD.out]; simp; omega)
      go_enter Tryz.func121, Tryz.ntmps121
      go_wp2_with fail
      go_ret
      exact ⟨by rw [HR.out]; show Ending.returned (.bool (decide (p ≤ 1099511627776))) = _; rw [decide_eq_false (by omega)], hE0⟩
    have HR := Lib.hid (show Ent.right ⟨n, 2, [], t, m, p⟩ = true by rw [HD.out, isEmpty_len, decide_eq_true (by omega), decide_eq_true (by omega), decide_eq_true (by omega), decide_eq_true (by omega)]; rfl)
    go_enter Tryz.func121, Tryz.ntmps121
    go_wp2_with fail
    go_ret
    exact ⟨by rw [HR.out]; rfl, hE0⟩
/- Layer 5, the program: entries as bytes. -/
/-- The same, and what is handed back is the call's own. -/
def OwnsEnc5 (w : World) (e : Ent.E) (x : Ending) (w' : World) : Prop := ∃ u, x = .returned (.tuple #[u, .int .i64 0]) ∧ w'.ownsRow w.heap.size 5 1 u (Ent.enc e).length (u8s (Ent.enc e)) ∧ Ext w w'

theorem intsLit2 (w : World) (x y : Int) : Ints (w.alloc (.cells #[.int .i64 x, .int .i64 y] 3)) (.slice (some ⟨w.heap.size, 0, none⟩) 2 2) [x, y] :=
  Sl.made w (i64s [x, y]) 3 2 (by simp) (by simp [maxLen]) (fr := (0, 0))
theorem intsLit3 (w : World) (x y z : Int) : Ints (w.alloc (.cells #[.int .i64 x, .int .i64 y, .int .i64 z] 3)) (.slice (some ⟨w.heap.size, 0, none⟩) 3 3) [x, y, z] :=
  Sl.made w (i64s [x, y, z]) 3 3 (by simp) (by simp [maxLen]) (fr := (0, 0))

theorem Ent.text_one {e : Ent.E} (h : e.kind = 1) : Ent.text e = nums [e.number, e.kind] ++ (Pack.num (Ent.vecBytes e.cut).length ++ Ent.vecBytes e.cut) := by
  unfold Ent.text; rw [Ent.body_one h]; simp [nums]
theorem Ent.text_two {e : Ent.E} (h : e.kind ≠ 1) : Ent.text e = nums [e.number, e.kind] ++ nums [e.tag, e.term, e.pos] := by
  unfold Ent.text; rw [Ent.body_two h]; simp [nums]
theorem Ent.text_le {e : Ent.E} (h : Ent.right e = true) : (Ent.text e).length ≤ 108 := by
  have := Ent.enc_le h
  unfold Ent.enc at this
  rw [List.length_append, Crc.low_length] at this
  omega

set_option maxHeartbeats 4000000 in
/-- A right one is written; what is handed back is the call's own. -/
theorem encode5_own (v : Value) (e : Ent.E) (w : World) (hv : IsEnt w v e) (hr : Ent.right e = true) : Calls Tryz.prog 117 #[v] w (OwnsEnc5 w e) := by
  have hbx := box_ent
  have hr5 := fun w1 hv => right5_any v e w1 hv
  have HV := Lib.hid hv
  obtain ⟨u, rfl, hu⟩ := hv
  obtain ⟨n, k, c, t, m, p⟩ := e
  unfold entV at *
  simp only at hu hr5 ⊢
  obtain ⟨a, cap, rfl, hcap, hmax, _, _⟩ := hu.open
  unfold maxLen at hmax
  have HU := Lib.hid hu
  clear hu
  have hE0 : Ext w (w.alloc (.cells #[.int .i64 n, .int .i64 k, .slice a c.length cap, .int .i64 t, .int .i64 m, .int .i64 p] 77)) := Ext.alloc _ _
  have HA0 := Lib.hid (EntAt.new 77 w (.slice a c.length cap) ⟨n, k, c, t, m, p⟩)
  unfold OwnsEnc5
  have HR := Lib.hid hr
  obtain ⟨q1, q2⟩ := Ent.right_ok hr
  simp only at q1 q2
  have hk : 0 ≤ k ∧ k ≤ 2 := by rcases q2 with ⟨h, _⟩ | ⟨h, _⟩ <;> omega
  have hall1 : [n, k].all okNum = true := by
    simp only [List.all_cons, List.all_nil, Bool.and_true]
    rw [okNumOf (by omega), okNumOf (by omega)]
    rfl
  have hl1 := nums_le _ hall1
  simp only [List.length_cons, List.length_nil] at hl1
  have HA1 := Lib.hid hall1
  have HL1 := Lib.hid hl1
  have HTL := Lib.hid (Ent.text_le hr)
  clear hr hall1 hl1
  rcases q2 with ⟨rfl, v1, t1, t2, t3⟩ | ⟨rfl, v1, t1, t2, t3⟩
  · subst t1 t2 t3
    have HT := Lib.hid (Ent.text_one (e := ⟨n, 1, c, 0, 0, 0⟩) rfl)
    have HVL := Lib.hid (Ent.vecBytes_le v1)
    have HV1 := Lib.hid v1
    clear v1
    go_enter Tryz.func117, Tryz.ntmps117
    go_wp2_with fail
    refine (hr5 _ (HV.out.below hE0)).mono ?_
    rw [HR.out]
    rintro e w1 ⟨rfl, hE1⟩
    have a1 := Lib.hid (HA0.out.ext hE1)
    obtain ⟨c0, c1, c2, c3, c4, c5⟩ := a1.out.cells
    have e1 := hE0.trans hE1
    go_wp2_with fail
    refine (packNum_any (.slice none 0 0) _ [] [n, 1] _ (bytes_none _) (intsLit2 w1 _ _) (by simp) (by simp)).mono ?_
    rw [HA1.out, if_pos rfl, List.nil_append]
    rintro e w2 ⟨v2, rfl, ho2, hE2⟩
    have hE2' : Ext w1 w2 := (Ext.alloc _ _).trans hE2
    have a2 := Lib.hid (a1.out.ext hE2')
    clear c0 c1 c2 c3 c4 c5
    obtain ⟨c0, c1, c2, c3, c4, c5⟩ := a2.out.cells
    have e2 := e1.trans hE2'
    go_wp2_with fail
    refine (encode_any _ c _ (HU.out.below e2)).mono ?_
    unfold GivesEnc
    rw [HV1.out, bytesOr_true]
    rintro e w3 ⟨v3, rfl, hb3, hE3⟩
    have e3 := e2.trans hE3
    have hb2 := ho2.bytes.below hE3
    have hst := run_str (P := Tryz.prog) 28 9 5 Tryz.underlying28 Tryz.underlying5 Tryz.underlying9 hb3
    obtain ⟨a3, n3, k3, rfl⟩ := hb3.isSlice
    clear c0 c1 c2 c3 c4 c5
    go_wp2_with fail
    refine (packText_any v2 _ (Ent.vecBytes c) _ hb2 (by have := HL1.out; omega) (by have := HVL.out; omega)).mono ?_
    rw [if_pos (by have := HVL.out; omega), ← HT.out]
    rintro e w4 ⟨v4, rfl, ho4, hE4⟩
    have e4 := e3.trans hE4
    go_wp2_with fail
    refine (new_any _).mono ?_
    rintro e w5 ⟨rfl, ht5, hE5⟩
    have e5 := e4.trans hE5
    go_wp2_with fail
    refine (put_own _ 0 0 v4 _ _ ht5 (.inl rfl) (ho4.bytes.below hE5) (by have := HTL.out; omega)).mono ?_
    rintro e w6 ⟨v6, d6, rfl, ho6, hB6, hd6, ht6⟩
    have e6 : Ext w w6 := Below.trans (B := w.heap.size) e5 (hB6.below e4.size (Nat.le_trans e4.size hE5.size))
    go_wp2_with fail
    go_ret2
    refine ⟨_, rfl, ?_, e6⟩
    unfold Ent.enc
    exact rowLower ho6 e5.size
  · subst v1
    have HT := Lib.hid (Ent.text_two (e := ⟨n, 2, [], t, m, p⟩) (show (2 : Int) ≠ 1 by decide))
    have hall2 : [t, m, p].all okNum = true := by
      simp only [List.all_cons, List.all_nil, Bool.and_true]
      rw [okNumOf (by omega), okNumOf (by omega), okNumOf (by omega)]
      rfl
    have HA2 := Lib.hid hall2
    clear hall2
    go_enter Tryz.func117, Tryz.ntmps117
    go_wp2_with fail
    refine (hr5 _ (HV.out.below hE0)).mono ?_
    rw [HR.out]
    rintro e w1 ⟨rfl, hE1⟩
    have a1 := Lib.hid (HA0.out.ext hE1)
    obtain ⟨c0, c1, c2, c3, c4, c5⟩ := a1.out.cells
    have e1 := hE0.trans hE1
    go_wp2_with fail
    refine (packNum_any (.slice none 0 0) _ [] [n, 2] _ (bytes_none _) (intsLit2 w1 _ _) (by simp) (by simp)).mono ?_
    rw [HA1.out, if_pos rfl, List.nil_append]
    rintro e w2 ⟨v2, rfl, ho2, hE2⟩
    have hE2' : Ext w1 w2 := (Ext.alloc _ _).trans hE2
    have a2 := Lib.hid (a1.out.ext hE2')
    clear c0 c1 c2 c3 c4 c5
    obtain ⟨c0, c1, c2, c3, c4, c5⟩ := a2.out.cells
    have e2 := e1.trans hE2'
    have hb2 := Lib.hid (ho2.bytes.below (Ext.alloc w2 (.cells #[.int .i64 t, .int .i64 m, .int .i64 p] 3)))
    go_wp2_with fail
    refine (packNum_any v2 _ _ [t, m, p] _ hb2.out (intsLit3 w2 _ _ _) (by have := HL1.out; omega) (by simp)).mono ?_
    rw [HA2.out, if_pos rfl, ← HT.out]
    rintro e w4 ⟨v4, rfl, ho4, hE4⟩
    have e4 := e2.trans ((Ext.alloc _ _).trans hE4)
    clear c0 c1 c2 c3 c4 c5
    go_wp2_with fail
    refine (new_any _).mono ?_
    rintro e w5 ⟨rfl, ht5, hE5⟩
    have e5 := e4.trans hE5
    go_wp2_with fail
    refine (put_own _ 0 0 v4 _ _ ht5 (.inl rfl) (ho4.bytes.below hE5) (by have := HTL.out; omega)).mono ?_
    rintro e w6 ⟨v6, d6, rfl, ho6, hB6, hd6, ht6⟩
    have e6 : Ext w w6 := Below.trans (B := w.heap.size) e5 (hB6.below e4.size (Nat.le_trans e4.size hE5.size))
    go_wp2_with fail
    go_ret2
    refine ⟨_, rfl, ?_, e6⟩
    unfold Ent.enc
    exact rowLower ho6 e5.size

/- Layer 5: entries as bytes: the document's own answer. -/
end Go.Proofs.YtckdofhcifdpmaaGreat

namespace Go.Proofs.YtckdofhcifdpmaaGreat

/- Layer 5, mathematics: bytes as an entry, read part by part up to what each part may be: it is the same as to read, and to write again. -/
namespace Ent

theorem readsTo_M (s : Pack.St) (k : Nat) : readsTo s k = Rec.readsM 1099511627776 s k := by
  induction k with
  | zero => rfl
  | succ k ih => simp only [readsTo, Rec.readsM, ih]
/-- A vector that is read is written as the same bytes. -/
theorem vd_enc {l : List UInt8} (h : decOk l = true) : vecBytes (vd l) = l := by
  have hok := h
  unfold decOk at h
  rw [Bool.and_eq_true, beq_iff_eq, decide_eq_true_eq] at h
  obtain ⟨h1, h2⟩ := h
  obtain ⟨d1, d2⟩ := Rec.done_zero h2
  have e0 : (Rec.readsM 1099511627776 (Pack.St.num ⟨l, 0⟩ 8).1 (decN l)).1.err = 0 := by rw [← readsTo_M]; exact d2
  have e1 := Rec.reads_err _ e0
  have l1 := Rec.num_left (s := ⟨l, 0⟩) (most := 8) e1
  have l2 := Rec.reads_left _ e0
  rw [← readsTo_M] at l2
  have hn : (decS l).2.length = decN l := readsTo_len _ _
  unfold vd vecBytes
  rw [hok, orNone_true, hn]
  have l2' : (Pack.St.num ⟨l, 0⟩ 8).1.left = Rec.numsOf (decS l).2 := by
    rw [l2]
    show Rec.numsOf (decS l).2 ++ (decS l).1.left = _
    rw [d1, List.append_nil]
  rw [← l2']
  exact l1.symm
theorem decOk_of_right {l : List UInt8} (h : Vec.right (vd l) = true) : decOk l = true := by
  cases hd : decOk l with
  | true => rfl
  | false =>
    exfalso
    unfold vd at h
    rw [hd, orNone_false] at h
    have := (Vec.right_ok h).2.1
    simp at this

/-! The program's reading: each part up to what it may be. -/
def pA (l : List UInt8) : Pack.St × Nat := Pack.St.num ⟨l, 0⟩ 1099511627776
def pB (l : List UInt8) : Pack.St × Nat := (pA l).1.num 2
def pV (l : List UInt8) : Pack.St × List UInt8 := (pB l).1.text 65536
def pT (l : List UInt8) : Pack.St × Nat := (pB l).1.num 1073741824
def pM (l : List UInt8) : Pack.St × Nat := (pT l).1.num 64
def pP (l : List UInt8) : Pack.St × Nat := (pM l).1.num 1099511627776
def pread (l : List UInt8) : Pack.St × E :=
  if (pB l).2 = 1 then ((pV l).1, ⟨(pA l).2, 1, vd (pV l).2, 0, 0, 0⟩)
  else if (pB l).2 = 2 then ((pP l).1, ⟨(pA l).2, 2, [], (pT l).2, (pM l).2, (pP l).2⟩)
  else ((pB l).1, ⟨(pA l).2, (pB l).2, [], 0, 0, 0⟩)
def pok (l : List UInt8) : Bool := ((pread l).1.done == 0) && right (pread l).2
theorem pread_one {l : List UInt8} (h : (pB l).2 = 1) : pread l = ((pV l).1, ⟨(pA l).2, 1, vd (pV l).2, 0, 0, 0⟩) := by unfold pread; rw [if_pos h]
theorem pread_two {l : List UInt8} (h : (pB l).2 = 2) : pread l = ((pP l).1, ⟨(pA l).2, 2, [], (pT l).2, (pM l).2, (pP l).2⟩) := by unfold pread; rw [if_neg (by omega), if_pos h]
theorem pread_else {l : List UInt8} (h1 : (pB l).2 ≠ 1) (h2 : (pB l).2 ≠ 2) : pread l = ((pB l).1, ⟨(pA l).2, (pB l).2, [], 0, 0, 0⟩) := by unfold pread; rw [if_neg h1, if_neg h2]

theorem pread_text {e : E} (h : right e = true) : pread (text e) = (⟨[], 0⟩, e) := by
  obtain ⟨h1, h2⟩ := right_ok h
  have hk : 0 ≤ e.kind ∧ e.kind ≤ 2 := by rcases h2 with ⟨k, _⟩ | ⟨k, _⟩ <;> omega
  have hA : pA (text e) = (⟨Pack.num e.kind.toNat ++ body e, 0⟩, e.number.toNat) := Pack.read_num _ _ _ _ (by omega) (by omega)
  have hB : pB (text e) = (⟨body e, 0⟩, e.kind.toNat) := by
    unfold pB; rw [hA]; exact Pack.read_num _ _ _ _ (by omega) (by omega)
  rcases h2 with ⟨k, v, t1, t2, t3⟩ | ⟨k, v, t1, t2, t3⟩
  · have hl := vecBytes_le v
    have hV : pV (text e) = (⟨[], 0⟩, vecBytes e.cut) := by
      unfold pV; rw [hB, body_one k]
      unfold Pack.St.text
      rw [Pack.read_num _ _ _ _ (by omega) (by omega)]
      simp
    rw [pread_one (by rw [hB]; show e.kind.toNat = 1; omega), hA, hV, vd_back _ v]
    refine congrArg (fun x => (_, x)) ?_
    exact same (by simp only []; omega) k.symm rfl t1.symm t2.symm t3.symm
  · have hT : pT (text e) = (⟨Pack.num e.term.toNat ++ Pack.num e.pos.toNat, 0⟩, e.tag.toNat) := by
      unfold pT; rw [hB, body_two (by omega)]; exact Pack.read_num _ _ _ _ (by omega) (by omega)
    have hM : pM (text e) = (⟨Pack.num e.pos.toNat, 0⟩, e.term.toNat) := by
      unfold pM; rw [hT]; exact Pack.read_num _ _ _ _ (by omega) (by omega)
    have hP : pP (text e) = (⟨[], 0⟩, e.pos.toNat) := by
      unfold pP; rw [hM]
      have := Pack.read_num e.pos.toNat [] 0 1099511627776 (by omega) (by omega)
      rw [List.append_nil] at this
      exact this
    rw [pread_two (by rw [hB]; show e.kind.toNat = 2; omega), hA, hT, hM, hP]
    refine congrArg (fun x => (_, x)) ?_
    exact same (by simp only []; omega) k.symm v.symm (by simp only []; omega) (by simp only []; omega) (by simp only []; omega)
theorem pok_text {e : E} (h : right e = true) : pok (text e) = true := by
  unfold pok
  rw [pread_text h, h]
  rfl
set_option maxHeartbeats 4000000 in
/-- Bytes that are read as an entry are its bytes. -/
theorem text_pread {l : List UInt8} (h : pok l = true) : text (pread l).2 = l := by
  unfold pok at h
  rw [Bool.and_eq_true, beq_iff_eq] at h
  obtain ⟨hd, hr⟩ := h
  obtain ⟨d1, d2⟩ := Rec.done_zero hd
  have h2 := (right_ok hr).2
  have one : (pB l).2 = 1 ∨ (pB l).2 = 2 := by
    by_cases h1 : (pB l).2 = 1
    · exact .inl h1
    · by_cases h2' : (pB l).2 = 2
      · exact .inr h2'
      · rw [pread_else h1 h2'] at h2
        simp only at h2
        omega
  rcases one with h1 | h1
  · rw [pread_one h1] at d1 d2 hr h2 ⊢
    simp only at d1 d2 h2
    have hv : Vec.right (vd (pV l).2) = true := by
      rcases h2 with ⟨_, hv, _⟩ | ⟨h, _⟩
      · exact hv
      · omega
    have d2' : ((pB l).1.text 65536).1.err = 0 := d2
    have eB : (pB l).1.err = 0 := Rec.num_err (Rec.text_err d2')
    have eB' : ((pA l).1.num 2).1.err = 0 := eB
    have eA : (pA l).1.err = 0 := Rec.num_err eB'
    have eA' : (Pack.St.num ⟨l, 0⟩ 1099511627776).1.err = 0 := eA
    have lV := Rec.text_left (s := (pB l).1) (most := 65536) d2'
    have lB := Rec.num_left (s := (pA l).1) (most := 2) eB'
    have lA := Rec.num_left (s := ⟨l, 0⟩) (most := 1099511627776) eA'
    have lV' : (pB l).1.left = Pack.num (pV l).2.length ++ (pV l).2 := by
      rw [lV]
      show Pack.num (pV l).2.length ++ ((pV l).2 ++ (pV l).1.left) = _
      rw [d1, List.append_nil]
    have lB' : (pA l).1.left = Pack.num (pB l).2 ++ (pB l).1.left := lB
    have lA' : l = Pack.num (pA l).2 ++ (pA l).1.left := lA
    unfold text
    rw [body_one rfl]
    simp only
    rw [vd_enc (decOk_of_right hv), ← lV', show ((1 : Int)).toNat = (pB l).2 from h1.symm, ← lB', show (((pA l).2 : Nat) : Int).toNat = (pA l).2 from rfl, ← lA']
  · rw [pread_two h1] at d1 d2 hr h2 ⊢
    simp only at d1 d2 h2
    have eP' : ((pM l).1.num 1099511627776).1.err = 0 := d2
    have eM' : ((pT l).1.num 64).1.err = 0 := Rec.num_err eP'
    have eT' : ((pB l).1.num 1073741824).1.err = 0 := Rec.num_err (s := (pT l).1) (most := 64) eM'
    have eB' : ((pA l).1.num 2).1.err = 0 := Rec.num_err (s := (pB l).1) (most := 1073741824) eT'
    have eA' : (Pack.St.num ⟨l, 0⟩ 1099511627776).1.err = 0 := Rec.num_err (s := (pA l).1) (most := 2) eB'
    have lP := Rec.num_left (s := (pM l).1) (most := 1099511627776) eP'
    have lM := Rec.num_left (s := (pT l).1) (most := 64) eM'
    have lT := Rec.num_left (s := (pB l).1) (most := 1073741824) eT'
    have lB := Rec.num_left (s := (pA l).1) (most := 2) eB'
    have lA := Rec.num_left (s := ⟨l, 0⟩) (most := 1099511627776) eA'
    have lP0 : (pM l).1.left = Pack.num (pP l).2 ++ (pP l).1.left := lP
    have lP' : (pM l).1.left = Pack.num (pP l).2 := lP0.trans (by rw [d1, List.append_nil])
    have lM' : (pT l).1.left = Pack.num (pM l).2 ++ (pM l).1.left := lM
    have lT' : (pB l).1.left = Pack.num (pT l).2 ++ (pT l).1.left := lT
    have lB' : (pA l).1.left = Pack.num (pB l).2 ++ (pB l).1.left := lB
    have lA' : l = Pack.num (pA l).2 ++ (pA l).1.left := lA
    unfold text
    rw [body_two (by show (2 : Int) ≠ 1; decide)]
    simp only
    rw [show (((pP l).2 : Nat) : Int).toNat = (pP l).2 from rfl, ← lP', show (((pM l).2 : Nat) : Int).toNat = (pM l).2 from rfl, ← lM', show (((pT l).2 : Nat) : Int).toNat = (pT l).2 from rfl, ← lT', show ((2 : Int)).toNat = (pB l).2 from h1.symm, ← lB', show (((pA l).2 : Nat) : Int).toNat = (pA l).2 from rfl, ← lA']
theorem cut_back {b l : List UInt8} (h : Crc.cutOf b = some l) : l ++ Crc.low (Crc.sum l) = b := by
  unfold Crc.cutOf at h
  split at h
  · cases h
  · split at h
    · rename_i hc
      injection h with h
      rw [← h]
      exact hc
    · cases h
theorem dec_pok {b l : List UInt8} (hc : Crc.cutOf b = some l) (h : pok l = true) : dec vd b = some (pread l).2 := by
  have hr : right (pread l).2 = true := by
    unfold pok at h
    rw [Bool.and_eq_true] at h
    exact h.2
  rw [dec_vd_iff]
  refine ⟨hr, ?_⟩
  unfold enc
  rw [text_pread h]
  exact cut_back hc
theorem dec_not {b l : List UInt8} (hc : Crc.cutOf b = some l) (h : pok l = false) : dec vd b = none := by
  cases hd : dec vd b with
  | none => rfl
  | some e =>
    exfalso
    obtain ⟨hr, he⟩ := dec_vd_iff.1 hd
    have : Crc.cutOf b = some (text e) := by rw [← he]; exact Crc.cut_put _
    rw [hc] at this
    injection this with this
    rw [this, pok_text hr] at h
    cases h
theorem dec_cut {b : List UInt8} (hc : Crc.cutOf b = none) : dec vd b = none := by
  unfold dec
  rw [hc]
/-- What Decode tells. -/
def noE : E := ⟨0, 0, [], 0, 0, 0⟩
def errOf : Option (List UInt8) → Option E → Int
  | none, _ => 51
  | some _, none => 50
  | some _, some _ => 0
def entOf : Option E → E
  | none => noE
  | some e => e
end Ent
end Go.Proofs.YtckdofhcifdpmaaGreat

namespace Go.Proofs.YtckdofhcifdpmaaGreat
set_option linter.unusedSimpArgs false
set_option linter.unusedVariables false
set_option maxRecDepth 100000
open Go.RowKit
/- Layer 5, the program: bytes as entries. -/
/-- A row of new blocks alone. -/
def RowN (B : Nat) (w : World) (v : Value) (l : List Int) : Prop := ∃ b n, B ≤ b ∧ w.ownsRow b 3 1 v n (i64s l)
theorem RowN.nil (B : Nat) (w : World) : RowN B w (.slice none 0 0) [] := ⟨B, 0, Nat.le_refl _, World.ownsRow_nil _ _ _ _⟩
theorem RowN.row {B : Nat} {w : World} {v : Value} {l : List Int} (h : RowN B w v l) : RowI w v l := by
  obtain ⟨b, n, _, h⟩ := h
  exact ⟨b, n, h⟩
def FreshEnt (B : Nat) (w : World) (v : Value) (e : Ent.E) : Prop := ∃ t, v = entV t e ∧ RowN B w t e.cut
def RowEnt (w : World) (v : Value) (e : Ent.E) : Prop := ∃ t, v = entV t e ∧ RowI w t e.cut
theorem RowEnt.is {w : World} {v : Value} {e : Ent.E} (h : RowEnt w v e) : IsEnt w v e := by
  obtain ⟨t, e, h⟩ := h
  exact ⟨t, e, h.ints⟩
def GivesFresh5 (w : World) (l : List UInt8) (x : Ending) (w' : World) : Prop := ∃ u, x = .returned (.tuple #[u, .int .i64 (Ent.errOf (Crc.cutOf l) (Ent.dec Ent.vd l))]) ∧ FreshEnt w.heap.size w' u (Ent.entOf (Ent.dec Ent.vd l)) ∧ Ext w w'
theorem build_ent0 (w : World) : (Instr.build 77 #[]).run Tryz.prog w = .ok (.agg #[.int .i64 0, .int .i64 0, .slice none 0 0, .int .i64 0, .int .i64 0, .int .i64 0]) w := by kernel_rfl
theorem build_ent2 (w : World) (n k : Int) : (Instr.build 77 #[(0, .int .i64 n), (1, .int .i64 k)]).run Tryz.prog w = .ok (.agg #[.int .i64 n, .int .i64 k, .slice none 0 0, .int .i64 0, .int .i64 0, .int .i64 0]) w := by kernel_rfl
theorem build_seq2 (w : World) (c n : Int) : (Instr.build 52 #[(0, .int .i64 c), (1, .int .i64 n)]).run Tryz.prog w = .ok (.agg #[.int .i64 c, .int .i64 n]) w := by kernel_rfl
theorem EntAt.zero (T : TypeId) (w : World) : EntAt T (w.alloc (.cells #[.int .i64 0, .int .i64 0, .slice none 0 0, .int .i64 0, .int .i64 0, .int .i64 0] T)) w.heap.size (.slice none 0 0) Ent.noE := by
  unfold EntAt Ent.noE
  exact heap_alloc_new w _
theorem set_six {w : World} {q : Nat} {x0 x1 x2 x3 x4 x5 : Value} {T : TypeId} (h : w.heap[q]? = some (.cells #[x0, x1, x2, x3, x4, x5] T (0, 0))) (v0 v1 v2 v3 v4 v5 : Value) :
    ((((((w.setCell ⟨q, 0, none⟩ v0).setCell ⟨q, 1, none⟩ v1).setCell ⟨q, 2, none⟩ v2).setCell ⟨q, 3, none⟩ v3).setCell ⟨q, 4, none⟩ v4).setCell ⟨q, 5, none⟩ v5).heap[q]? = some (.cells #[v0, v1, v2, v3, v4, v5] T (0, 0)) ∧ But q w ((((((w.setCell ⟨q, 0, none⟩ v0).setCell ⟨q, 1, none⟩ v1).setCell ⟨q, 2, none⟩ v2).setCell ⟨q, 3, none⟩ v3).setCell ⟨q, 4, none⟩ v4).setCell ⟨q, 5, none⟩ v5) := by
  refine ⟨?_, ((((((But.refl _ _).setCell 0 none v0).setCell 1 none v1).setCell 2 none v2).setCell 3 none v3).setCell 4 none v4).setCell 5 none v5⟩
  have := heap_setCell (heap_setCell (heap_setCell (heap_setCell (heap_setCell (heap_setCell h 0 v0) 1 v1) 2 v2) 3 v3) 4 v4) 5 v5
  simpa using this
theorem EntAt.set {T : TypeId} {w : World} {p : Nat} {t : Value} {e : Ent.E} (h : EntAt T w p t e) (t' : Value) (e' : Ent.E) :
    EntAt T ((((((w.setCell ⟨p, 0, none⟩ (.int .i64 e'.number)).setCell ⟨p, 1, none⟩ (.int .i64 e'.kind)).setCell ⟨p, 2, none⟩ t').setCell ⟨p, 3, none⟩ (.int .i64 e'.tag)).setCell ⟨p, 4, none⟩ (.int .i64 e'.term)).setCell ⟨p, 5, none⟩ (.int .i64 e'.pos)) p t' e' ∧
    But p w ((((((w.setCell ⟨p, 0, none⟩ (.int .i64 e'.number)).setCell ⟨p, 1, none⟩ (.int .i64 e'.kind)).setCell ⟨p, 2, none⟩ t').setCell ⟨p, 3, none⟩ (.int .i64 e'.tag)).setCell ⟨p, 4, none⟩ (.int .i64 e'.term)).setCell ⟨p, 5, none⟩ (.int .i64 e'.pos)) := set_six h _ _ _ _ _ _
theorem EntAt.setCut {T : TypeId} {w : World} {q : Nat} {u u' : Value} {n k t m p : Int} {c c' : List Int} (h : EntAt T w q u ⟨n, k, c, t, m, p⟩) : EntAt T (w.setCell ⟨q, 2, none⟩ u') q u' ⟨n, k, c', t, m, p⟩ := by
  have := heap_setCell h 2 u'
  unfold EntAt
  simpa using this
theorem EntAt.setTag {T : TypeId} {w : World} {q : Nat} {u : Value} {n k t m p t' : Int} {c : List Int} (h : EntAt T w q u ⟨n, k, c, t, m, p⟩) : EntAt T (w.setCell ⟨q, 3, none⟩ (.int .i64 t')) q u ⟨n, k, c, t', m, p⟩ := by
  have := heap_setCell h 3 (.int .i64 t')
  unfold EntAt
  simpa using this
theorem EntAt.setTerm {T : TypeId} {w : World} {q : Nat} {u : Value} {n k t m p m' : Int} {c : List Int} (h : EntAt T w q u ⟨n, k, c, t, m, p⟩) : EntAt T (w.setCell ⟨q, 4, none⟩ (.int .i64 m')) q u ⟨n, k, c, t, m', p⟩ := by
  have := heap_setCell h 4 (.int .i64 m')
  unfold EntAt
  simpa using this
theorem EntAt.setPos {T : TypeId} {w : World} {q : Nat} {u : Value} {n k t m p p' : Int} {c : List Int} (h : EntAt T w q u ⟨n, k, c, t, m, p⟩) : EntAt T (w.setCell ⟨q, 5, none⟩ (.int .i64 p')) q u ⟨n, k, c, t, m, p'⟩ := by
  have := heap_setCell h 5 (.int .i64 p')
  unfold EntAt
  simpa using this
theorem Ent.pok_eq {l : List UInt8} {S : Pack.St} {E : Ent.E} (h : Ent.pread l = (S, E)) : Ent.pok l = ((S.done == 0) && Ent.right E) := by unfold Ent.pok; rw [h]
theorem cutOf_le {l t : List UInt8} (h : Crc.cutOf l = some t) : t.length ≤ l.length := by
  unfold Crc.cutOf at h
  split at h
  · cases h
  · split at h
    · injection h with h
      rw [← h, List.length_take]
      omega
    · cases h

theorem textMost (s : Pack.St) (most : Int) (h : 0 ≤ most) : ((s.text most).2.length : Int) ≤ most := by
  have h1 := numMost s most h
  unfold Pack.St.text
  simp only
  split
  · simpa using h
  · rw [List.length_take]
    omega

set_option maxHeartbeats 8000000 in
theorem decode5_fresh (v : Value) (l : List UInt8) (w : World) (hv : Bytes w v l) (hl : l.length ≤ 200000) :
    Calls Tryz.prog 103 #[v] w (GivesFresh5 w l) := by
  have hb0 := build_ent0
  have hb1 := build_ent2
  have hb2 := build_seq2
  have HV := Lib.hid hv
  obtain ⟨a, cap, rfl, hcap, hmax, hn, hc⟩ := hv.open
  unfold maxLen at hmax
  clear hv hc
  unfold GivesFresh5
  have hno := fun h => Ent.dec_cut (b := l) h
  have hyes := fun t h1 h2 => Ent.dec_pok (b := l) (l := t) h1 h2
  have hnot := fun t h1 h2 => Ent.dec_not (b := l) (l := t) h1 h2
  have hlen := fun t h => cutOf_le (l := l) (t := t) h
  obtain ⟨D, hD⟩ : ∃ D, Ent.dec Ent.vd l = D := ⟨_, rfl⟩
  obtain ⟨C, hC⟩ : ∃ C, Crc.cutOf l = C := ⟨_, rfl⟩
  rw [hC, hD] at hno hyes hnot ⊢
  rw [hC] at hlen
  have HC := Lib.hid hC
  have HNO := Lib.hid hno
  have HYES := Lib.hid hyes
  have HNOT := Lib.hid hnot
  have HLEN := Lib.hid hlen
  clear hC hD hno hyes hnot hlen
  have hE0 : Ext w (w.alloc (.cells #[.int .i64 0, .int .i64 0, .slice none 0 0, .int .i64 0, .int .i64 0, .int .i64 0] 77)) := Ext.alloc _ _
  have HR0 := Lib.hid (EntAt.zero 77 w)
  go_enter Tryz.func103, Tryz.ntmps103
  go_wp2_with fail
  refine (new_any _).mono ?_
  rintro e w1 ⟨rfl, ht1, hE1⟩
  rw [World.size_alloc] at ht1 ⊢
  have r1 := Lib.hid (HR0.out.ext hE1)
  have e1 := hE0.trans hE1
  go_wp2_with fail
  have hcall := cut_any _ 0 0 _ l _ ht1 (.inl rfl) (HV.out.below e1) hl
  rw [HC.out] at hcall
  refine hcall.mono ?_
  clear hcall
  intro e w2 hq
  obtain ⟨-, hB2, hcut⟩ := hq
  have e2 : Ext w w2 := Below.trans (B := w.heap.size) e1 (hB2.below (Nat.le_succ _) e1.size)
  have r2 := Lib.hid (r1.out.but hB2 (by simp))
  obtain ⟨c0, c1, c2, c3, c4, c5⟩ := r2.out.cells
  have fr : ∀ i, w2.frozen? ⟨w.heap.size, i, none⟩ = false := fun i => frozen_of_heap r2.out i
  cases C with
  | none =>
    subst hcut
    have hno := HNO.out rfl
    subst hno
    go_wp2_with fail
    have hs := r2.out.set (.slice none 0 0) Ent.noE
    exact bodyPost_ret (v := .tuple #[entV (.slice none 0 0) Ent.noE, .int .i64 51]) (by simp [results, Tryz.results103, go_sem, c0, c1, c2, c3, c4, c5, fr, Ent.noE, entV]) rfl ⟨_, rfl, ⟨_, rfl, RowN.nil _ _⟩, Below.trans (B := w.heap.size) e2 (hs.2.below (Nat.le_refl _) e2.size)⟩
  | some t =>
    obtain ⟨v2, rfl, hb2⟩ := hcut
    have htl : t.length ≤ l.length := HLEN.out t rfl
    have hA : Ent.pA t = Pack.St.num ⟨t, 0⟩ 1099511627776 := rfl
    obtain ⟨A, hA'⟩ : ∃ A, Ent.pA t = A := ⟨_, rfl⟩
    have hB : Ent.pB t = A.1.num 2 := by unfold Ent.pB; rw [hA']
    obtain ⟨B, hB'⟩ : ∃ B, Ent.pB t = B := ⟨_, rfl⟩
    rw [hA'] at hA
    rw [hB'] at hB
    have HA := Lib.hid hA.symm
    have HB := Lib.hid hB.symm
    have HAA := Lib.hid hA'
    have HBB := Lib.hid hB'
    have hB2' : B.2 ≤ 2 := by
      have := numMost A.1 2 (by omega)
      rw [← hB] at this
      omega
    obtain ⟨A1, nA⟩ := A
    obtain ⟨B1, nB⟩ := B
    simp only at HB hB2'
    clear hA hB hA' hB' c0 c1 c2 c3 c4 c5 fr
    obtain ⟨a2, n2, k2, rfl⟩ := hb2.isSlice
    go_wp2_with fail
    refine (newReader_any _ t _ hb2 (by omega)).mono ?_
    rintro e w3 ⟨p, rfl, hp, hr3, hE3⟩
    have e3 := e2.trans hE3
    have r3 := Lib.hid (r2.out.ext hE3)
    have hq0 : w.heap.size ≠ p := by have := r2.out.lt; omega
    have hwp : w.heap.size ≤ p := Nat.le_trans e2.size hp
    go_wp2_with fail
    refine (num_any p _ 1099511627776 _ hr3).mono ?_
    rw [HA.out]
    rintro e w4 ⟨rfl, hB4, hr4⟩
    have r4 := Lib.hid (r3.out.but hB4 hq0)
    have e4 : Ext w w4 := Below.trans (B := w.heap.size) e3 (hB4.below hwp e3.size)
    go_wp2_with fail
    refine (num_any p _ 2 _ hr4).mono ?_
    rw [HB.out]
    rintro e w5 ⟨rfl, hB5, hr5⟩
    have r5 := Lib.hid (r4.out.but hB5 hq0)
    have e5 : Ext w w5 := Below.trans (B := w.heap.size) e4 (hB5.below hwp e4.size)
    have hpq : p < w5.heap.size := hr5.lt
    have hwq : w.heap.size < w5.heap.size := by have := r5.out.lt; omega
    obtain ⟨k, hk⟩ : ∃ k : Int, (nB : Int) = k := ⟨_, rfl⟩
    obtain ⟨x, hx⟩ : ∃ x : Int, (nA : Int) = x := ⟨_, rfl⟩
    have HX := Lib.hid hx
    have HKK := Lib.hid hk
    dsimp only
    rw [hk, hx]
    clear hx
    have hE6 : Ext w5 (w5.alloc (.cells #[.int .i64 x, .int .i64 k, .slice none 0 0, .int .i64 0, .int .i64 0, .int .i64 0] 77)) := Ext.alloc _ _
    have x6 := Lib.hid (EntAt.new 77 w5 (.slice none 0 0) ⟨x, k, [], 0, 0, 0⟩)
    have r6 := Lib.hid (r5.out.ext hE6)
    have e6 := e5.trans hE6
    have R6 := Lib.hid (hr5.ext hE6)
    obtain ⟨y0, y1, y2, y3, y4, y5⟩ := x6.out.cells
    have fx := fun i => frozen_of_heap x6.out i
    by_cases k1 : k = 1
    · subst k1
      have hn1 : nB = 1 := by omega
      clear hk
      obtain ⟨F, hF⟩ : ∃ F, Ent.pV t = F := ⟨_, rfl⟩
      have hF' : B1.text 65536 = F := by rw [← hF]; unfold Ent.pV; rw [HBB.out]
      have HP := Lib.hid (show Ent.pread t = (F.1, ⟨x, 1, Ent.vd F.2, 0, 0, 0⟩) by rw [Ent.pread_one (by rw [HBB.out]; exact hn1), hF, HAA.out, ← HX.out])
      have hFl : F.2.length ≤ 65536 := by have := textMost B1 65536 (by omega); rw [hF'] at this; omega
      have HF := Lib.hid hF'
      clear hF hF' hn1
      go_wp2_with fail
      clear y0 y1 y2 y3 y4 y5 fx
      generalize hw6 : w5.alloc (.cells #[.int .i64 x, .int .i64 1, .slice none 0 0, .int .i64 0, .int .i64 0, .int .i64 0] 77) = w6 at *
      generalize hq : w5.heap.size = q at *
      clear hw6 hq
      refine (text_any p _ 65536 _ R6.out).mono ?_
      rw [HF.out]
      rintro e w7 ⟨rfl, hB7, hr7⟩
      have x7 := Lib.hid (x6.out.but hB7 (by omega))
      have r7 := Lib.hid (r6.out.but hB7 hq0)
      have e7 : Ext w w7 := Below.trans (B := w.heap.size) e6 (hB7.below hwp e6.size)
      have hcv := run_conv w7 F.2
      have hby := Lib.hid (bytes_of_str w7 F.2 5 (by unfold maxLen; omega))
      have hEb := ext_bytesWorld w7 5 ⟨F.2.toArray⟩
      have hR7 := Lib.hid hr7
      clear hr7
      go_wp2_with fail
      refine (decode_own _ F.2 _ hby.out (by omega)).mono ?_
      unfold GivesDecO
      rintro e w8 ⟨v8, rfl, ho8, hE8⟩
      have hE78 := hEb.trans hE8
      have x8 := Lib.hid (x7.out.ext hE78)
      have r8 := Lib.hid (r7.out.ext hE78)
      have R8 := Lib.hid (hR7.out.ext hE78)
      have e8 := e7.trans hE78
      obtain ⟨a8, n8, c8, rfl⟩ := ownSlice ho8
      have O8 := Lib.hid (show w8.ownsRow _ 3 1 (.slice a8 n8 c8) (Ent.vd F.2).length (i64s (Ent.vd F.2)) from ho8)
      have hfar : ∀ j, (Value.slice a8 n8 c8).ownBlock = some j → q < j := fun j hj => by
        have h1 := (O8.out.lt j hj).1
        have h2 := hEb.size
        have h3 := x7.out.lt
        omega
      have O9 := Lib.hid (rowBut O8.out (p := q) (fun e => by have := hfar _ e.symm; omega) (butSet w8 q 2 (.slice a8 n8 c8)))
      have HKEEP := Lib.hid (show ∀ w11 w', Ext (w8.setCell ⟨q, 2, none⟩ (.slice a8 n8 c8)) w11 → But w.heap.size w11 w' → RowN w.heap.size w' (.slice a8 n8 c8) (Ent.vd F.2) from fun w11 w' hE hB => ⟨_, _, (e7.trans hEb).size, rowBut (rowExt O9.out hE) (fun e => by have := hfar _ e.symm; omega) hB⟩)
      have HI9 := Lib.hid (show Ints (w8.setCell ⟨q, 2, none⟩ (.slice a8 n8 c8)) (.slice a8 n8 c8) (Ent.vd F.2) from Sl.ofOwn O9.out)
      obtain ⟨y0, y1, y2, y3, y4, y5⟩ := x8.out.cells
      have fx := fun i => frozen_of_heap x8.out i
      have x9 := Lib.hid (EntAt.setCut (u' := .slice a8 n8 c8) (c' := Ent.vd F.2) x8.out)
      have r9 := Lib.hid (r8.out.but (butSet w8 q 2 (.slice a8 n8 c8)) (by omega))
      have R9 := Lib.hid (R8.out.setBehind (q := q) (o := 2) (v := .slice a8 n8 c8) (by omega))
      have e9 : Ext w (w8.setCell ⟨q, 2, none⟩ (.slice a8 n8 c8)) := Below.setCell e8 (p := ⟨q, 2, none⟩) (by show w.heap.size ≤ q; omega) _
      clear ho8 hfar
      go_wp2_with fail
      generalize hw9 : w8.setCell ⟨q, 2, none⟩ (.slice a8 n8 c8) = w9 at *
      clear hw9 y0 y1 y2 y3 y4 y5 fx
      refine (end_any p _ _ R9.out).mono ?_
      obtain ⟨d, hdd⟩ : ∃ d, F.1.done = d := ⟨_, rfl⟩
      have HOK := Lib.hid (Ent.pok_eq HP.out)
      rw [hdd] at HOK ⊢
      clear hdd
      rintro e w10 ⟨rfl, rfl⟩
      by_cases hd : d = 0
      · subst hd
        have HOK2 := Lib.hid (show Ent.pok t = Ent.right ⟨x, 1, Ent.vd F.2, 0, 0, 0⟩ by rw [HOK.out]; rfl)
        obtain ⟨d0, d1, d2, d3, d4, d5⟩ := x9.out.cells
        clear HOK
        go_wp2_with fail
        refine (right5_any _ ⟨x, 1, Ent.vd F.2, 0, 0, 0⟩ _ ⟨_, rfl, HI9.out⟩).mono ?_
        rintro e w11 ⟨rfl, hE11⟩
        have r11 := Lib.hid (r9.out.ext hE11)
        have x11 := Lib.hid (x9.out.ext hE11)
        have e11 := e9.trans hE11
        have HI11 := Lib.hid (HI9.out.below hE11)
        clear d0 d1 d2 d3 d4 d5
        obtain ⟨c0, c1, c2, c3, c4, c5⟩ := r11.out.cells
        obtain ⟨d0, d1, d2, d3, d4, d5⟩ := x11.out.cells
        have fr : ∀ i, w11.frozen? ⟨w.heap.size, i, none⟩ = false := fun i => frozen_of_heap r11.out i
        cases hrr : Ent.right ⟨x, 1, Ent.vd F.2, 0, 0, 0⟩ with
        | false =>
          have hno := HNOT.out t rfl (HOK2.out.trans hrr)
          subst hno
          clear hrr HOK2
          go_wp2_with fail
          have hs := r11.out.set (.slice none 0 0) Ent.noE
          exact bodyPost_ret (v := .tuple #[entV (.slice none 0 0) Ent.noE, .int .i64 50]) (by simp [results, Tryz.results103, go_sem, c0, c1, c2, c3, c4, c5, fr, Ent.noE, entV]) rfl
            ⟨_, rfl, ⟨_, rfl, RowN.nil _ _⟩, Below.trans (B := w.heap.size) e11 (hs.2.below (Nat.le_refl _) e11.size)⟩
        | true =>
          have hyes := HYES.out t rfl (HOK2.out.trans hrr)
          rw [HP.out] at hyes
          subst hyes
          clear hrr HOK2
          go_wp2_with fail
          have hs := r11.out.set (.slice a8 n8 c8) ⟨x, 1, Ent.vd F.2, 0, 0, 0⟩
          exact bodyPost_ret (v := .tuple #[entV (.slice a8 n8 c8) ⟨x, 1, Ent.vd F.2, 0, 0, 0⟩, .int .i64 0]) (by simp [results, Tryz.results103, go_sem, c0, c1, c2, c3, c4, c5, d0, d1, d2, d3, d4, d5, fr, entV]) rfl
            ⟨_, rfl, ⟨_, rfl, HKEEP.out _ _ hE11 hs.2⟩, Below.trans (B := w.heap.size) e11 (hs.2.below (Nat.le_refl _) e11.size)⟩
      · have hno := HNOT.out t rfl (by rw [HOK.out, show (d == 0) = false from beq_eq_false_iff_ne.2 hd]; rfl)
        subst hno
        clear HOK
        obtain ⟨c0, c1, c2, c3, c4, c5⟩ := r9.out.cells
        have fr : ∀ i, w9.frozen? ⟨w.heap.size, i, none⟩ = false := fun i => frozen_of_heap r9.out i
        go_wp2_with fail
        have hs := r9.out.set (.slice none 0 0) Ent.noE
        exact bodyPost_ret (v := .tuple #[entV (.slice none 0 0) Ent.noE, .int .i64 50]) (by simp [results, Tryz.results103, go_sem, c0, c1, c2, c3, c4, c5, fr, Ent.noE, entV]) rfl
          ⟨_, rfl, ⟨_, rfl, RowN.nil _ _⟩, Below.trans (B := w.heap.size) e9 (hs.2.below (Nat.le_refl _) e9.size)⟩
    · by_cases k2 : k = 2
      · subst k2
        have hn2 : nB = 2 := by omega
        clear hk
        obtain ⟨F1, nF, hF⟩ : ∃ F1 nF, Ent.pT t = (F1, nF) := ⟨_, _, rfl⟩
        obtain ⟨G1, nG, hG⟩ : ∃ G1 nG, Ent.pM t = (G1, nG) := ⟨_, _, rfl⟩
        obtain ⟨H1, nH, hH⟩ : ∃ H1 nH, Ent.pP t = (H1, nH) := ⟨_, _, rfl⟩
        have hF' : B1.num 1073741824 = (F1, nF) := by rw [← hF]; unfold Ent.pT; rw [HBB.out]
        have hG' : F1.num 64 = (G1, nG) := by rw [← hG]; unfold Ent.pM; rw [hF]
        have hH' : G1.num 1099511627776 = (H1, nH) := by rw [← hH]; unfold Ent.pP; rw [hG]
        have HP := Lib.hid (show Ent.pread t = (H1, ⟨x, 2, [], (nF : Int), (nG : Int), (nH : Int)⟩) by rw [Ent.pread_two (by rw [HBB.out]; exact hn2), hF, hG, hH, HAA.out, ← HX.out])
        have HF := Lib.hid hF'
        have HG := Lib.hid hG'
        have HH := Lib.hid hH'
        clear hF hF' hG hG' hH hH' hn2
        go_wp2_with fail
        clear y0 y1 y2 y3 y4 y5 fx
        generalize hw6 : w5.alloc (.cells #[.int .i64 x, .int .i64 2, .slice none 0 0, .int .i64 0, .int .i64 0, .int .i64 0] 77) = w6 at *
        generalize hq : w5.heap.size = q at *
        clear hw6 hq
        refine (num_any p _ 1073741824 _ R6.out).mono ?_
        rw [HF.out]
        rintro e w7 ⟨rfl, hB7, hr7⟩
        obtain ⟨f, hf⟩ : ∃ f : Int, (nF : Int) = f := ⟨_, rfl⟩
        dsimp only
        rw [hf]
        rw [hf] at HP
        clear hf
        have x7 := Lib.hid (x6.out.but hB7 (by omega))
        have r7 := Lib.hid (r6.out.but hB7 hq0)
        have e7 : Ext w w7 := Below.trans (B := w.heap.size) e6 (hB7.below hwp e6.size)
        obtain ⟨y0, y1, y2, y3, y4, y5⟩ := x7.out.cells
        have fx := fun i => frozen_of_heap x7.out i
        have x8 := Lib.hid (EntAt.setTag (t' := f) x7.out)
        have r8 := Lib.hid (r7.out.but (butSet w7 q 3 (.int .i64 f)) (by omega))
        have R8 := Lib.hid (hr7.setBehind (q := q) (o := 3) (v := .int .i64 f) (by omega))
        have e8 : Ext w (w7.setCell ⟨q, 3, none⟩ (.int .i64 f)) := Below.setCell e7 (p := ⟨q, 3, none⟩) (by show w.heap.size ≤ q; omega) _
        clear hr7
        go_wp2_with fail
        generalize hw8 : w7.setCell ⟨q, 3, none⟩ (.int .i64 f) = w8 at *
        clear hw8 y0 y1 y2 y3 y4 y5 fx
        refine (num_any p _ 64 _ R8.out).mono ?_
        rw [HG.out]
        rintro e wa ⟨rfl, hBa, hra⟩
        obtain ⟨g, hg⟩ : ∃ g : Int, (nG : Int) = g := ⟨_, rfl⟩
        dsimp only
        rw [hg]
        rw [hg] at HP
        clear hg
        have xa := Lib.hid (x8.out.but hBa (by omega))
        have ra := Lib.hid (r8.out.but hBa hq0)
        have ea : Ext w wa := Below.trans (B := w.heap.size) e8 (hBa.below hwp e8.size)
        go_wp2_with fail
        refine (num_any p _ 1099511627776 _ hra).mono ?_
        rw [HH.out]
        rintro e wb ⟨rfl, hBb, hrb⟩
        obtain ⟨h, hh⟩ : ∃ h : Int, (nH : Int) = h := ⟨_, rfl⟩
        dsimp only
        rw [hh]
        rw [hh] at HP
        clear hh
        have xb := Lib.hid (xa.out.but hBb (by omega))
        have rb := Lib.hid (ra.out.but hBb hq0)
        have eb : Ext w wb := Below.trans (B := w.heap.size) ea (hBb.below hwp ea.size)
        obtain ⟨y0, y1, y2, y3, y4, y5⟩ := xb.out.cells
        have fx := fun i => frozen_of_heap xb.out i
        have x9 := Lib.hid (EntAt.setPos (p' := h) (EntAt.setTerm (m' := g) xb.out))
        have hBc : But q wb ((wb.setCell ⟨q, 4, none⟩ (.int .i64 g)).setCell ⟨q, 5, none⟩ (.int .i64 h)) := (butSet wb q 4 (.int .i64 g)).setCell 5 none _
        have r9 := Lib.hid (rb.out.but hBc (by omega))
        have R9 := Lib.hid ((hrb.setBehind (q := q) (o := 4) (v := .int .i64 g) (by omega)).setBehind (q := q) (o := 5) (v := .int .i64 h) (by omega))
        have e9 : Ext w ((wb.setCell ⟨q, 4, none⟩ (.int .i64 g)).setCell ⟨q, 5, none⟩ (.int .i64 h)) := Below.trans (B := w.heap.size) eb (hBc.below (by omega) eb.size)
        have HI9 := Lib.hid (ints_none ((wb.setCell ⟨q, 4, none⟩ (.int .i64 g)).setCell ⟨q, 5, none⟩ (.int .i64 h)))
        clear hrb hBc
        go_wp2_with fail
        generalize hw9 : (wb.setCell ⟨q, 4, none⟩ (.int .i64 g)).setCell ⟨q, 5, none⟩ (.int .i64 h) = w9 at *
        clear hw9 y0 y1 y2 y3 y4 y5 fx
        refine (end_any p _ _ R9.out).mono ?_
        obtain ⟨d, hdd⟩ : ∃ d, H1.done = d := ⟨_, rfl⟩
        have HOK := Lib.hid (Ent.pok_eq HP.out)
        rw [hdd] at HOK ⊢
        clear hdd
        rintro e w10 ⟨rfl, rfl⟩
        by_cases hd : d = 0
        · subst hd
          have HOK2 := Lib.hid (show Ent.pok t = Ent.right ⟨x, 2, [], f, g, h⟩ by rw [HOK.out]; rfl)
          obtain ⟨d0, d1, d2, d3, d4, d5⟩ := x9.out.cells
          clear HOK
          go_wp2_with fail
          refine (right5_any _ ⟨x, 2, [], f, g, h⟩ _ ⟨_, rfl, HI9.out⟩).mono ?_
          rintro e w11 ⟨rfl, hE11⟩
          have r11 := Lib.hid (r9.out.ext hE11)
          have x11 := Lib.hid (x9.out.ext hE11)
          have e11 := e9.trans hE11
          have HI11 := Lib.hid (HI9.out.below hE11)
          clear d0 d1 d2 d3 d4 d5
          obtain ⟨c0, c1, c2, c3, c4, c5⟩ := r11.out.cells
          obtain ⟨d0, d1, d2, d3, d4, d5⟩ := x11.out.cells
          have fr : ∀ i, w11.frozen? ⟨w.heap.size, i, none⟩ = false := fun i => frozen_of_heap r11.out i
          cases hrr : Ent.right ⟨x, 2, [], f, g, h⟩ with
          | false =>
            have hno := HNOT.out t rfl (HOK2.out.trans hrr)
            subst hno
            clear hrr HOK2
            go_wp2_with fail
            have hs := r11.out.set (.slice none 0 0) Ent.noE
            exact bodyPost_ret (v := .tuple #[entV (.slice none 0 0) Ent.noE, .int .i64 50]) (by simp [results, Tryz.results103, go_sem, c0, c1, c2, c3, c4, c5, fr, Ent.noE, entV]) rfl
              ⟨_, rfl, ⟨_, rfl, RowN.nil _ _⟩, Below.trans (B := w.heap.size) e11 (hs.2.below (Nat.le_refl _) e11.size)⟩
          | true =>
            have hyes := HYES.out t rfl (HOK2.out.trans hrr)
            rw [HP.out] at hyes
            subst hyes
            clear hrr HOK2
            go_wp2_with fail
            have hs := r11.out.set (.slice none 0 0) ⟨x, 2, [], f, g, h⟩
            exact bodyPost_ret (v := .tuple #[entV (.slice none 0 0) ⟨x, 2, [], f, g, h⟩, .int .i64 0]) (by simp [results, Tryz.results103, go_sem, c0, c1, c2, c3, c4, c5, d0, d1, d2, d3, d4, d5, fr, entV]) rfl
              ⟨_, rfl, ⟨_, rfl, RowN.nil _ _⟩, Below.trans (B := w.heap.size) e11 (hs.2.below (Nat.le_refl _) e11.size)⟩
        · have hno := HNOT.out t rfl (by rw [HOK.out, show (d == 0) = false from beq_eq_false_iff_ne.2 hd]; rfl)
          subst hno
          clear HOK
          obtain ⟨c0, c1, c2, c3, c4, c5⟩ := r9.out.cells
          have fr : ∀ i, w9.frozen? ⟨w.heap.size, i, none⟩ = false := fun i => frozen_of_heap r9.out i
          go_wp2_with fail
          have hs := r9.out.set (.slice none 0 0) Ent.noE
          exact bodyPost_ret (v := .tuple #[entV (.slice none 0 0) Ent.noE, .int .i64 50]) (by simp [results, Tryz.results103, go_sem, c0, c1, c2, c3, c4, c5, fr, Ent.noE, entV]) rfl
            ⟨_, rfl, ⟨_, rfl, RowN.nil _ _⟩, Below.trans (B := w.heap.size) e9 (hs.2.below (Nat.le_refl _) e9.size)⟩
      · have hn1 : nB ≠ 1 := by omega
        have hn2 : nB ≠ 2 := by omega
        have hk0 : k = 0 := by omega
        subst hk0
        have HP := Lib.hid (show Ent.pread t = (B1, ⟨x, 0, [], 0, 0, 0⟩) by rw [Ent.pread_else (by rw [HBB.out]; exact hn1) (by rw [HBB.out]; exact hn2), HBB.out, HAA.out, ← HX.out, ← HKK.out])
        clear hk hn1 hn2
        go_wp2_with fail
        clear y0 y1 y2 y3 y4 y5 fx
        generalize hw6 : w5.alloc (.cells #[.int .i64 x, .int .i64 0, .slice none 0 0, .int .i64 0, .int .i64 0, .int .i64 0] 77) = w9 at *
        generalize hq : w5.heap.size = q at *
        clear hw6 hq
        have x9 := x6
        have r9 := r6
        have R9 := R6
        have e9 := e6
        have HI9 := Lib.hid (ints_none w9)
        refine (end_any p _ _ R9.out).mono ?_
        obtain ⟨d, hdd⟩ : ∃ d, B1.done = d := ⟨_, rfl⟩
        have HOK := Lib.hid (Ent.pok_eq HP.out)
        rw [hdd] at HOK ⊢
        clear hdd
        rintro e w10 ⟨rfl, rfl⟩
        by_cases hd : d = 0
        · subst hd
          have HOK2 := Lib.hid (show Ent.pok t = Ent.right ⟨x, 0, [], 0, 0, 0⟩ by rw [HOK.out]; rfl)
          obtain ⟨d0, d1, d2, d3, d4, d5⟩ := x9.out.cells
          clear HOK
          go_wp2_with fail
          refine (right5_any _ ⟨x, 0, [], 0, 0, 0⟩ _ ⟨_, rfl, HI9.out⟩).mono ?_
          rintro e w11 ⟨rfl, hE11⟩
          have r11 := Lib.hid (r9.out.ext hE11)
          have x11 := Lib.hid (x9.out.ext hE11)
          have e11 := e9.trans hE11
          have HI11 := Lib.hid (HI9.out.below hE11)
          clear d0 d1 d2 d3 d4 d5
          obtain ⟨c0, c1, c2, c3, c4, c5⟩ := r11.out.cells
          obtain ⟨d0, d1, d2, d3, d4, d5⟩ := x11.out.cells
          have fr : ∀ i, w11.frozen? ⟨w.heap.size, i, none⟩ = false := fun i => frozen_of_heap r11.out i
          cases hrr : Ent.right ⟨x, 0, [], 0, 0, 0⟩ with
          | false =>
            have hno := HNOT.out t rfl (HOK2.out.trans hrr)
            subst hno
            clear hrr HOK2
            go_wp2_with fail
            have hs := r11.out.set (.slice none 0 0) Ent.noE
            exact bodyPost_ret (v := .tuple #[entV (.slice none 0 0) Ent.noE, .int .i64 50]) (by simp [results, Tryz.results103, go_sem, c0, c1, c2, c3, c4, c5, fr, Ent.noE, entV]) rfl
              ⟨_, rfl, ⟨_, rfl, RowN.nil _ _⟩, Below.trans (B := w.heap.size) e11 (hs.2.below (Nat.le_refl _) e11.size)⟩
          | true =>
            have hyes := HYES.out t rfl (HOK2.out.trans hrr)
            rw [HP.out] at hyes
            subst hyes
            clear hrr HOK2
            go_wp2_with fail
            have hs := r11.out.set (.slice none 0 0) ⟨x, 0, [], 0, 0, 0⟩
            exact bodyPost_ret (v := .tuple #[entV (.slice none 0 0) ⟨x, 0, [], 0, 0, 0⟩, .int .i64 0]) (by simp [results, Tryz.results103, go_sem, c0, c1, c2, c3, c4, c5, d0, d1, d2, d3, d4, d5, fr, entV]) rfl
              ⟨_, rfl, ⟨_, rfl, RowN.nil _ _⟩, Below.trans (B := w.heap.size) e11 (hs.2.below (Nat.le_refl _) e11.size)⟩
        · have hno := HNOT.out t rfl (by rw [HOK.out, show (d == 0) = false from beq_eq_false_iff_ne.2 hd]; rfl)
          subst hno
          clear HOK
          obtain ⟨c0, c1, c2, c3, c4, c5⟩ := r9.out.cells
          have fr : ∀ i, w9.frozen? ⟨w.heap.size, i, none⟩ = false := fun i => frozen_of_heap r9.out i
          go_wp2_with fail
          have hs := r9.out.set (.slice none 0 0) Ent.noE
          exact bodyPost_ret (v := .tuple #[entV (.slice none 0 0) Ent.noE, .int .i64 50]) (by simp [results, Tryz.results103, go_sem, c0, c1, c2, c3, c4, c5, fr, Ent.noE, entV]) rfl
            ⟨_, rfl, ⟨_, rfl, RowN.nil _ _⟩, Below.trans (B := w.heap.size) e9 (hs.2.below (Nat.le_refl _) e9.size)⟩
/- Rows of numbers in blocks of their own: what leaves them as they are. -/
theorem RowN.lower {B B' : Nat} {w : World} {v : Value} {l : List Int} (h : RowN B w v l) (hB : B' ≤ B) : RowN B' w v l := by
  obtain ⟨b, n, hb, h⟩ := h
  exact ⟨b, n, Nat.le_trans hB hb, h⟩
theorem RowN.ext {B : Nat} {w w' : World} {v : Value} {l : List Int} (h : RowN B w v l) (hE : Ext w w') : RowN B w' v l := by
  obtain ⟨b, n, hb, h⟩ := h
  exact ⟨b, n, hb, rowExt h hE⟩
theorem RowN.low {B C : Nat} {w : World} {v : Value} {l : List Int} (h : RowN C w v l) (hB : B ≤ C) : ∀ k, v.ownBlock = some k → B ≤ k := by
  obtain ⟨b, n, hb, h⟩ := h
  exact fun k hk => Nat.le_trans hB (Nat.le_trans hb (h.lt k hk).1)
theorem RowN.blocks {B : Nat} {w w' : World} {v : Value} {l : List Int} (h : RowN B w v l) (hs : ∀ g, v.ownBlock = some g → w'.heap[g]? = w.heap[g]?) : RowN B w' v l := by
  obtain ⟨b, n, hb, ho⟩ := h
  exact ⟨b, n, hb, rowOwn ho hs⟩
theorem RowN.lt {B : Nat} {w : World} {v : Value} {l : List Int} (h : RowN B w v l) : ∀ g, v.ownBlock = some g → B ≤ g ∧ g < w.heap.size := fun g hg => by
  obtain ⟨b, n, hb, ho⟩ := h
  have := ho.lt g hg
  exact ⟨Nat.le_trans hb this.1, this.2⟩
/- Layer 5: whether two entries are one: the program, and the document's own answer. -/
set_option maxHeartbeats 8000000 in
theorem same5_any (v u : Value) (a b : Ent.E) (w : World) (hv : IsEnt w v a) (hu : IsEnt w u b) :
    Calls Tryz.prog 73 #[v, u] w fun x w' => x = .returned (.bool (Ent.alike a b)) ∧ Ext w w' := by
  have hbx := box_ent
  obtain ⟨s1, rfl, ht⟩ := hv
  obtain ⟨s2, rfl, ht2⟩ := hu
  obtain ⟨n, k, c, t, m, p⟩ := a
  obtain ⟨n2, k2, c2, t2, m2, p2⟩ := b
  unfold entV at *
  simp only at ht ht2 ⊢
  obtain ⟨a1, cap1, rfl, hcap1, hmax1, _, _⟩ := ht.open
  obtain ⟨a2, cap2, rfl, hcap2, hmax2, _, _⟩ := ht2.open
  unfold maxLen at hmax1 hmax2
  have HT := Lib.hid ht
  have HT2 := Lib.hid ht2
  clear ht ht2
  have hE : Ext w ((w.alloc (.cells #[.int .i64 n, .int .i64 k, .slice a1 c.length cap1, .int .i64 t, .int .i64 m, .int .i64 p] 77)).alloc (.cells #[.int .i64 n2, .int .i64 k2, .slice a2 c2.length cap2, .int .i64 t2, .int .i64 m2, .int .i64 p2] 77)) := ext_two _ _ _
  have HH := Lib.hid (heap_two w (.cells #[.int .i64 n, .int .i64 k, .slice a1 c.length cap1, .int .i64 t, .int .i64 m, .int .i64 p] 77) (.cells #[.int .i64 n2, .int .i64 k2, .slice a2 c2.length cap2, .int .i64 t2, .int .i64 m2, .int .i64 p2] 77))
  by_cases hn : n = n2
  · subst hn
    by_cases hk : k = k2
    · subst hk
      cases hc : (c == c2) with
      | false =>
        have HC := Lib.hid hc
        clear hc
        have HR := Lib.hid (show Ent.alike ⟨n, k, c, t, m, p⟩ ⟨n, k, c2, t2, m2, p2⟩ = false by unfold Ent.alike; rw [HC.out]; simp)
        go_enter Tryz.func73, Tryz.ntmps73
        go_wp2_with fail
        refine (equalS_any _ _ c c2 _ (HT.out.below hE) (HT2.out.below hE)).mono ?_
        rw [HC.out]
        rintro e w3 ⟨rfl, hE3⟩
        have hz := And.intro (cell_of_heap (heap_ext HH.out.1 hE3)) (cell_of_heap (heap_ext HH.out.2 hE3))
        have y3 := hz.1 3
        have y4 := hz.1 4
        have y5 := hz.1 5
        have z3 := hz.2 3
        have z4 := hz.2 4
        have z5 := hz.2 5
        clear hz
        simp at y3 y4 y5 z3 z4 z5
        go_wp2_with fail
        go_ret
        exact ⟨by rw [HR.out]; rfl, hE.trans hE3⟩
      | true =>
        have HC := Lib.hid hc
        clear hc
        by_cases ht : t = t2
        · subst ht
          by_cases hm : m = m2
          · subst hm
            by_cases hp : p = p2
            · subst hp
              have HR := Lib.hid (show Ent.alike ⟨n, k, c, t, m, p⟩ ⟨n, k, c2, t, m, p⟩ = true by unfold Ent.alike; rw [HC.out]; simp)
              go_enter Tryz.func73, Tryz.ntmps73
              go_wp2_with fail
              refine (equalS_any _ _ c c2 _ (HT.out.below hE) (HT2.out.below hE)).mono ?_
              rw [HC.out]
              rintro e w3 ⟨rfl, hE3⟩
              have hz := And.intro (cell_of_heap (heap_ext HH.out.1 hE3)) (cell_of_heap (heap_ext HH.out.2 hE3))
              have y3 := hz.1 3
              have y4 := hz.1 4
              have y5 := hz.1 5
              have z3 := hz.2 3
              have z4 := hz.2 4
              have z5 := hz.2 5
              clear hz
              simp at y3 y4 y5 z3 z4 z5
              go_wp2_with fail
              go_ret
              exact ⟨by rw [HR.out]; rfl, hE.trans hE3⟩
            · have HR := Lib.hid (show Ent.alike ⟨n, k, c, t, m, p⟩ ⟨n, k, c2, t, m, p2⟩ = false by unfold Ent.alike; simp [hp])
              go_enter Tryz.func73, Tryz.ntmps73
              go_wp2_with fail
              refine (equalS_any _ _ c c2 _ (HT.out.below hE) (HT2.out.below hE)).mono ?_
              rw [HC.out]
              rintro e w3 ⟨rfl, hE3⟩
              have hz := And.intro (cell_of_heap (heap_ext HH.out.1 hE3)) (cell_of_heap (heap_ext HH.out.2 hE3))
              have y3 := hz.1 3
              have y4 := hz.1 4
              have y5 := hz.1 5
              have z3 := hz.2 3
              have z4 := hz.2 4
              have z5 := hz.2 5
              clear hz
              simp at y3 y4 y5 z3 z4 z5
              go_wp2_with fail
              go_ret
              exact ⟨by rw [HR.out]; rfl, hE.trans hE3⟩
          · have HR := Lib.hid (show Ent.alike ⟨n, k, c, t, m, p⟩ ⟨n, k, c2, t, m2, p2⟩ = false by unfold Ent.alike; simp [hm])
            go_enter Tryz.func73, Tryz.ntmps73
            go_wp2_with fail
            refine (equalS_any _ _ c c2 _ (HT.out.below hE) (HT2.out.below hE)).mono ?_
            rw [HC.out]
            rintro e w3 ⟨rfl, hE3⟩
            have hz := And.intro (cell_of_heap (heap_ext HH.out.1 hE3)) (cell_of_heap (heap_ext HH.out.2 hE3))
            have y3 := hz.1 3
            have y4 := hz.1 4
            have y5 := hz.1 5
            have z3 := hz.2 3
            have z4 := hz.2 4
            have z5 := hz.2 5
            clear hz
            simp at y3 y4 y5 z3 z4 z5
            go_wp2_with fail
            go_ret
            exact ⟨by rw [HR.out]; rfl, hE.trans hE3⟩
        · have HR := Lib.hid (show Ent.alike ⟨n, k, c, t, m, p⟩ ⟨n, k, c2, t2, m2, p2⟩ = false by unfold Ent.alike; simp [ht])
          go_enter Tryz.func73, Tryz.ntmps73
          go_wp2_with fail
          refine (equalS_any _ _ c c2 _ (HT.out.below hE) (HT2.out.below hE)).mono ?_
          rw [HC.out]
          rintro e w3 ⟨rfl, hE3⟩
          have hz := And.intro (cell_of_heap (heap_ext HH.out.1 hE3)) (cell_of_heap (heap_ext HH.out.2 hE3))
          have y3 := hz.1 3
          have y4 := hz.1 4
          have y5 := hz.1 5
          have z3 := hz.2 3
          have z4 := hz.2 4
          have z5 := hz.2 5
          clear hz
          simp at y3 y4 y5 z3 z4 z5
          go_wp2_with fail
          go_ret
          exact ⟨by rw [HR.out]; rfl, hE.trans hE3⟩
    · have HR := Lib.hid (show Ent.alike ⟨n, k, c, t, m, p⟩ ⟨n, k2, c2, t2, m2, p2⟩ = false by unfold Ent.alike; simp [hk])
      go_enter Tryz.func73, Tryz.ntmps73
      go_wp2_with fail
      go_ret
      exact ⟨by rw [HR.out]; rfl, hE⟩
  · have HR := Lib.hid (show Ent.alike ⟨n, k, c, t, m, p⟩ ⟨n2, k2, c2, t2, m2, p2⟩ = false by unfold Ent.alike; simp [hn])
    go_enter Tryz.func73, Tryz.ntmps73
    go_wp2_with fail
    go_ret
    exact ⟨by rw [HR.out]; rfl, hE⟩
set_option maxHeartbeats 8000000 in
theorem refSame5_any (v u : Value) (a b : Ent.E) (w : World) (hv : IsEnt w v a) (hu : IsEnt w u b) :
    Calls Tryz.prog 37 #[v, u] w fun x w' => x = .returned (.bool (Ent.alike a b)) ∧ Ext w w' := by
  have hbx := box_entR
  obtain ⟨s1, rfl, ht⟩ := hv
  obtain ⟨s2, rfl, ht2⟩ := hu
  obtain ⟨n, k, c, t, m, p⟩ := a
  obtain ⟨n2, k2, c2, t2, m2, p2⟩ := b
  unfold entV at *
  simp only at ht ht2 ⊢
  obtain ⟨a1, cap1, rfl, hcap1, hmax1, _, _⟩ := ht.open
  obtain ⟨a2, cap2, rfl, hcap2, hmax2, _, _⟩ := ht2.open
  unfold maxLen at hmax1 hmax2
  have HT := Lib.hid ht
  have HT2 := Lib.hid ht2
  clear ht ht2
  have hE : Ext w ((w.alloc (.cells #[.int .i64 n, .int .i64 k, .slice a1 c.length cap1, .int .i64 t, .int .i64 m, .int .i64 p] 54)).alloc (.cells #[.int .i64 n2, .int .i64 k2, .slice a2 c2.length cap2, .int .i64 t2, .int .i64 m2, .int .i64 p2] 54)) := ext_two _ _ _
  have HH := Lib.hid (heap_two w (.cells #[.int .i64 n, .int .i64 k, .slice a1 c.length cap1, .int .i64 t, .int .i64 m, .int .i64 p] 54) (.cells #[.int .i64 n2, .int .i64 k2, .slice a2 c2.length cap2, .int .i64 t2, .int .i64 m2, .int .i64 p2] 54))
  by_cases hn : n = n2
  · subst hn
    by_cases hk : k = k2
    · subst hk
      by_cases ht : t = t2
      · subst ht
        by_cases hm : m = m2
        · subst hm
          by_cases hp : p = p2
          · subst hp
            cases hc : (c == c2) with
            | false =>
              have HC := Lib.hid hc
              clear hc
              have HR := Lib.hid (show Ent.alike ⟨n, k, c, t, m, p⟩ ⟨n, k, c2, t, m, p⟩ = false by unfold Ent.alike; rw [HC.out]; simp)
              go_enter Tryz.func37, Tryz.ntmps37
              go_wp2_with fail
              refine (equal3_any _ _ c c2 _ (HT.out.below hE) (HT2.out.below hE)).mono ?_
              rw [HC.out]
              rintro e w3 ⟨rfl, hE3⟩
              have hz := And.intro (cell_of_heap (heap_ext HH.out.1 hE3)) (cell_of_heap (heap_ext HH.out.2 hE3))
              have y3 := hz.1 3
              have y4 := hz.1 4
              have y5 := hz.1 5
              have z3 := hz.2 3
              have z4 := hz.2 4
              have z5 := hz.2 5
              clear hz
              simp at y3 y4 y5 z3 z4 z5
              go_wp2_with fail
              go_ret
              exact ⟨by rw [HR.out]; rfl, hE.trans hE3⟩
            | true =>
              have HC := Lib.hid hc
              clear hc
              have HR := Lib.hid (show Ent.alike ⟨n, k, c, t, m, p⟩ ⟨n, k, c2, t, m, p⟩ = true by unfold Ent.alike; rw [HC.out]; simp)
              go_enter Tryz.func37, Tryz.ntmps37
              go_wp2_with fail
              refine (equal3_any _ _ c c2 _ (HT.out.below hE) (HT2.out.below hE)).mono ?_
              rw [HC.out]
              rintro e w3 ⟨rfl, hE3⟩
              have hz := And.intro (cell_of_heap (heap_ext HH.out.1 hE3)) (cell_of_heap (heap_ext HH.out.2 hE3))
              have y3 := hz.1 3
              have y4 := hz.1 4
              have y5 := hz.1 5
              have z3 := hz.2 3
              have z4 := hz.2 4
              have z5 := hz.2 5
              clear hz
              simp at y3 y4 y5 z3 z4 z5
              go_wp2_with fail
              go_ret
              exact ⟨by rw [HR.out]; rfl, hE.trans hE3⟩
          · have HR := Lib.hid (show Ent.alike ⟨n, k, c, t, m, p⟩ ⟨n, k, c2, t, m, p2⟩ = false by unfold Ent.alike; simp [hp])
            go_enter Tryz.func37, Tryz.ntmps37
            go_wp2_with fail
            go_ret
            exact ⟨by rw [HR.out]; rfl, hE⟩
        · have HR := Lib.hid (show Ent.alike ⟨n, k, c, t, m, p⟩ ⟨n, k, c2, t, m2, p2⟩ = false by unfold Ent.alike; simp [hm])
          go_enter Tryz.func37, Tryz.ntmps37
          go_wp2_with fail
          go_ret
          exact ⟨by rw [HR.out]; rfl, hE⟩
      · have HR := Lib.hid (show Ent.alike ⟨n, k, c, t, m, p⟩ ⟨n, k, c2, t2, m2, p2⟩ = false by unfold Ent.alike; simp [ht])
        go_enter Tryz.func37, Tryz.ntmps37
        go_wp2_with fail
        go_ret
        exact ⟨by rw [HR.out]; rfl, hE⟩
    · have HR := Lib.hid (show Ent.alike ⟨n, k, c, t, m, p⟩ ⟨n, k2, c2, t2, m2, p2⟩ = false by unfold Ent.alike; simp [hk])
      go_enter Tryz.func37, Tryz.ntmps37
      go_wp2_with fail
      go_ret
      exact ⟨by rw [HR.out]; rfl, hE⟩
  · have HR := Lib.hid (show Ent.alike ⟨n, k, c, t, m, p⟩ ⟨n2, k2, c2, t2, m2, p2⟩ = false by unfold Ent.alike; simp [hn])
    go_enter Tryz.func37, Tryz.ntmps37
    go_wp2_with fail
    go_ret
    exact ⟨by rw [HR.out]; rfl, hE⟩
/- Layer 5: bytes as entries: the document's own answer. -/
theorem setTwoR {w : World} {q : Nat} {x0 x1 : Value} {T : TypeId} (h : w.heap[q]? = some (.cells #[x0, x1] T (0, 0))) (v0 v1 : Value) :
    ((w.setCell ⟨q, 0, none⟩ v0).setCell ⟨q, 1, none⟩ v1).heap[q]? = some (.cells #[v0, v1] T (0, 0)) ∧ But q w ((w.setCell ⟨q, 0, none⟩ v0).setCell ⟨q, 1, none⟩ v1) := by
  refine ⟨?_, ((But.refl _ _).setCell 0 none v0).setCell 1 none v1⟩
  have := heap_setCell (heap_setCell h 0 v0) 1 v1
  simpa using this
/-- Block q is the document's reader in this state. -/
def RefR (w : World) (q n : Nat) (s : Pack.St) : Prop := ∃ lk : List UInt8, w.heap[q]? = some (.cells #[.string ⟨lk.toArray⟩, .int .i64 s.err] 242 (0, 0)) ∧ Sim lk s ∧ lk.length ≤ n
theorem RefR.lt {w : World} {q n : Nat} {s : Pack.St} (h : RefR w q n s) : q < w.heap.size := by
  obtain ⟨lk, h, _⟩ := h
  exact (Array.getElem?_eq_some_iff.1 h).1
theorem RefR.ext {w w' : World} {q n : Nat} {s : Pack.St} (h : RefR w q n s) (hE : Ext w w') : RefR w' q n s := by
  have hlt := h.lt
  obtain ⟨lk, h1, h2⟩ := h
  exact ⟨lk, (hE.block q hlt).trans h1, h2⟩
theorem RefR.but {w w' : World} {q p n : Nat} {s : Pack.St} (h : RefR w q n s) (hB : But p w w') (hne : q ≠ p) : RefR w' q n s := by
  have hlt := h.lt
  obtain ⟨lk, h1, h2⟩ := h
  exact ⟨lk, (hB.block q hlt hne).trans h1, h2⟩
theorem RefR.set {w : World} {q n : Nat} {s : Pack.St} (h : RefR w q n s) {l : List UInt8} {s' : Pack.St} (hs : Sim l s') (hl : l.length ≤ n) :
    RefR ((w.setCell ⟨q, 0, none⟩ (.string ⟨l.toArray⟩)).setCell ⟨q, 1, none⟩ (.int .i64 s'.err)) q n s' ∧ But q w ((w.setCell ⟨q, 0, none⟩ (.string ⟨l.toArray⟩)).setCell ⟨q, 1, none⟩ (.int .i64 s'.err)) := by
  obtain ⟨lk, h1, h2⟩ := h
  have := setTwoR h1 (.string ⟨l.toArray⟩) (.int .i64 s'.err)
  exact ⟨⟨l, this.1, hs, hl⟩, this.2⟩
/- Layer 5, the program: rows of entries, and how many of them follow one another. -/
/-- An entry stands here. -/
def EntHere (w : World) (b o : Nat) (e : Ent.E) : Prop :=
  ∃ t, w.cell? ⟨b, o, none⟩ = some (.int .i64 e.number) ∧ w.cell? ⟨b, o + 1, none⟩ = some (.int .i64 e.kind) ∧ w.cell? ⟨b, o + 2, none⟩ = some t ∧ w.cell? ⟨b, o + 3, none⟩ = some (.int .i64 e.tag) ∧ w.cell? ⟨b, o + 4, none⟩ = some (.int .i64 e.term) ∧ w.cell? ⟨b, o + 5, none⟩ = some (.int .i64 e.pos) ∧ Ints w t e.cut
theorem EntHere.below {w w' : World} {b o : Nat} {e : Ent.E} (h : EntHere w b o e) (hb : Below w.heap.size w w') : EntHere w' b o e := by
  obtain ⟨t, h1, h2, h3, h4, h5, h6, h7⟩ := h
  have key : ∀ i, w'.cell? ⟨b, i, none⟩ = w.cell? ⟨b, i, none⟩ := fun i => World.cell?_of_block (w := w) (hb.block b (World.block_lt_of_cell? w _ h1))
  exact ⟨t, (key _).trans h1, (key _).trans h2, (key _).trans h3, (key _).trans h4, (key _).trans h5, (key _).trans h6, h7.below hb⟩
/-- A slice of entries reads as these. -/
def Ents (w : World) (v : Value) (l : List Ent.E) : Prop :=
  ∃ (a : Option Addr) (cap : Nat), v = .slice a l.length cap ∧ l.length ≤ cap ∧ cap ≤ maxLen ∧ (a = none → cap = 0) ∧ ∀ i (h : i < l.length), ∃ b off, a = some ⟨b, off, none⟩ ∧ EntHere w b (off + i * 6) l[i]
theorem Ents.below {w w' : World} {v : Value} {l : List Ent.E} (h : Ents w v l) (hb : Below w.heap.size w w') : Ents w' v l := by
  obtain ⟨a, cap, rfl, h1, h2, h4, h3⟩ := h
  refine ⟨a, cap, rfl, h1, h2, h4, fun i hi => ?_⟩
  obtain ⟨b, off, e, hc⟩ := h3 i hi
  exact ⟨b, off, e, hc.below hb⟩
theorem Ents.shape {w : World} {v : Value} {l : List Ent.E} (h : Ents w v l) : ∃ a c, v = .slice a l.length c ∧ l.length ≤ c ∧ c ≤ 9223372036854775807 := by
  obtain ⟨a, cap, rfl, h1, h2, _⟩ := h
  unfold maxLen at h2
  exact ⟨a, cap, rfl, h1, h2⟩
theorem Ents.nil (w : World) : Ents w (.slice none 0 0) [] := ⟨none, 0, rfl, Nat.le_refl _, by simp [maxLen], fun _ => rfl, fun i hi => absurd hi (by simp)⟩
/-- The first k of them. -/
theorem Ents.take {w : World} {a : Option Addr} {n cap : Nat} {l : List Ent.E} (h : Ents w (.slice a n cap) l) (k : Nat) (hk : k ≤ l.length) : Ents w (.slice a k cap) (l.take k) := by
  obtain ⟨a', cap', e, h1, h2, h4, h3⟩ := h
  injection e with e1 e2 e3
  subst e1 e3
  have hl : (l.take k).length = k := by rw [List.length_take]; omega
  refine ⟨_, _, by rw [hl], by omega, h2, h4, fun i hi => ?_⟩
  obtain ⟨b, off, e, hc⟩ := h3 i (by omega)
  exact ⟨b, off, e, by simpa using hc⟩

/-- The last cut, as the program holds it: none is nil. -/
def LastIs (w : World) (u : Value) : Option (List Int) → Prop
  | none => u = .slice none 0 0
  | some c => Ints w u c ∧ ∃ a n k, u = .slice (some a) n k
theorem LastIs.ext {w w' : World} {u : Value} {o : Option (List Int)} (h : LastIs w u o) (hE : Ext w w') : LastIs w' u o := by
  cases o with
  | none => exact h
  | some c => exact ⟨h.1.below hE, h.2⟩
theorem LastIs.isSlice {w : World} {u : Value} {o : Option (List Int)} (h : LastIs w u o) : ∃ a n k, u = .slice a n k := by
  cases o with
  | none => exact ⟨_, _, _, h⟩
  | some c =>
    obtain ⟨_, a, n, k, e⟩ := h
    exact ⟨_, _, _, e⟩
theorem LastIs.of_ints {w : World} {u : Value} {c : List Int} (h : Ints w u c) (hc : c ≠ []) : LastIs w u (some c) := by
  refine ⟨h, ?_⟩
  obtain ⟨a, cap, rfl, _, _, _, hx⟩ := h.open
  obtain ⟨b, off, rfl, _⟩ := hx 0 (List.length_pos_iff.2 hc)
  exact ⟨_, _, _, rfl⟩
theorem Ent.cut_next (l : List Ent.E) (k : Nat) (hk : k < l.length) : Ent.lastCut (l.take (k + 1)) = if l[k].kind = 1 then some l[k].cut else Ent.lastCut (l.take k) := by
  rw [take_succ_getD l k hk, Ent.lastCut_snoc]
theorem Ent.right_cut {e : Ent.E} (h : Ent.right e = true) (hk : e.kind = 1) : Vec.right e.cut = true ∧ e.cut ≠ [] := by
  rcases (Ent.right_ok h).2 with ⟨_, hv, _⟩ | ⟨h, _⟩
  · refine ⟨hv, fun e0 => ?_⟩
    have := (Vec.right_ok hv).2.1
    rw [e0] at this
    simp at this
  · omega
/-- What follow leaves. -/
def Follows5 (w : World) (l : List Ent.E) (x : Ending) (w' : World) : Prop := ∃ u, x = .returned (.tuple #[.int .i64 (Ent.chain l : Int), u]) ∧ LastIs w' u (Ent.lastCut (l.take (Ent.chain l))) ∧ Ext w w'

set_option maxHeartbeats 8000000 in
theorem follow5_any (v : Value) (l : List Ent.E) (w : World) (hv : Ents w v l) :
    Calls Tryz.prog 136 #[v] w (Follows5 w l) := by
  have HV := Lib.hid hv
  have e1 := fun (w : World) (a : Option Addr) (n c : Nat) => Lib.run_eql_slice_nil (P := Tryz.prog) w 22 3 a n c 0 0 Tryz.underlying22
  obtain ⟨a, cap, rfl, hcap, hmax, _, _⟩ := hv
  unfold maxLen at hmax
  unfold Follows5
  go_enter Tryz.func136, Tryz.ntmps136
  go_wp2
  go_step3
  go_wp2
  go_step3
  go_wp2
  go_loopw [2, 3, 5, 8] (fun n u _ i wr => ∃ k : Nat, k ≤ l.length ∧ i = .int .i64 k ∧ n = .int .i64 k ∧ Hid (Ent.chain (l.take k) = k) ∧ Hid (LastIs wr u (Ent.lastCut (l.take k))) ∧ Ext w wr) (fun _ _ _ i _ => l.length - (intOf i).toNat)
  case atStart => exact ⟨0, by omega, rfl, rfl, rfl, rfl, Ext.refl _⟩
  case round =>
    obtain ⟨k, hk, rfl, rfl, hch, hlast, hE⟩ := hrel
    by_cases hlt : k < l.length
    · obtain ⟨a', cap', e', _, _, _, hc⟩ := HV.out.below hE
      obtain ⟨b, off, rfl, t, p0, p1, p2, p3, p4, p5, ht⟩ := hc k hlt
      injection e' with e1' e2' e3'
      subst e1'
      have hstop := fun h => Ent.chain_stop hlt hch.out h
      have hnext := Ent.chain_next hlt hch.out
      have hcut := Ent.cut_next l k hlt
      have hfol := Ent.follows_iff (l.take k) l[k]
      have hrc := fun (h1 : Ent.right l[k] = true) (h2 : l[k].kind = 1) => Ent.right_cut h1 h2
      have hlk : (l.take k).length = k := by rw [List.length_take]; omega
      rw [hlk] at hfol
      obtain ⟨a2, cap2, rfl, hcap2, hmax2, _, _⟩ := ht.open
      unfold maxLen at hmax2
      have HI := Lib.hid (show IsEnt wr (.agg #[.int .i64 l[k].number, .int .i64 l[k].kind, .slice a2 l[k].cut.length cap2, .int .i64 l[k].tag, .int .i64 l[k].term, .int .i64 l[k].pos]) l[k] from ⟨_, rfl, ht⟩)
      have HT := Lib.hid ht
      generalize l[k] = R at *
      obtain ⟨n, kd, c, tg, m, p⟩ := R
      clear hc e2' e3' ht
      simp only at *
      have hEa : Ext wr (wr.alloc (.cells #[.int .i64 n, .int .i64 kd, .slice a2 c.length cap2, .int .i64 tg, .int .i64 m, .int .i64 p] 77)) := Ext.alloc _ _
      have HX := Lib.hid (EntAt.new 77 wr (.slice a2 c.length cap2) ⟨n, kd, c, tg, m, p⟩)
      have HSTOP := Lib.hid hstop
      have HNEXT := Lib.hid hnext
      have HCUT := Lib.hid hcut
      have HFOL := Lib.hid hfol
      have HRC := Lib.hid hrc
      have hk63 : (k : Int) + 1 ≤ 9223372036854775807 := by omega
      clear hstop hnext hcut hfol hrc hlk
      obtain ⟨au, nu, ku, rfl⟩ := LastIs.isSlice hlast.out
      have hn0 : (Ent.follows (l.take k) ⟨n, kd, c, tg, m, p⟩ = true → False) → Ent.chain l = k := fun h => HSTOP.out (by
        cases hf : Ent.follows (l.take k) ⟨n, kd, c, tg, m, p⟩ with
        | false => rfl
        | true => exact (h hf).elim)
      have HN0 := Lib.hid hn0
      clear hn0
      by_cases hn : n = (k : Int) + 1
      · subst hn
        cases hr : Ent.right ⟨(k : Int) + 1, kd, c, tg, m, p⟩ with
        | false =>
          have HR := Lib.hid hr
          have HC := Lib.hid (HN0.out fun h => by have := (HFOL.out.1 h).1; rw [hr] at this; cases this)
          clear hr
          go_wp2_with fail
          refine (right5_any _ ⟨(k : Int) + 1, kd, c, tg, m, p⟩ _ (HI.out.below hEa)).mono ?_
          rw [HR.out]
          rintro e w1 ⟨rfl, hE1⟩
          go_wp2_with fail
          (try rw [Exit.noGoto_ret])
          go_ret2
          exact ⟨_, by rw [HC.out]; rfl, by rw [HC.out]; exact hlast.out.ext (hEa.trans hE1), hE.trans (hEa.trans hE1)⟩
        | true =>
          have HR := Lib.hid hr
          by_cases k1 : kd = 1
          · subst k1
            obtain ⟨hvr, hcne⟩ := HRC.out hr rfl
            obtain ⟨o, ho⟩ : ∃ o, Ent.lastCut (l.take k) = o := ⟨_, rfl⟩
            have hcut2 := HCUT.out
            rw [if_pos rfl] at hcut2
            have HC2 := Lib.hid hcut2
            rw [ho] at hlast
            cases o with
            | none =>
              have hf : Ent.follows (l.take k) ⟨(k : Int) + 1, 1, c, tg, m, p⟩ = true := HFOL.out.2 ⟨hr, rfl, fun _ => by rw [ho]; rfl⟩
              have hnx := HNEXT.out
              rw [hf, if_pos rfl] at hnx
              have HNX := Lib.hid hnx
              obtain ⟨rfl, rfl, rfl⟩ : au = none ∧ nu = 0 ∧ ku = 0 := by have := hlast.out; unfold LastIs at this; simpa using this
              have HCN := Lib.hid hcne
              clear hr hf hnx ho hcut2 hvr hcne
              go_wp2_with fail
              refine (right5_any _ ⟨(k : Int) + 1, 1, c, tg, m, p⟩ _ (HI.out.below hEa)).mono ?_
              rw [HR.out]
              rintro e w1 ⟨rfl, hE1⟩
              have x1 := Lib.hid (HX.out.ext hE1)
              obtain ⟨c0, c1, c2, c3, c4, c5⟩ := x1.out.cells
              go_wp2_with fail
              go_roundw
              case rel => exact ⟨k + 1, by omega, by go_num, by go_num, HNX.out, by rw [Hid, HC2.out]; exact LastIs.of_ints (HT.out.below (hEa.trans hE1)) HCN.out, hE.trans (hEa.trans hE1)⟩
              case measure => simp [intOf]; omega
            | some u =>
              have hu := hlast.out.1
              obtain ⟨a3, n3, k3, e3⟩ := hlast.out.2
              injection e3 with e4 e5 e6
              subst e4 e5 e6
              have HU := Lib.hid hu
              cases hcv : Vec.covers c u with
              | false =>
                have HC := Lib.hid (HN0.out fun h => by
                  have := (HFOL.out.1 h).2.2 rfl
                  rw [ho] at this
                  have h2 : Vec.covers c u = true := this
                  rw [hcv] at h2
                  cases h2)
                have HCV := Lib.hid hcv
                have HO := Lib.hid ho
                clear hr ho hcut2 hvr hcne hcv hu
                go_wp2_with fail
                refine (right5_any _ ⟨(k : Int) + 1, 1, c, tg, m, p⟩ _ (HI.out.below hEa)).mono ?_
                rw [HR.out]
                rintro e w1 ⟨rfl, hE1⟩
                have x1 := Lib.hid (HX.out.ext hE1)
                obtain ⟨c0, c1, c2, c3, c4, c5⟩ := x1.out.cells
                go_wp2_with fail
                refine (covers_any _ _ c u _ (HT.out.below (hEa.trans hE1)) (HU.out.below (hEa.trans hE1))).mono ?_
                rw [HCV.out]
                rintro e w2 ⟨rfl, rfl⟩
                go_wp2_with fail
                (try rw [Exit.noGoto_ret])
                go_ret2
                exact ⟨_, by rw [HC.out]; rfl, by rw [HC.out, HO.out]; exact hlast.out.ext (hEa.trans hE1), hE.trans (hEa.trans hE1)⟩
              | true =>
                have hf : Ent.follows (l.take k) ⟨(k : Int) + 1, 1, c, tg, m, p⟩ = true := HFOL.out.2 ⟨hr, rfl, fun _ => by rw [ho]; exact hcv⟩
                have hnx := HNEXT.out
                rw [hf, if_pos rfl] at hnx
                have HNX := Lib.hid hnx
                have HCV := Lib.hid hcv
                have HCN := Lib.hid hcne
                clear hr hf hnx ho hcut2 hvr hcne hcv hu
                go_wp2_with fail
                refine (right5_any _ ⟨(k : Int) + 1, 1, c, tg, m, p⟩ _ (HI.out.below hEa)).mono ?_
                rw [HR.out]
                rintro e w1 ⟨rfl, hE1⟩
                have x1 := Lib.hid (HX.out.ext hE1)
                obtain ⟨c0, c1, c2, c3, c4, c5⟩ := x1.out.cells
                go_wp2_with fail
                refine (covers_any _ _ c u _ (HT.out.below (hEa.trans hE1)) (HU.out.below (hEa.trans hE1))).mono ?_
                rw [HCV.out]
                rintro e w2 ⟨rfl, rfl⟩
                go_wp2_with fail
                go_roundw
                case rel => exact ⟨k + 1, by omega, by go_num, by go_num, HNX.out, by rw [Hid, HC2.out]; exact LastIs.of_ints (HT.out.below (hEa.trans hE1)) HCN.out, hE.trans (hEa.trans hE1)⟩
                case measure => simp [intOf]; omega
          · have hf : Ent.follows (l.take k) ⟨(k : Int) + 1, kd, c, tg, m, p⟩ = true := HFOL.out.2 ⟨hr, rfl, fun h => absurd h k1⟩
            have hnx := HNEXT.out
            rw [hf, if_pos rfl] at hnx
            have hcut2 := HCUT.out
            rw [if_neg k1] at hcut2
            have HNX := Lib.hid hnx
            have HC2 := Lib.hid hcut2
            clear hr hf hnx hcut2
            have hkb : (kd == 1) = false := beq_eq_false_iff_ne.2 k1
            go_wp2_with fail
            refine (right5_any _ ⟨(k : Int) + 1, kd, c, tg, m, p⟩ _ (HI.out.below hEa)).mono ?_
            rw [HR.out]
            rintro e w1 ⟨rfl, hE1⟩
            have x1 := Lib.hid (HX.out.ext hE1)
            obtain ⟨c0, c1, c2, c3, c4, c5⟩ := x1.out.cells
            go_wp2_with fail
            go_roundw
            case rel => exact ⟨k + 1, by omega, by go_num, by go_num, HNX.out, by rw [Hid, HC2.out]; exact hlast.out.ext (hEa.trans hE1), hE.trans (hEa.trans hE1)⟩
            case measure => simp [intOf]; omega
      · have HC := Lib.hid (HN0.out fun h => hn (HFOL.out.1 h).2.1)
        go_wp2_with fail
        (try rw [Exit.noGoto_ret])
        go_ret2
        exact ⟨_, by rw [HC.out]; rfl, by rw [HC.out]; exact hlast.out.ext hEa, hE.trans hEa⟩
    · obtain rfl : k = l.length := by omega
      have HC := Lib.hid (Ent.chain_end hch.out)
      obtain ⟨au, nu, ku, rfl⟩ := LastIs.isSlice hlast.out
      go_wp2_with fail
      (try rw [Exit.noGoto_ret])
      go_ret2
      exact ⟨_, by rw [HC.out]; rfl, by rw [HC.out]; exact hlast.out, hE⟩
/- Layer 5: how many entries follow one another, and the last cut: the program; may an entry stand behind others: the document's own answer. -/
set_option maxHeartbeats 2000000 in
theorem chain5_any (v : Value) (l : List Ent.E) (w : World) (hv : Ents w v l) :
    Calls Tryz.prog 92 #[v] w fun x w' => x = .returned (.int .i64 (Ent.chain l : Int)) ∧ Ext w w' := by
  have HV := Lib.hid hv
  obtain ⟨a, cap, rfl, hcap, hmax⟩ := hv.shape
  clear hv
  go_enter Tryz.func92, Tryz.ntmps92
  go_wp2_with fail
  refine (follow5_any _ l _ HV.out).mono ?_
  unfold Follows5
  rintro e w1 ⟨u, rfl, hl, hE⟩
  obtain ⟨au, nu, ku, rfl⟩ := hl.isSlice
  clear hl
  go_wp2_with fail
  go_ret
  exact ⟨rfl, hE⟩

/- Layer 5: may an entry stand behind others: the document's own answer. -/
theorem Ent.follows_of (d : List Ent.E) (e : Ent.E) (h1 : Ent.right e = true) (h2 : e.number = (d.length : Int) + 1) : Ent.follows d e = (!decide (e.kind = 1) || Ent.coversLast (Ent.lastCut d) e.cut) := by
  unfold Ent.follows
  rw [h1, decide_eq_true h2]
  rfl

set_option maxHeartbeats 8000000 in
theorem refFollows5_any (v u : Value) (l : List Ent.E) (e : Ent.E) (w : World) (hv : Ents w v l) (hu : IsEnt w u e) (hl : l.length ≤ 4611686018427387904) :
    Calls Tryz.prog 76 #[v, u] w fun x w' => x = .returned (.bool (Ent.follows l e)) ∧ Ext w w' := by
  have hbx := box_entR
  have hr5 := fun w1 hv => refRight5_any u e w1 hv
  have HV := Lib.hid hv
  have HU := Lib.hid hu
  obtain ⟨a, cap, rfl, hcap, hmax⟩ := hv.shape
  obtain ⟨u, rfl, ht⟩ := hu
  obtain ⟨n, k, c, t, m, p⟩ := e
  unfold entV at *
  simp only at ht hr5 ⊢
  obtain ⟨a2, cap2, rfl, hcap2, hmax2, _, _⟩ := ht.open
  unfold maxLen at hmax2
  have HT := Lib.hid ht
  clear ht hv
  have hE0 : Ext w (w.alloc (.cells #[.int .i64 n, .int .i64 k, .slice a2 c.length cap2, .int .i64 t, .int .i64 m, .int .i64 p] 54)) := Ext.alloc _ _
  have HX0 := Lib.hid (EntAt.new 54 w (.slice a2 c.length cap2) ⟨n, k, c, t, m, p⟩)
  have hl63 : (l.length : Int) + 1 ≤ 9223372036854775807 := by omega
  cases hr : Ent.right ⟨n, k, c, t, m, p⟩ with
  | false =>
    have HF := Lib.hid (show Ent.follows l ⟨n, k, c, t, m, p⟩ = false by unfold Ent.follows; rw [hr]; rfl)
    have HR := Lib.hid hr
    clear hr
    go_enter Tryz.func76, Tryz.ntmps76
    go_wp2_with fail
    refine (hr5 _ (HU.out.below hE0)).mono ?_
    rw [HR.out]
    rintro e w1 ⟨rfl, hE1⟩
    go_wp2_with fail
    go_ret
    exact ⟨by rw [HF.out]; rfl, hE0.trans hE1⟩
  | true =>
    by_cases hn : n = (l.length : Int) + 1
    · subst hn
      have HF := Lib.hid (Ent.follows_of l _ hr rfl)
      have HR := Lib.hid hr
      clear hr
      go_enter Tryz.func76, Tryz.ntmps76
      go_wp2_with fail
      refine (hr5 _ (HU.out.below hE0)).mono ?_
      rw [HR.out]
      rintro e w1 ⟨rfl, hE1⟩
      have HX := Lib.hid (HX0.out.ext hE1)
      obtain ⟨c0, c1, c2, c3, c4, c5⟩ := HX.out.cells
      have e1 := hE0.trans hE1
      go_wp2_with fail
      generalize hq : w.heap.size = q at *
      have HQ := Lib.hid hq
      clear hq c0 c1 c2 c3 c4 c5
      go_loopw [5] (fun i wr => ∃ j : Nat, j ≤ l.length ∧ i = .int .i64 (prevI j) ∧ Hid (∀ x ∈ l.drop j, x.kind ≠ 1) ∧ Ext w1 wr) (fun i _ => (intOf i + 1).toNat)
      case atStart => exact ⟨l.length, Nat.le_refl _, by unfold prevI; rfl, Lib.hid (fun x hx => by rw [List.drop_length] at hx; cases hx), Ext.refl _⟩
      case round =>
        obtain ⟨j, hj, rfl, hbe, hE⟩ := hrel
        obtain ⟨c0, c1, c2, c3, c4, c5⟩ := (HX.out.ext hE).cells
        by_cases k1 : k = 1
        · subst k1
          cases j with
          | zero =>
            have hi : prevI 0 = -1 := rfl
            rw [hi]
            have HG := Lib.hid (show Ent.follows l ⟨(l.length : Int) + 1, 1, c, t, m, p⟩ = true by rw [HF.out, Ent.lastCut_drop hbe.out]; rfl)
            go_wp2_with fail
            go_ret
            exact ⟨by rw [HG.out]; rfl, e1.trans hE⟩
          | succ j =>
            have hi : prevI (j + 1) = (j : Int) := by unfold prevI; omega
            rw [hi]
            have hi2 : ∀ x : Value, x = .int .i64 ((j : Int) - 1) → x = .int .i64 (prevI j) := fun x h => h
            have hlt : j < l.length := by omega
            obtain ⟨a', cap', e', _, _, _, hc⟩ := HV.out.below (e1.trans hE)
            obtain ⟨b, off, rfl, tj, p0, p1, p2, p3, p4, p5, htj⟩ := hc j hlt
            injection e' with e1' e2' e3'
            subst e1'
            clear hc e2' e3'
            obtain ⟨a3, cap3, rfl, hcap3, hmax3, _, _⟩ := htj.open
            have hat := fun hk => Ent.lastCut_at l j hlt hk hbe.out
            have hdk := fun hk => Ent.drop_kinds hlt hk hbe.out
            have HTJ := Lib.hid htj
            generalize l[j] = R at *
            obtain ⟨nj, kj, cj, tgj, mj, pj⟩ := R
            simp only at *
            have HAT := Lib.hid hat
            have HDK := Lib.hid hdk
            clear hat hdk htj
            by_cases kj1 : kj = 1
            · subst kj1
              have HG := Lib.hid (show Ent.follows l ⟨(l.length : Int) + 1, 1, c, t, m, p⟩ = Vec.covers c cj by rw [HF.out, HAT.out rfl]; rfl)
              obtain ⟨V, hV⟩ : ∃ V, Vec.covers c cj = V := ⟨_, rfl⟩
              have HVV := Lib.hid hV
              clear hV
              have HEnt := Lib.hid (HX.out.ext hE)
              have HP2 := Lib.hid p2
              have hlt2 : b < wr.heap.size := World.block_lt_of_cell? _ _ p2
              have HC := Lib.hid (HT.out.below (e1.trans hE))
              go_wp2_with fail
              clear c0 c1 c2 c3 c4 c5 p0 p1 p2 p3 p4 p5
              refine wp_region_facts (by kernel_rfl) Ext (fun iop v w => match iop with
                  | 0 => v = .pointer (some ⟨q, 2, none⟩)
                  | 1 => v = .slice a2 c.length cap2
                  | 2 => v = .slice (some ⟨b, off, none⟩) l.length cap
                  | 3 => v = .int .i64 (j : Int)
                  | 4 => v = .pointer (some ⟨b, off + j * 6, none⟩)
                  | 5 => v = .pointer (some ⟨b, off + j * 6 + 2, none⟩)
                  | 6 => v = .slice a3 cj.length cap3
                  | 7 => v = .bool V
                  | _ => v = .bool V
                  ) (by kernel_rfl) (fun _ _ _ h k => Ext.trans h k) (fun a => Ext.refl a) (Ext.drew _) ?_ ?_ ?_
              · intro iop v wa wb hF hL
                iterate 8 (rcases iop with _ | iop; exact hF)
                exact hF
              · refine Obls.cons ?_ (Obls.cons ?_ (Obls.cons ?_ (Obls.cons ?_ (Obls.cons ?_ (Obls.cons ?_ (Obls.cons ?_ (Obls.cons ?_ (Obls.cons ?_ (Obls.nil)))))))))
                · intro ev wy hp hl hk hd
                  have e3 : ev (.tmp 3) = .pointer (some ⟨q, 0, none⟩) := hk 3 (by decide)
                  clear hk hd
                  exact Yield.op (v := .pointer (some ⟨q, 2, none⟩)) (w' := wy) (by simp [execOp, go_sem, e3]) ⟨Ext.refl _, rfl⟩
                · intro ev wy hp hl hk hd
                  have e35 : ev (.tmp 35) = .pointer (some ⟨q, 2, none⟩) := hk 35 (by decide)
                  clear hk hd
                  exact Yield.load rfl e35 (ldInts (HEnt.out.ext hl).cells.2.2.1) ⟨Ext.refl _, rfl⟩
                · intro ev wy hp hl hk hd
                  have e0 : ev (.tmp 0) = .slice (some ⟨b, off, none⟩) l.length cap := hk 0 (by decide)
                  clear hk hd
                  exact Yield.mv rfl ⟨Ext.refl _, e0⟩
                · intro ev wy hp hl hk hd
                  have e5 : ev (.tmp 5) = .int .i64 (j : Int) := hk 5 (by decide)
                  clear hk hd
                  exact Yield.mv rfl ⟨Ext.refl _, e5⟩
                · intro ev wy hp hl hk hd
                  have e37 : ev (.tmp 37) = .slice (some ⟨b, off, none⟩) l.length cap := hk 37 (by decide)
                  have e38 : ev (.tmp 38) = .int .i64 (j : Int) := hk 38 (by decide)
                  clear hk hd
                  exact Yield.op (w' := wy) (by simp [execOp, go_sem, e37, e38]; intro h; omega) ⟨Ext.refl _, rfl⟩
                · intro ev wy hp hl hk hd
                  have e39 : ev (.tmp 39) = .pointer (some ⟨b, off + j * 6, none⟩) := hk 39 (by decide)
                  clear hk hd
                  exact Yield.op (v := .pointer (some ⟨b, off + j * 6 + 2, none⟩)) (w' := wy) (by simp [execOp, go_sem, e39]) ⟨Ext.refl _, rfl⟩
                · intro ev wy hp hl hk hd
                  have e40 : ev (.tmp 40) = .pointer (some ⟨b, off + j * 6 + 2, none⟩) := hk 40 (by decide)
                  clear hk hd
                  exact Yield.load rfl e40 (ldInts ((hl.cell (p := ⟨b, off + j * 6 + 2, none⟩) hlt2).trans HP2.out)) ⟨Ext.refl _, rfl⟩
                · intro ev wy hp hl hk hd
                  have e36 : ev (.tmp 36) = .slice a2 c.length cap2 := hk 36 (by decide)
                  have e41 : ev (.tmp 41) = .slice a3 cj.length cap3 := hk 41 (by decide)
                  clear hk hd
                  refine Yield.call rfl hp Tryz.func122 rfl (by kernel_rfl) ?_
                  simp only [List.map_toArray, List.map_cons, List.map_nil, e36, e41]
                  exact ((HVV.out ▸ refCovers_any _ _ c cj wy (HC.out.below hl) (HTJ.out.below hl))).mono fun _ _ ⟨he, hb⟩ => ⟨_, he, hb, by first | rfl | simp⟩
                · intro ev wy hp hl hk hd
                  have e42 : ev (.tmp 42) = .bool V := hk 42 (by decide)
                  clear hk hd
                  exact Yield.as rfl ⟨Ext.refl _, e42⟩
              · intro vals wz hz hv
                have g35 : vals 0 = .pointer (some ⟨q, 2, none⟩) := hv 0 (by decide)
                have g36 : vals 1 = .slice a2 c.length cap2 := hv 1 (by decide)
                have g37 : vals 2 = .slice (some ⟨b, off, none⟩) l.length cap := hv 2 (by decide)
                have g38 : vals 3 = .int .i64 (j : Int) := hv 3 (by decide)
                have g39 : vals 4 = .pointer (some ⟨b, off + j * 6, none⟩) := hv 4 (by decide)
                have g40 : vals 5 = .pointer (some ⟨b, off + j * 6 + 2, none⟩) := hv 5 (by decide)
                have g41 : vals 6 = .slice a3 cj.length cap3 := hv 6 (by decide)
                have g42 : vals 7 = .bool V := hv 7 (by decide)
                have g4 : vals 8 = .bool V := hv 8 (by decide)
                clear hv
                simp only [putAll, Act.put, List.setIfInBounds_toArray, List.set_cons_zero, List.set_cons_succ, g35, g36, g37, g38, g39, g40, g41, g42, g4]
                clear g35
                clear g36
                clear g37
                clear g38
                clear g39
                clear g40
                clear g41
                clear g42
                clear g4
                go_wp2_with fail
                go_ret
                exact ⟨by rw [HG.out, HVV.out]; rfl, (e1.trans hE).trans hz⟩
            · have hkb : (kj == 1) = false := beq_eq_false_iff_ne.2 kj1
              have HD := Lib.hid (HDK.out kj1)
              go_wp2_with fail
              go_roundw
              case rel => exact ⟨j, by omega, hi2 _ (by go_num), HD, hE⟩
              case measure => simp [intOf]
        · have hkb : (k == 1) = false := beq_eq_false_iff_ne.2 k1
          have HG := Lib.hid (show Ent.follows l ⟨(l.length : Int) + 1, k, c, t, m, p⟩ = true by rw [HF.out, decide_eq_false k1]; rfl)
          cases j with
          | zero =>
            have hi : prevI 0 = -1 := rfl
            rw [hi]
            go_wp2_with fail
            go_ret
            exact ⟨by rw [HG.out]; rfl, e1.trans hE⟩
          | succ j =>
            have hi : prevI (j + 1) = (j : Int) := by unfold prevI; omega
            rw [hi]
            go_wp2_with fail
            go_ret
            exact ⟨by rw [HG.out]; rfl, e1.trans hE⟩
    · have HF := Lib.hid (show Ent.follows l ⟨n, k, c, t, m, p⟩ = false by unfold Ent.follows; rw [decide_eq_false hn]; simp)
      have hnb : (n != (l.length : Int) + 1) = true := by simp [hn]
      clear hl63
      have HR := Lib.hid hr
      clear hr
      go_enter Tryz.func76, Tryz.ntmps76
      go_wp2_with fail
      refine (hr5 _ (HU.out.below hE0)).mono ?_
      rw [HR.out]
      rintro e w1 ⟨rfl, hE1⟩
      obtain ⟨c0, c1, c2, c3, c4, c5⟩ := (HX0.out.ext hE1).cells
      go_wp2_with fail
      go_ret
      exact ⟨by rw [HF.out]; rfl, hE0.trans hE1⟩
/- Layer 5: how many entries follow one another, and the last cut: the document's own answers. -/
/-- s[:h], the elements of any size. -/
theorem ldEntR {w : World} {b o : Nat} {n k t m p : Int} {u : Value} (h : ∃ a n c, u = .slice a n c) (p0 : w.cell? ⟨b, o, none⟩ = some (.int .i64 n)) (p1 : w.cell? ⟨b, o + 1, none⟩ = some (.int .i64 k)) (p2 : w.cell? ⟨b, o + 2, none⟩ = some u) (p3 : w.cell? ⟨b, o + 3, none⟩ = some (.int .i64 t)) (p4 : w.cell? ⟨b, o + 4, none⟩ = some (.int .i64 m)) (p5 : w.cell? ⟨b, o + 5, none⟩ = some (.int .i64 p)) :
    (Instr.loadAt 54 (.pointer (some ⟨b, o, none⟩))).run Tryz.prog w = .ok (.agg #[.int .i64 n, .int .i64 k, u, .int .i64 t, .int .i64 m, .int .i64 p]) w := by
  obtain ⟨a, x, c, rfl⟩ := h
  simp [go_sem, p0, p1, p2, p3, p4, p5]

set_option maxHeartbeats 8000000 in
theorem refChain5_any (v : Value) (l : List Ent.E) (w : World) (hv : Ents w v l) (hl : l.length ≤ 4611686018427387904) :
    Calls Tryz.prog 30 #[v] w fun x w' => x = .returned (.int .i64 (Ent.chain l : Int)) ∧ Ext w w' := by
  have HV := Lib.hid hv
  obtain ⟨a, cap, rfl, hcap, hmax⟩ := hv.shape
  clear hv
  go_enter Tryz.func30, Tryz.ntmps30
  go_wp2_with fail
  go_loopw [3] (fun n wr => ∃ k : Nat, k ≤ l.length ∧ n = .int .i64 k ∧ Hid (Ent.chain (l.take k) = k) ∧ Ext w wr) (fun n _ => l.length - (intOf n).toNat)
  case atStart => exact ⟨0, by omega, rfl, rfl, Ext.refl _⟩
  case round =>
    obtain ⟨k, hk, rfl, hch, hE⟩ := hrel
    by_cases hlt : k < l.length
    · have HVR := HV.out.below hE
      have HVR2 := Lib.hid (HVR.take k hk)
      obtain ⟨a', cap', e', _, _, _, hc⟩ := HVR
      obtain ⟨b, off, rfl, t, p0, p1, p2, p3, p4, p5, ht⟩ := hc k hlt
      injection e' with e1' e2' e3'
      subst e1' e3'
      have hnext := Ent.chain_next hlt hch.out
      have hstop := fun h => Ent.chain_stop hlt hch.out h
      obtain ⟨a2, cap2, rfl, hcap2, hmax2, _, _⟩ := ht.open
      have hb := World.block_lt_of_cell? _ _ p0
      have key : ∀ w', Ext wr w' → ∀ i, w'.cell? ⟨b, i, none⟩ = wr.cell? ⟨b, i, none⟩ := fun w' h i => h.cell (p := ⟨b, i, none⟩) hb
      have HLD := Lib.hid (show ∀ w', Ext wr w' → (Instr.loadAt 54 (.pointer (some ⟨b, off + k * 6, none⟩))).run Tryz.prog w' = .ok (.agg #[.int .i64 l[k].number, .int .i64 l[k].kind, .slice a2 l[k].cut.length cap2, .int .i64 l[k].tag, .int .i64 l[k].term, .int .i64 l[k].pos]) w' from fun w' h => ldEntR ⟨_, _, _, rfl⟩ ((key w' h _).trans p0) ((key w' h _).trans p1) ((key w' h _).trans p2) ((key w' h _).trans p3) ((key w' h _).trans p4) ((key w' h _).trans p5))
      have HI := Lib.hid (show IsEnt wr (.agg #[.int .i64 l[k].number, .int .i64 l[k].kind, .slice a2 l[k].cut.length cap2, .int .i64 l[k].tag, .int .i64 l[k].term, .int .i64 l[k].pos]) l[k] from ⟨_, rfl, ht⟩)
      clear key p0 p1 p2 p3 p4 p5 hc ht e2'
      generalize l[k] = R at *
      obtain ⟨n, kd, c, tg, m, p⟩ := R
      simp only at *
      obtain ⟨F, hF⟩ : ∃ F, Ent.follows (l.take k) ⟨n, kd, c, tg, m, p⟩ = F := ⟨_, rfl⟩
      rw [hF] at hnext hstop
      have HF := Lib.hid hF
      have HNEXT := Lib.hid hnext
      have HSTOP := Lib.hid hstop
      have hsl : ∀ wy : World, (Instr.sliceAt 63 (.slice (some ⟨b, off, none⟩) l.length cap) none (some (.int .i64 (k : Int))) none).run Tryz.prog wy = .ok (.slice (some ⟨b, off, none⟩) k cap) wy := fun wy => runTo (size := 6) Tryz.underlying63 (by kernel_rfl) k (by omega) .i64
      have hlk : (l.take k).length ≤ 4611686018427387904 := by rw [List.length_take]; omega
      clear hF hnext hstop
      go_wp2_with fail
      refine wp_region_facts (by kernel_rfl) Ext (fun iop v w => match iop with
          | 0 => v = .int .i64 (k : Int)
          | 1 => v = .slice (some ⟨b, off, none⟩) l.length cap
          | 2 => v = .int .i64 (l.length : Int)
          | 3 => v = .bool true
          | 4 => v = .bool true
          | 5 => v = .slice (some ⟨b, off, none⟩) l.length cap
          | 6 => v = .int .i64 (k : Int)
          | 7 => v = .slice (some ⟨b, off, none⟩) k cap
          | 8 => v = .slice (some ⟨b, off, none⟩) l.length cap
          | 9 => v = .int .i64 (k : Int)
          | 10 => v = .pointer (some ⟨b, off + k * 6, none⟩)
          | 11 => v = .agg #[.int .i64 n, .int .i64 kd, .slice a2 c.length cap2, .int .i64 tg, .int .i64 m, .int .i64 p]
          | 12 => v = .bool F
          | _ => v = .bool F
          ) (by kernel_rfl) (fun _ _ _ h k => Ext.trans h k) (fun a => Ext.refl a) (Ext.drew _) ?_ ?_ ?_
      · intro iop v wa wb hF hL
        iterate 13 (rcases iop with _ | iop; exact hF)
        exact hF
      · refine Obls.cons ?_ (Obls.cons ?_ (Obls.cons ?_ (Obls.cons ?_ (Obls.cons ?_ (Obls.cons ?_ (Obls.cons ?_ (Obls.cons ?_ (Obls.cons ?_ (Obls.cons ?_ (Obls.cons ?_ (Obls.cons ?_ (Obls.cons ?_ (Obls.cons ?_ (Obls.nil))))))))))))))
        · intro ev wy hp hl hk hd
          have e3 : ev (.tmp 3) = .int .i64 (k : Int) := hk 3 (by decide)
          clear hk hd
          exact Yield.mv rfl ⟨Ext.refl _, e3⟩
        · intro ev wy hp hl hk hd
          have e0 : ev (.tmp 0) = .slice (some ⟨b, off, none⟩) l.length cap := hk 0 (by decide)
          clear hk hd
          exact Yield.mv rfl ⟨Ext.refl _, e0⟩
        · intro ev wy hp hl hk hd
          have e5 : ev (.tmp 5) = .slice (some ⟨b, off, none⟩) l.length cap := hk 5 (by decide)
          clear hk hd
          exact Yield.op (v := .int .i64 (l.length : Int)) (w' := wy) (by simp [execOp, go_sem, e5]) ⟨Ext.refl _, rfl⟩
        · intro ev wy hp hl hk hd
          have e4 : ev (.tmp 4) = .int .i64 (k : Int) := hk 4 (by decide)
          have e6 : ev (.tmp 6) = .int .i64 (l.length : Int) := hk 6 (by decide)
          clear hk hd
          exact Yield.op (w' := wy) (by simp [execOp, go_sem, e4, e6]; omega) ⟨Ext.refl _, rfl⟩
        · intro ev wy hp hl hk hd
          have e7 : ev (.tmp 7) = .bool true := hk 7 (by decide)
          clear hk hd
          exact Yield.mv rfl ⟨Ext.refl _, e7⟩
        · intro ev wy hp hl hk hd
          have e0 : ev (.tmp 0) = .slice (some ⟨b, off, none⟩) l.length cap := hk 0 (by decide)
          clear hk
          refine ⟨fun _ _ _ => ?_, fun _ hx hne => absurd hx hne⟩
          clear hd
          exact Yield.mv rfl ⟨Ext.refl _, e0⟩
        · intro ev wy hp hl hk hd
          have e3 : ev (.tmp 3) = .int .i64 (k : Int) := hk 3 (by decide)
          clear hk
          refine ⟨fun _ _ _ => ?_, fun _ hx hne => absurd hx hne⟩
          clear hd
          exact Yield.mv rfl ⟨Ext.refl _, e3⟩
        · intro ev wy hp hl hk hd
          have e9 : ev (.tmp 9) = .slice (some ⟨b, off, none⟩) l.length cap := hk 9 (by decide)
          have e10 : ev (.tmp 10) = .int .i64 (k : Int) := hk 10 (by decide)
          clear hk
          refine ⟨fun _ _ _ => ?_, fun _ hx hne => absurd hx hne⟩
          clear hd
          exact Yield.op (w' := wy) (by simp [execOp, go_sem, e9, e10, hsl]) ⟨Ext.refl _, rfl⟩
        · intro ev wy hp hl hk hd
          have e0 : ev (.tmp 0) = .slice (some ⟨b, off, none⟩) l.length cap := hk 0 (by decide)
          clear hk
          refine ⟨fun _ _ _ => ?_, fun _ hx hne => absurd hx hne⟩
          clear hd
          exact Yield.mv rfl ⟨Ext.refl _, e0⟩
        · intro ev wy hp hl hk hd
          have e3 : ev (.tmp 3) = .int .i64 (k : Int) := hk 3 (by decide)
          clear hk
          refine ⟨fun _ _ _ => ?_, fun _ hx hne => absurd hx hne⟩
          clear hd
          exact Yield.mv rfl ⟨Ext.refl _, e3⟩
        · intro ev wy hp hl hk hd
          have e12 : ev (.tmp 12) = .slice (some ⟨b, off, none⟩) l.length cap := hk 12 (by decide)
          have e13 : ev (.tmp 13) = .int .i64 (k : Int) := hk 13 (by decide)
          clear hk
          refine ⟨fun _ _ _ => ?_, fun _ hx hne => absurd hx hne⟩
          clear hd
          exact Yield.op (w' := wy) (by simp [execOp, go_sem, e12, e13]; intro h; omega) ⟨Ext.refl _, rfl⟩
        · intro ev wy hp hl hk hd
          have e14 : ev (.tmp 14) = .pointer (some ⟨b, off + k * 6, none⟩) := hk 14 (by decide)
          clear hk
          refine ⟨fun _ _ _ => ?_, fun _ hx hne => absurd hx hne⟩
          clear hd
          exact Yield.load rfl e14 (HLD.out _ hl) ⟨Ext.refl _, rfl⟩
        · intro ev wy hp hl hk hd
          have e11 : ev (.tmp 11) = .slice (some ⟨b, off, none⟩) k cap := hk 11 (by decide)
          have e15 : ev (.tmp 15) = .agg #[.int .i64 n, .int .i64 kd, .slice a2 c.length cap2, .int .i64 tg, .int .i64 m, .int .i64 p] := hk 15 (by decide)
          clear hk
          refine ⟨fun _ _ _ => ?_, fun _ hx hne => absurd hx hne⟩
          clear hd
          refine Yield.call rfl hp Tryz.func76 rfl (by kernel_rfl) ?_
          simp only [List.map_toArray, List.map_cons, List.map_nil, e11, e15]
          exact ((HF.out ▸ refFollows5_any _ _ (l.take k) ⟨n, kd, c, tg, m, p⟩ wy (HVR2.out.below hl) (HI.out.below hl) hlk)).mono fun _ _ ⟨he, hb⟩ => ⟨_, he, hb, by first | rfl | simp⟩
        · intro ev wy hp hl hk hd
          have e8 : ev (.tmp 8) = .bool true := hk 8 (by decide)
          have e16 : ev (.tmp 16) = .bool F := hk 16 (by decide)
          clear hk hd
          exact Yield.pick (t := true) rfl e8 ⟨Ext.refl _, e16⟩
      · intro vals wz hz hv
        have g4 : vals 0 = .int .i64 (k : Int) := hv 0 (by decide)
        have g5 : vals 1 = .slice (some ⟨b, off, none⟩) l.length cap := hv 1 (by decide)
        have g6 : vals 2 = .int .i64 (l.length : Int) := hv 2 (by decide)
        have g7 : vals 3 = .bool true := hv 3 (by decide)
        have g8 : vals 4 = .bool true := hv 4 (by decide)
        have g9 : vals 5 = .slice (some ⟨b, off, none⟩) l.length cap := hv 5 (by decide)
        have g10 : vals 6 = .int .i64 (k : Int) := hv 6 (by decide)
        have g11 : vals 7 = .slice (some ⟨b, off, none⟩) k cap := hv 7 (by decide)
        have g12 : vals 8 = .slice (some ⟨b, off, none⟩) l.length cap := hv 8 (by decide)
        have g13 : vals 9 = .int .i64 (k : Int) := hv 9 (by decide)
        have g14 : vals 10 = .pointer (some ⟨b, off + k * 6, none⟩) := hv 10 (by decide)
        have g15 : vals 11 = .agg #[.int .i64 n, .int .i64 kd, .slice a2 c.length cap2, .int .i64 tg, .int .i64 m, .int .i64 p] := hv 11 (by decide)
        have g16 : vals 12 = .bool F := hv 12 (by decide)
        have g17 : vals 13 = .bool F := hv 13 (by decide)
        clear hv
        simp only [putAll, Act.put, List.setIfInBounds_toArray, List.set_cons_zero, List.set_cons_succ, g4, g5, g6, g7, g8, g9, g10, g11, g12, g13, g14, g15, g16, g17]
        clear g4
        clear g5
        clear g6
        clear g7
        clear g8
        clear g9
        clear g10
        clear g11
        clear g12
        clear g13
        clear g14
        clear g15
        clear g16
        clear g17
        have hE2 := hE.trans hz
        cases F with
        | true =>
          have hnx := HNEXT.out
          rw [if_pos rfl] at hnx
          have HNX := Lib.hid hnx
          clear hnx
          go_wp2_with fail
          go_roundw
          case rel => exact ⟨k + 1, by omega, by go_num, HNX.out, hE2⟩
          case measure => simp [intOf]; omega
        | false =>
          have HC := Lib.hid (HSTOP.out rfl)
          go_wp2_with fail
          go_ret
          exact ⟨by rw [HC.out]; rfl, hE2⟩
    · obtain rfl : k = l.length := by omega
      have HC := Lib.hid (Ent.chain_end hch.out)
      go_wp2_with fail
      refine wp_region_facts (by kernel_rfl) Ext (fun iop v w => match iop with
          | 0 => v = .int .i64 (l.length : Int)
          | 1 => v = .slice a l.length cap
          | 2 => v = .int .i64 (l.length : Int)
          | 3 => v = .bool false
          | 4 => v = .bool false
          | 5 => v = undef
          | 6 => v = undef
          | 7 => v = undef
          | 8 => v = undef
          | 9 => v = undef
          | 10 => v = undef
          | 11 => v = undef
          | 12 => v = undef
          | _ => v = .bool false
          ) (by kernel_rfl) (fun _ _ _ h k => Ext.trans h k) (fun a => Ext.refl a) (Ext.drew _) ?_ ?_ ?_
      · intro iop v wa wb hF hL
        iterate 13 (rcases iop with _ | iop; exact hF)
        exact hF
      · refine Obls.cons ?_ (Obls.cons ?_ (Obls.cons ?_ (Obls.cons ?_ (Obls.cons ?_ (Obls.cons ?_ (Obls.cons ?_ (Obls.cons ?_ (Obls.cons ?_ (Obls.cons ?_ (Obls.cons ?_ (Obls.cons ?_ (Obls.cons ?_ (Obls.cons ?_ (Obls.nil))))))))))))))
        · intro ev wy hp hl hk hd
          have e3 : ev (.tmp 3) = .int .i64 (l.length : Int) := hk 3 (by decide)
          clear hk hd
          exact Yield.mv rfl ⟨Ext.refl _, e3⟩
        · intro ev wy hp hl hk hd
          have e0 : ev (.tmp 0) = .slice a l.length cap := hk 0 (by decide)
          clear hk hd
          exact Yield.mv rfl ⟨Ext.refl _, e0⟩
        · intro ev wy hp hl hk hd
          have e5 : ev (.tmp 5) = .slice a l.length cap := hk 5 (by decide)
          clear hk hd
          exact Yield.op (v := .int .i64 (l.length : Int)) (w' := wy) (by simp [execOp, go_sem, e5]) ⟨Ext.refl _, rfl⟩
        · intro ev wy hp hl hk hd
          have e4 : ev (.tmp 4) = .int .i64 (l.length : Int) := hk 4 (by decide)
          have e6 : ev (.tmp 6) = .int .i64 (l.length : Int) := hk 6 (by decide)
          clear hk hd
          exact Yield.op (v := .bool false) (w' := wy) (by simp [execOp, go_sem, e4, e6]) ⟨Ext.refl _, rfl⟩
        · intro ev wy hp hl hk hd
          have e7 : ev (.tmp 7) = .bool false := hk 7 (by decide)
          clear hk hd
          exact Yield.mv rfl ⟨Ext.refl _, e7⟩
        · intro ev wy hp hl hk hd
          have e0 : ev (.tmp 0) = .slice a l.length cap := hk 0 (by decide)
          clear hk
          exact ⟨fun x hx he => (by rw [show x = .bool false from hx] at he; cases he), fun _ _ _ => rfl⟩
        · intro ev wy hp hl hk hd
          have e3 : ev (.tmp 3) = .int .i64 (l.length : Int) := hk 3 (by decide)
          clear hk
          exact ⟨fun x hx he => (by rw [show x = .bool false from hx] at he; cases he), fun _ _ _ => rfl⟩
        · intro ev wy hp hl hk hd
          have e9 : ev (.tmp 9) = undef := hk 9 (by decide)
          have e10 : ev (.tmp 10) = undef := hk 10 (by decide)
          clear hk
          exact ⟨fun x hx he => (by rw [show x = .bool false from hx] at he; cases he), fun _ _ _ => rfl⟩
        · intro ev wy hp hl hk hd
          have e0 : ev (.tmp 0) = .slice a l.length cap := hk 0 (by decide)
          clear hk
          exact ⟨fun x hx he => (by rw [show x = .bool false from hx] at he; cases he), fun _ _ _ => rfl⟩
        · intro ev wy hp hl hk hd
          have e3 : ev (.tmp 3) = .int .i64 (l.length : Int) := hk 3 (by decide)
          clear hk
          exact ⟨fun x hx he => (by rw [show x = .bool false from hx] at he; cases he), fun _ _ _ => rfl⟩
        · intro ev wy hp hl hk hd
          have e12 : ev (.tmp 12) = undef := hk 12 (by decide)
          have e13 : ev (.tmp 13) = undef := hk 13 (by decide)
          clear hk
          exact ⟨fun x hx he => (by rw [show x = .bool false from hx] at he; cases he), fun _ _ _ => rfl⟩
        · intro ev wy hp hl hk hd
          have e14 : ev (.tmp 14) = undef := hk 14 (by decide)
          clear hk
          exact ⟨fun x hx he => (by rw [show x = .bool false from hx] at he; cases he), fun _ _ _ => rfl⟩
        · intro ev wy hp hl hk hd
          have e11 : ev (.tmp 11) = undef := hk 11 (by decide)
          have e15 : ev (.tmp 15) = undef := hk 15 (by decide)
          clear hk
          exact ⟨fun x hx he => (by rw [show x = .bool false from hx] at he; cases he), fun _ _ _ => rfl⟩
        · intro ev wy hp hl hk hd
          have e8 : ev (.tmp 8) = .bool false := hk 8 (by decide)
          have e16 : ev (.tmp 16) = undef := hk 16 (by decide)
          clear hk hd
          exact Yield.pick (t := false) rfl e8 ⟨Ext.refl _, hp.const _⟩
      · intro vals wz hz hv
        have g4 : vals 0 = .int .i64 (l.length : Int) := hv 0 (by decide)
        have g5 : vals 1 = .slice a l.length cap := hv 1 (by decide)
        have g6 : vals 2 = .int .i64 (l.length : Int) := hv 2 (by decide)
        have g7 : vals 3 = .bool false := hv 3 (by decide)
        have g8 : vals 4 = .bool false := hv 4 (by decide)
        have g9 : vals 5 = undef := hv 5 (by decide)
        have g10 : vals 6 = undef := hv 6 (by decide)
        have g11 : vals 7 = undef := hv 7 (by decide)
        have g12 : vals 8 = undef := hv 8 (by decide)
        have g13 : vals 9 = undef := hv 9 (by decide)
        have g14 : vals 10 = undef := hv 10 (by decide)
        have g15 : vals 11 = undef := hv 11 (by decide)
        have g16 : vals 12 = undef := hv 12 (by decide)
        have g17 : vals 13 = .bool false := hv 13 (by decide)
        clear hv
        simp only [putAll, Act.put, List.setIfInBounds_toArray, List.set_cons_zero, List.set_cons_succ, g4, g5, g6, g7, g8, g9, g10, g11, g12, g13, g14, g15, g16, g17]
        clear g4
        clear g5
        clear g6
        clear g7
        clear g8
        clear g9
        clear g10
        clear g11
        clear g12
        clear g13
        clear g14
        clear g15
        clear g16
        clear g17
        go_wp2_with fail
        go_ret
        exact ⟨by rw [HC.out]; rfl, hE.trans hz⟩

/- Layer 5: entries of the program's, of the document's (the statements' own); a cut that is read as it was, and a chain. -/
/-- The cells of entries, each with its cut's slice. -/
def entFlat (ps : List (Value × Ent.E)) : List Value := ps.flatMap fun p => [.int .i64 p.2.number, .int .i64 p.2.kind, p.1, .int .i64 p.2.tag, .int .i64 p.2.term, .int .i64 p.2.pos]
theorem entFlat_append (ps qs : List (Value × Ent.E)) : entFlat (ps ++ qs) = entFlat ps ++ entFlat qs := by simp [entFlat]
theorem entFlat_length (ps : List (Value × Ent.E)) : (entFlat ps).length = ps.length * 6 := by
  induction ps with
  | nil => rfl
  | cons p ps ih =>
    simp only [entFlat, List.flatMap_cons, List.length_append, List.length_cons, List.length_nil] at ih ⊢
    omega
theorem entFlat_at : ∀ (ps : List (Value × Ent.E)) (i j : Nat) (hi : i < ps.length), j < 6 → (entFlat ps)[i * 6 + j]? = [Value.int .i64 ps[i].2.number, .int .i64 ps[i].2.kind, ps[i].1, .int .i64 ps[i].2.tag, .int .i64 ps[i].2.term, .int .i64 ps[i].2.pos][j]? := by
  intro ps
  induction ps with
  | nil => intro i j hi; exact absurd hi (by simp)
  | cons p ps ih =>
    intro i j hi hj
    unfold entFlat
    rw [List.flatMap_cons]
    cases i with
    | zero => rw [Nat.zero_mul, Nat.zero_add, List.getElem?_append_left (by simpa using hj)]; rfl
    | succ i =>
      rw [List.getElem?_append_right (by simp; omega)]
      have e : (i + 1) * 6 + j - [Value.int IntKind.i64 p.2.number, .int .i64 p.2.kind, p.1, .int .i64 p.2.tag, .int .i64 p.2.term, .int .i64 p.2.pos].length = i * 6 + j := by
        simp only [List.length_cons, List.length_nil]
        omega
      rw [e]
      exact ih i j (by simpa using hi) hj
theorem ents_of_flat {w : World} {v : Value} {ps : List (Value × Ent.E)} (h1 : ∀ p ∈ ps, Ints w p.1 p.2.cut) (h2 : SlN 6 w v ps.length (entFlat ps)) : Ents w v (ps.map (·.2)) := by
  obtain ⟨a, cap, rfl, q1, q2, q4, q5, q3⟩ := h2
  refine ⟨a, cap, by simp, by simpa using q1, q2, q4, fun i hi => ?_⟩
  have hi' : i < ps.length := by simpa using hi
  have hl := entFlat_length ps
  have cell : ∀ j, j < 6 → ∃ b off, a = some ⟨b, off, none⟩ ∧ w.cell? ⟨b, off + (i * 6 + j), none⟩ = [Value.int .i64 ps[i].2.number, .int .i64 ps[i].2.kind, ps[i].1, .int .i64 ps[i].2.tag, .int .i64 ps[i].2.term, .int .i64 ps[i].2.pos][j]? := by
    intro j hj
    obtain ⟨b, off, e, hc⟩ := q3 (i * 6 + j) (by omega)
    have hx := entFlat_at ps i j hi' hj
    rw [List.getElem?_eq_getElem (by omega)] at hx
    exact ⟨b, off, e, hc.trans hx⟩
  obtain ⟨b, off, rfl, k0⟩ := cell 0 (by omega)
  have same : ∀ j, j < 6 → w.cell? ⟨b, off + (i * 6 + j), none⟩ = [Value.int .i64 ps[i].2.number, .int .i64 ps[i].2.kind, ps[i].1, .int .i64 ps[i].2.tag, .int .i64 ps[i].2.term, .int .i64 ps[i].2.pos][j]? := by
    intro j hj
    obtain ⟨b', off', e, hc⟩ := cell j hj
    injection e with e
    injection e with e1 e2
    subst e1 e2
    exact hc
  refine ⟨b, off, rfl, ps[i].1, ?_⟩
  simp only [List.getElem_map]
  exact ⟨same 0 (by omega), same 1 (by omega), same 2 (by omega), same 3 (by omega), same 4 (by omega), same 5 (by omega), h1 _ (List.getElem_mem _)⟩
theorem entFlat_one {w : World} {ps : List (Value × Ent.E)} (h : ∀ p ∈ ps, Ints w p.1 p.2.cut) : ∀ y ∈ entFlat ps, y.oneCell' = true := by
  intro y hy
  unfold entFlat at hy
  rw [List.mem_flatMap] at hy
  obtain ⟨p, hp, hy⟩ := hy
  obtain ⟨a, n, c, e⟩ := Ints.isSlice (h p hp)
  simp only [List.mem_cons, List.not_mem_nil, or_false] at hy
  rcases hy with rfl | rfl | rfl | rfl | rfl | rfl
  · rfl
  · rfl
  · rw [e]; rfl
  · rfl
  · rfl
  · rfl
theorem tE : ElemN Tryz.prog 71 77 (.agg #[.int .i64 0, .int .i64 0, .slice none 0 0, .int .i64 0, .int .i64 0, .int .i64 0]) 6 64 := ⟨Tryz.underlying71, by kernel_rfl, rfl, by omega⟩

/-- A row of entries of the call's own: what it holds; the cuts' slices were there ahead of it. -/
def OwnEnts (w0 w : World) (base : Nat) (v : Value) (l : List Ent.E) : Prop := ∃ ps : List (Value × Ent.E), ps.map (·.2) = l ∧ (∀ p ∈ ps, Ints w0 p.1 p.2.cut) ∧ w.ownsRow base 77 6 v l.length (entFlat ps)
theorem OwnEnts.ents {w0 w : World} {base : Nat} {v : Value} {l : List Ent.E} (h : OwnEnts w0 w base v l) (hE : Ext w0 w) : Ents w v l := by
  obtain ⟨ps, rfl, h1, h2⟩ := h
  refine ents_of_flat (fun p hp => (h1 p hp).below hE) ?_
  have := SlN.ofOwn h2
  rwa [List.length_map] at this
theorem OwnEnts.nil (w0 w : World) (base : Nat) : OwnEnts w0 w base (.slice none 0 0) [] := ⟨[], rfl, by simp, World.ownsRow_nil _ _ _ _⟩
theorem OwnEnts.ext {w0 w w' : World} {base : Nat} {v : Value} {l : List Ent.E} (h : OwnEnts w0 w base v l) (hE : Ext w w') : OwnEnts w0 w' base v l := by
  obtain ⟨ps, h1, h2, h3⟩ := h
  exact ⟨ps, h1, h2, rowExt h3 hE⟩
theorem OwnEnts.isSlice {w0 w : World} {base : Nat} {v : Value} {l : List Ent.E} (h : OwnEnts w0 w base v l) : ∃ a c, v = .slice a l.length c := by
  obtain ⟨ps, h1, h2, h3⟩ := h
  rcases h3.2 with ⟨rfl, h0⟩ | ⟨g, c, cur, rfl, _⟩
  · rw [h0]; exact ⟨_, _, rfl⟩
  · exact ⟨_, _, rfl⟩
/-- A block with one entry in it. -/
theorem SlN.one6 (w : World) {T : TypeId} (u : Value) (e : Ent.E) : SlN 6 (w.alloc (.cells #[.int .i64 e.number, .int .i64 e.kind, u, .int .i64 e.tag, .int .i64 e.term, .int .i64 e.pos] T)) (.slice (some ⟨w.heap.size, 0, none⟩) 1 1) 1 (entFlat [(u, e)]) := by
  refine ⟨_, _, rfl, Nat.le_refl _, by simp [maxLen], fun e => by simp at e, rfl, fun j hj => ⟨_, _, rfl, ?_⟩⟩
  have hj6 : j < 6 := by simpa [entFlat] using hj
  rw [Nat.zero_add, World.cell?_alloc_mark]
  simp [entFlat]

/- slices.Clone at rows of entries. -/
theorem cloneE_any (v : Value) (ps : List (Value × Ent.E)) (w : World) (hv : SlN 6 w v ps.length (entFlat ps)) (h1 : ∀ y ∈ entFlat ps, y.oneCell' = true) (hl : ps.length ≤ 100000) :
    Calls Tryz.prog 65 #[v] w fun x w' => ∃ u, x = .returned u ∧ w'.ownsRow w.heap.size 77 6 u ps.length (entFlat ps) ∧ Ext w w' := by
  have hv0 := hv
  obtain ⟨a, cap, rfl, hcap, hmax, hn, hc, hcell⟩ := hv
  have e1 := fun (w : World) (a : Option Addr) (n c : Nat) => Lib.run_eql_slice_nil (P := Tryz.prog) w 71 77 a n c 0 0 Tryz.underlying71
  cases a with
  | none =>
    obtain rfl := hn rfl
    have : ps = [] := List.eq_nil_of_length_eq_zero (by omega)
    subst this
    clear hc hcell hv0
    go_enter Tryz.func65, Tryz.ntmps65
    go_wp2
    go_ret
    exact ⟨_, rfl, World.ownsRow_nil _ _ _ _, Below.refl _ _⟩
  | some ad =>
    have ti := tE
    clear hc hcell
    have hown0 : (w.alloc (.cells #[] 77)).ownsRow w.heap.size 77 6 (.slice (some ⟨w.heap.size, 0, none⟩) 0 0) 0 [] := World.ownsRow_made w #[] 0 (Nat.le_refl _) (by simp [maxLen]) (by simp)
    have hsl := hv0.below (Ext.alloc w (.cells #[] 77))
    have hc1 : 0 + ps.length ≤ maxLen := by unfold maxLen; omega
    have hc2 : (0 + ps.length) * 64 ≤ 140737488355328 := by omega
    go_enter Tryz.func65, Tryz.ntmps65
    go_wp2_with (first | (at_builtin; refine wpList_appN rfl (.tmp 5) (.tmp 6) ti rfl rfl rfl hown0 hsl h1 hc1 hc2 (by simp) ?_; intro v2 w2 hown2 hg2))
    go_ret
    exact ⟨_, rfl, by simpa using hown2, ((Below.refl _ w).alloc (Nat.le_refl _) _).grown hg2 (by simp) (fun k hk => (hown0.lt k hk).1)⟩
end Go.Proofs.YtckdofhcifdpmaaGreat
