/-
  Merged: Layer 5, mathematics: bytes as an entry, vectors read as the program and the document read them; Layer 5, the program: entries by value; Layer 5, the program: which entries may be; Layer 5: which entries may be: the document's own answer; Layer 5, the program: entries as bytes; Layer 5: entries as bytes: the document's own answer; Layer 5, mathematics: bytes as an entry, read part by part up to what each part may be: it is the same as to read, and to write again; Layer 5, the program: bytes as entries; Layer 5: whether two entries are one: the program, and the document's own answer.
-/
import Derived.Deep.RegionLaw
import Derived.Test.YtnfieadjjmpnkaaGreatBsMath
import Derived.Test.YtnfieadjjmpnkaaGreatBsMath2
import Derived.Test.YtnfieadjjmpnkaaGreatBsPack
import Derived.Test.YtnfieadjjmpnkaaGreatBsVec
import Derived.Test.YtnfieadjjmpnkaaGreatCrcPut
import Derived.Test.YtnfieadjjmpnkaaGreatCrcRef
import Derived.Test.YtnfieadjjmpnkaaGreatLibW

set_option linter.unusedSimpArgs false
set_option linter.unusedVariables false

/- Layer 5, mathematics: bytes as an entry, vectors read as the program and the document read them. -/
namespace Go.Proofs.YtnfieadjjmpnkaaGreat.Ent

/-- How a vector is read. -/
def vd (l : List UInt8) : List Int := orNone (decOk l) (decS l).2
end Go.Proofs.YtnfieadjjmpnkaaGreat.Ent

namespace Go.Proofs.YtnfieadjjmpnkaaGreat
set_option linter.unusedSimpArgs false
set_option linter.unusedVariables false
set_option maxRecDepth 100000
open Go.RowKit
/- Layer 5, the program: entries by value; which may be. -/
/-- An entry, by value: its cut's slice, and what it holds. -/
def entV (t : Value) (e : Ent.E) : Value := .agg #[.int .i64 e.number, .int .i64 e.kind, t, .int .i64 e.tag, .int .i64 e.term, .int .i64 e.pos]
def IsEnt (w : World) (v : Value) (e : Ent.E) : Prop := ∃ t, v = entV t e ∧ Ints w t e.cut
theorem IsEnt.below {w w' : World} {v : Value} {e : Ent.E} (h : IsEnt w v e) (hb : Below w.heap.size w w') : IsEnt w' v e := by
  obtain ⟨t, rfl, h⟩ := h
  exact ⟨t, rfl, h.below hb⟩
/-- An entry's value, opened. -/
theorem IsEnt.shape {w : World} {v : Value} {e : Ent.E} (h : IsEnt w v e) : ∃ a n c, v = .agg #[.int .i64 e.number, .int .i64 e.kind, .slice a n c, .int .i64 e.tag, .int .i64 e.term, .int .i64 e.pos] := by
  obtain ⟨t, rfl, ht⟩ := h
  obtain ⟨a, c, rfl, _⟩ := ht.open
  exact ⟨_, _, _, rfl⟩
/-- Block p is an entry (of the program's type, or of the document's). -/
def EntAt (T : TypeId) (w : World) (p : Nat) (t : Value) (e : Ent.E) : Prop := w.heap[p]? = some (.cells #[.int .i64 e.number, .int .i64 e.kind, t, .int .i64 e.tag, .int .i64 e.term, .int .i64 e.pos] T (0, 0))
theorem EntAt.new (T : TypeId) (w : World) (t : Value) (e : Ent.E) : EntAt T (w.alloc (.cells #[.int .i64 e.number, .int .i64 e.kind, t, .int .i64 e.tag, .int .i64 e.term, .int .i64 e.pos] T)) w.heap.size t e := heap_alloc_new w _
theorem EntAt.lt {T : TypeId} {w : World} {p : Nat} {t : Value} {e : Ent.E} (h : EntAt T w p t e) : p < w.heap.size := (Array.getElem?_eq_some_iff.1 h).1
theorem EntAt.ext {T : TypeId} {w w' : World} {p : Nat} {t : Value} {e : Ent.E} (h : EntAt T w p t e) (hE : Ext w w') : EntAt T w' p t e := (hE.block p h.lt).trans h
theorem EntAt.but {T : TypeId} {w w' : World} {p q : Nat} {t : Value} {e : Ent.E} (h : EntAt T w p t e) (hB : But q w w') (hne : p ≠ q) : EntAt T w' p t e := (hB.block p h.lt hne).trans h
theorem EntAt.cells {T : TypeId} {w : World} {p : Nat} {t : Value} {e : Ent.E} (h : EntAt T w p t e) : w.cell? ⟨p, 0, none⟩ = some (.int .i64 e.number) ∧ w.cell? ⟨p, 1, none⟩ = some (.int .i64 e.kind) ∧ w.cell? ⟨p, 2, none⟩ = some t ∧ w.cell? ⟨p, 3, none⟩ = some (.int .i64 e.tag) ∧ w.cell? ⟨p, 4, none⟩ = some (.int .i64 e.term) ∧ w.cell? ⟨p, 5, none⟩ = some (.int .i64 e.pos) :=
  ⟨cell_of_heap h 0, cell_of_heap h 1, cell_of_heap h 2, cell_of_heap h 3, cell_of_heap h 4, cell_of_heap h 5⟩

theorem box_ent (w : World) (n k t m p : Int) (v : Value) : (Instr.box 47 (.agg #[.int .i64 n, .int .i64 k, v, .int .i64 t, .int .i64 m, .int .i64 p])).run Tryz.prog w = .ok (.pointer (some ⟨w.heap.size, 0, none⟩)) (w.alloc (.cells #[.int .i64 n, .int .i64 k, v, .int .i64 t, .int .i64 m, .int .i64 p] 47)) := by kernel_rfl
theorem build_seq0 (w : World) : (Instr.build 29 #[]).run Tryz.prog w = .ok (.agg #[.int .i64 0, .int .i64 0]) w := by kernel_rfl

set_option maxHeartbeats 1000000 in
theorem isBetween5_any (n a b : Int) (w : World) : Calls Tryz.prog 137 #[.int .i64 n, .int .i64 a, .int .i64 b] w fun e w' => e = .returned (.bool (decide (a ≤ n ∧ n ≤ b))) ∧ w = w' := by
  by_cases h0 : a ≤ n
  · by_cases h1 : n ≤ b
    · have e : decide (a ≤ n ∧ n ≤ b) = true := by simp [h0, h1]
      rw [e]
      clear e
      go_enter Tryz.func137, Tryz.ntmps137
      go_wp2
      go_ret
      exact ⟨rfl, rfl⟩
    · have e : decide (a ≤ n ∧ n ≤ b) = false := by simp [h1]
      rw [e]
      clear e
      go_enter Tryz.func137, Tryz.ntmps137
      go_wp2
      go_ret
      exact ⟨rfl, rfl⟩
  · have e : decide (a ≤ n ∧ n ≤ b) = false := by simp [h0]
    rw [e]
    clear e
    go_enter Tryz.func137, Tryz.ntmps137
    go_wp2
    go_ret
    exact ⟨rfl, rfl⟩
/- Layer 5, the program: which entries may be. -/
theorem Ent.right_no {n k : Int} {c : List Int} {t m p : Int} (h : decide (1 ≤ n ∧ n ≤ 1099511627776) = false) : Ent.right ⟨n, k, c, t, m, p⟩ = false := by
  unfold Ent.right; simp only [h, Bool.false_and]
theorem Ent.right_one {n : Int} {c : List Int} {t m p : Int} (h : decide (1 ≤ n ∧ n ≤ 1099511627776) = true) : Ent.right ⟨n, 1, c, t, m, p⟩ = (Vec.right c && decide (t = 0 ∧ m = 0 ∧ p = 0)) := by
  unfold Ent.right Ent.rightCut Ent.rightTrim; simp only [h]; simp
theorem Ent.right_two {n : Int} {c : List Int} {t m p : Int} (h : decide (1 ≤ n ∧ n ≤ 1099511627776) = true) : Ent.right ⟨n, 2, c, t, m, p⟩ = (c.isEmpty && (decide (0 ≤ t ∧ t ≤ 1073741824) && (decide (1 ≤ m ∧ m ≤ 64) && decide (0 ≤ p ∧ p ≤ 1099511627776)))) := by
  unfold Ent.right Ent.rightCut Ent.rightTrim; simp only [h]; simp
theorem Ent.right_other {n k : Int} {c : List Int} {t m p : Int} (h1 : k ≠ 1) (h2 : k ≠ 2) : Ent.right ⟨n, k, c, t, m, p⟩ = false := by
  unfold Ent.right; simp [h1, h2]
theorem isEmpty_len (c : List Int) : c.isEmpty = decide ((c.length : Int) = 0) := by
  cases c with
  | nil => rfl
  | cons x c => simp; omega

set_option maxHeartbeats 4000000 in
theorem right5_any (v : Value) (e : Ent.E) (w : World) (hv : IsEnt w v e) :
    Calls Tryz.prog 99 #[v] w fun x w' => x = .returned (.bool (Ent.right e)) ∧ Ext w w' := by
  have hbx := box_ent
  have hb0 := build_seq0
  obtain ⟨u, rfl, hu⟩ := hv
  obtain ⟨n, k, c, t, m, p⟩ := e
  unfold entV
  simp only at hu ⊢
  have HU := Lib.hid hu
  obtain ⟨a, cap, rfl, hcap, hmax, _, _⟩ := hu.open
  unfold maxLen at hmax
  clear hu
  have hE0 : Ext w (w.alloc (.cells #[.int .i64 n, .int .i64 k, .slice a c.length cap, .int .i64 t, .int .i64 m, .int .i64 p] 47)) := Ext.alloc _ _
  cases hn : decide (1 ≤ n ∧ n ≤ 1099511627776) with
  | false =>
    have HN := Lib.hid hn
    have HR := Lib.hid (Ent.right_no (k := k) (c := c) (t := t) (m := m) (p := p) hn)
    clear hn
    go_enter Tryz.func99, Tryz.ntmps99
    go_wp2_with fail
    refine (isBetween5_any _ _ _ _).mono ?_
    rw [HN.out]
    rintro e w1 ⟨rfl, rfl⟩
    go_wp2_with fail
    go_ret
    exact ⟨by rw [HR.out]; rfl, hE0⟩
  | true =>
    by_cases k1 : k = 1
    · subst k1
      have HN := Lib.hid hn
      have HR := Lib.hid (Ent.right_one (c := c) (t := t) (m := m) (p := p) hn)
      clear hn
      cases hv : Vec.right c with
      | false =>
        have HV := Lib.hid hv
        clear hv
        go_enter Tryz.func99, Tryz.ntmps99
        go_wp2_with fail
        refine (isBetween5_any _ _ _ _).mono ?_
        rw [HN.out]
        rintro e w1 ⟨rfl, rfl⟩
        go_wp2_with fail
        refine (right_any _ c _ (HU.out.below hE0)).mono ?_
        rw [HV.out]
        rintro e w1 ⟨rfl, rfl⟩
        go_wp2_with fail
        go_ret
        exact ⟨by rw [HR.out, HV.out]; rfl, hE0⟩
      | true =>
        have HV := Lib.hid hv
        clear hv
        by_cases t0 : t = 0
        · by_cases m0 : m = 0
          · by_cases p0 : p = 0
            · subst t0 m0 p0
              replace HR := Lib.hid (show Ent.right ⟨n, 1, c, 0, 0, 0⟩ = true by rw [HR.out, HV.out]; rfl)
              go_enter Tryz.func99, Tryz.ntmps99
              go_wp2_with fail
              refine (isBetween5_any _ _ _ _).mono ?_
              rw [HN.out]
              rintro e w1 ⟨rfl, rfl⟩
              go_wp2_with fail
              refine (right_any _ c _ (HU.out.below hE0)).mono ?_
              rw [HV.out]
              rintro e w1 ⟨rfl, rfl⟩
              go_wp2_with fail
              go_ret
              exact ⟨by rw [HR.out]; rfl, hE0⟩
            · subst t0 m0
              replace HR := Lib.hid (show Ent.right ⟨n, 1, c, 0, 0, p⟩ = false by rw [HR.out, HV.out]; simp [p0])
              go_enter Tryz.func99, Tryz.ntmps99
              go_wp2_with fail
              refine (isBetween5_any _ _ _ _).mono ?_
              rw [HN.out]
              rintro e w1 ⟨rfl, rfl⟩
              go_wp2_with fail
              refine (right_any _ c _ (HU.out.below hE0)).mono ?_
              rw [HV.out]
              rintro e w1 ⟨rfl, rfl⟩
              go_wp2_with fail
              go_ret
              exact ⟨by rw [HR.out]; rfl, hE0⟩
          · subst t0
            replace HR := Lib.hid (show Ent.right ⟨n, 1, c, 0, m, p⟩ = false by rw [HR.out, HV.out]; simp [m0])
            go_enter Tryz.func99, Tryz.ntmps99
            go_wp2_with fail
            refine (isBetween5_any _ _ _ _).mono ?_
            rw [HN.out]
            rintro e w1 ⟨rfl, rfl⟩
            go_wp2_with fail
            refine (right_any _ c _ (HU.out.below hE0)).mono ?_
            rw [HV.out]
            rintro e w1 ⟨rfl, rfl⟩
            go_wp2_with fail
            go_ret
            exact ⟨by rw [HR.out]; rfl, hE0⟩
        · replace HR := Lib.hid (show Ent.right ⟨n, 1, c, t, m, p⟩ = false by rw [HR.out, HV.out]; simp [t0])
          go_enter Tryz.func99, Tryz.ntmps99
          go_wp2_with fail
          refine (isBetween5_any _ _ _ _).mono ?_
          rw [HN.out]
          rintro e w1 ⟨rfl, rfl⟩
          go_wp2_with fail
          refine (right_any _ c _ (HU.out.below hE0)).mono ?_
          rw [HV.out]
          rintro e w1 ⟨rfl, rfl⟩
          go_wp2_with fail
          go_ret
          exact ⟨by rw [HR.out]; rfl, hE0⟩
    · by_cases k2 : k = 2
      · subst k2
        have HN := Lib.hid hn
        have HR := Lib.hid (Ent.right_two (c := c) (t := t) (m := m) (p := p) hn)
        clear hn
        by_cases hc : (c.length : Int) = 0
        · have HC := Lib.hid (show c.isEmpty = true by rw [isEmpty_len]; simpa using hc)
          cases ht : decide (0 ≤ t ∧ t ≤ 1073741824) with
          | false =>
            rw [HC.out, ht] at HR
            have HT := Lib.hid ht
            clear ht
            go_enter Tryz.func99, Tryz.ntmps99
            go_wp2_with fail
            refine (isBetween5_any _ _ _ _).mono ?_
            rw [HN.out]
            rintro e w1 ⟨rfl, rfl⟩
            go_wp2_with fail
            refine (isBetween5_any _ _ _ _).mono ?_
            rw [HT.out]
            rintro e w1 ⟨rfl, rfl⟩
            go_wp2_with fail
            go_ret
            exact ⟨by rw [HR.out]; rfl, hE0⟩
          | true =>
            cases hm : decide (1 ≤ m ∧ m ≤ 64) with
            | false =>
              rw [HC.out, ht, hm] at HR
              have HT := Lib.hid ht
              have HM := Lib.hid hm
              clear ht hm
              go_enter Tryz.func99, Tryz.ntmps99
              go_wp2_with fail
              refine (isBetween5_any _ _ _ _).mono ?_
              rw [HN.out]
              rintro e w1 ⟨rfl, rfl⟩
              go_wp2_with fail
              refine (isBetween5_any _ _ _ _).mono ?_
              rw [HT.out]
              rintro e w1 ⟨rfl, rfl⟩
              go_wp2_with fail
              refine (isBetween5_any _ _ _ _).mono ?_
              rw [HM.out]
              rintro e w1 ⟨rfl, rfl⟩
              go_wp2_with fail
              go_ret
              exact ⟨by rw [HR.out]; rfl, hE0⟩
            | true =>
              rw [HC.out, ht, hm] at HR
              have HT := Lib.hid ht
              have HM := Lib.hid hm
              clear ht hm
              go_enter Tryz.func99, Tryz.ntmps99
              go_wp2_with fail
              refine (isBetween5_any _ _ _ _).mono ?_
              rw [HN.out]
              rintro e w1 ⟨rfl, rfl⟩
              go_wp2_with fail
              refine (isBetween5_any _ _ _ _).mono ?_
              rw [HT.out]
              rintro e w1 ⟨rfl, rfl⟩
              go_wp2_with fail
              refine (isBetween5_any _ _ _ _).mono ?_
              rw [HM.out]
              rintro e w1 ⟨rfl, rfl⟩
              go_wp2_with fail
              refine (isBetween5_any _ _ _ _).mono ?_
              generalize decide (0 ≤ p ∧ p ≤ 1099511627776) = dp at *
              rintro e w1 ⟨rfl, rfl⟩
              cases dp <;> (go_wp2_with fail; go_ret; exact ⟨by rw [HR.out]; rfl, hE0⟩)
        · have HC := Lib.hid (show c.isEmpty = false by rw [isEmpty_len]; simpa using hc)
          rw [HC.out] at HR
          have hcb : ((c.length : Int) == 0) = false := by simpa using hc
          go_enter Tryz.func99, Tryz.ntmps99
          go_wp2_with fail
          refine (isBetween5_any _ _ _ _).mono ?_
          rw [HN.out]
          rintro e w1 ⟨rfl, rfl⟩
          go_wp2_with fail
          go_ret
          exact ⟨by rw [HR.out]; rfl, hE0⟩
      · have HN := Lib.hid hn
        have HR := Lib.hid (Ent.right_other (n := n) (c := c) (t := t) (m := m) (p := p) k1 k2)
        clear hn
        go_enter Tryz.func99, Tryz.ntmps99
        go_wp2_with fail
        refine (isBetween5_any _ _ _ _).mono ?_
        rw [HN.out]
        rintro e w1 ⟨rfl, rfl⟩
        go_wp2_with fail
        go_ret
        exact ⟨by rw [HR.out]; rfl, hE0⟩
/- Layer 5: which entries may be: the document's own answer. -/
/- Layer 5, the program: entries as bytes. -/
/- Layer 5: entries as bytes: the document's own answer. -/
end Go.Proofs.YtnfieadjjmpnkaaGreat

namespace Go.Proofs.YtnfieadjjmpnkaaGreat

/- Layer 5, mathematics: bytes as an entry, read part by part up to what each part may be: it is the same as to read, and to write again. -/
namespace Ent

/-! The program's reading: each part up to what it may be. -/
/-- What Decode tells. -/
def noE : E := ⟨0, 0, [], 0, 0, 0⟩
def entOf : Option E → E
  | none => noE
  | some e => e
end Ent
end Go.Proofs.YtnfieadjjmpnkaaGreat

namespace Go.Proofs.YtnfieadjjmpnkaaGreat
set_option linter.unusedSimpArgs false
set_option linter.unusedVariables false
set_option maxRecDepth 100000
open Go.RowKit
/- Layer 5, the program: bytes as entries. -/
def RowEnt (w : World) (v : Value) (e : Ent.E) : Prop := ∃ t, v = entV t e ∧ RowI w t e.cut
theorem RowEnt.is {w : World} {v : Value} {e : Ent.E} (h : RowEnt w v e) : IsEnt w v e := by
  obtain ⟨t, e, h⟩ := h
  exact ⟨t, e, h.ints⟩
theorem build_ent0 (w : World) : (Instr.build 47 #[]).run Tryz.prog w = .ok (.agg #[.int .i64 0, .int .i64 0, .slice none 0 0, .int .i64 0, .int .i64 0, .int .i64 0]) w := by kernel_rfl
theorem EntAt.zero (T : TypeId) (w : World) : EntAt T (w.alloc (.cells #[.int .i64 0, .int .i64 0, .slice none 0 0, .int .i64 0, .int .i64 0, .int .i64 0] T)) w.heap.size (.slice none 0 0) Ent.noE := by
  unfold EntAt Ent.noE
  exact heap_alloc_new w _
theorem set_six {w : World} {q : Nat} {x0 x1 x2 x3 x4 x5 : Value} {T : TypeId} (h : w.heap[q]? = some (.cells #[x0, x1, x2, x3, x4, x5] T (0, 0))) (v0 v1 v2 v3 v4 v5 : Value) :
    ((((((w.setCell ⟨q, 0, none⟩ v0).setCell ⟨q, 1, none⟩ v1).setCell ⟨q, 2, none⟩ v2).setCell ⟨q, 3, none⟩ v3).setCell ⟨q, 4, none⟩ v4).setCell ⟨q, 5, none⟩ v5).heap[q]? = some (.cells #[v0, v1, v2, v3, v4, v5] T (0, 0)) ∧ But q w ((((((w.setCell ⟨q, 0, none⟩ v0).setCell ⟨q, 1, none⟩ v1).setCell ⟨q, 2, none⟩ v2).setCell ⟨q, 3, none⟩ v3).setCell ⟨q, 4, none⟩ v4).setCell ⟨q, 5, none⟩ v5) := by
  refine ⟨?_, ((((((But.refl _ _).setCell 0 none v0).setCell 1 none v1).setCell 2 none v2).setCell 3 none v3).setCell 4 none v4).setCell 5 none v5⟩
  have := heap_setCell (heap_setCell (heap_setCell (heap_setCell (heap_setCell (heap_setCell h 0 v0) 1 v1) 2 v2) 3 v3) 4 v4) 5 v5
  simpa using this
theorem EntAt.set {T : TypeId} {w : World} {p : Nat} {t : Value} {e : Ent.E} (h : EntAt T w p t e) (t' : Value) (e' : Ent.E) :
    EntAt T ((((((w.setCell ⟨p, 0, none⟩ (.int .i64 e'.number)).setCell ⟨p, 1, none⟩ (.int .i64 e'.kind)).setCell ⟨p, 2, none⟩ t').setCell ⟨p, 3, none⟩ (.int .i64 e'.tag)).setCell ⟨p, 4, none⟩ (.int .i64 e'.term)).setCell ⟨p, 5, none⟩ (.int .i64 e'.pos)) p t' e' ∧
    But p w ((((((w.setCell ⟨p, 0, none⟩ (.int .i64 e'.number)).setCell ⟨p, 1, none⟩ (.int .i64 e'.kind)).setCell ⟨p, 2, none⟩ t').setCell ⟨p, 3, none⟩ (.int .i64 e'.tag)).setCell ⟨p, 4, none⟩ (.int .i64 e'.term)).setCell ⟨p, 5, none⟩ (.int .i64 e'.pos)) := set_six h _ _ _ _ _ _
/- Layer 5: whether two entries are one: the program, and the document's own answer. -/
set_option maxHeartbeats 8000000 in
theorem same5_any (v u : Value) (a b : Ent.E) (w : World) (hv : IsEnt w v a) (hu : IsEnt w u b) :
    Calls Tryz.prog 59 #[v, u] w fun x w' => x = .returned (.bool (Ent.alike a b)) ∧ Ext w w' := by
  have hbx := box_ent
  obtain ⟨s1, rfl, ht⟩ := hv
  obtain ⟨s2, rfl, ht2⟩ := hu
  obtain ⟨n, k, c, t, m, p⟩ := a
  obtain ⟨n2, k2, c2, t2, m2, p2⟩ := b
  unfold entV at *
  simp only at ht ht2 ⊢
  obtain ⟨a1, cap1, rfl, hcap1, hmax1, _, _⟩ := ht.open
  obtain ⟨a2, cap2, rfl, hcap2, hmax2, _, _⟩ := ht2.open
  unfold maxLen at hmax1 hmax2
  have HT := Lib.hid ht
  have HT2 := Lib.hid ht2
  clear ht ht2
  have hE : Ext w ((w.alloc (.cells #[.int .i64 n, .int .i64 k, .slice a1 c.length cap1, .int .i64 t, .int .i64 m, .int .i64 p] 47)).alloc (.cells #[.int .i64 n2, .int .i64 k2, .slice a2 c2.length cap2, .int .i64 t2, .int .i64 m2, .int .i64 p2] 47)) := ext_two _ _ _
  have HH := Lib.hid (heap_two w (.cells #[.int .i64 n, .int .i64 k, .slice a1 c.length cap1, .int .i64 t, .int .i64 m, .int .i64 p] 47) (.cells #[.int .i64 n2, .int .i64 k2, .slice a2 c2.length cap2, .int .i64 t2, .int .i64 m2, .int .i64 p2] 47))
  by_cases hn : n = n2
  · subst hn
    by_cases hk : k = k2
    · subst hk
      cases hc : (c == c2) with
      | false =>
        have HC := Lib.hid hc
        clear hc
        have HR := Lib.hid (show Ent.alike ⟨n, k, c, t, m, p⟩ ⟨n, k, c2, t2, m2, p2⟩ = false by unfold Ent.alike; rw [HC.out]; simp)
        go_enter Tryz.func59, Tryz.ntmps59
        go_wp2_with fail
        refine (equalS_any _ _ c c2 _ (HT.out.below hE) (HT2.out.below hE)).mono ?_
        rw [HC.out]
        rintro e w3 ⟨rfl, hE3⟩
        have hz := And.intro (cell_of_heap (heap_ext HH.out.1 hE3)) (cell_of_heap (heap_ext HH.out.2 hE3))
        have y3 := hz.1 3
        have y4 := hz.1 4
        have y5 := hz.1 5
        have z3 := hz.2 3
        have z4 := hz.2 4
        have z5 := hz.2 5
        clear hz
        simp at y3 y4 y5 z3 z4 z5
        go_wp2_with fail
        go_ret
        exact ⟨by rw [HR.out]; rfl, hE.trans hE3⟩
      | true =>
        have HC := Lib.hid hc
        clear hc
        by_cases ht : t = t2
        · subst ht
          by_cases hm : m = m2
          · subst hm
            by_cases hp : p = p2
            · subst hp
              have HR := Lib.hid (show Ent.alike ⟨n, k, c, t, m, p⟩ ⟨n, k, c2, t, m, p⟩ = true by unfold Ent.alike; rw [HC.out]; simp)
              go_enter Tryz.func59, Tryz.ntmps59
              go_wp2_with fail
              refine (equalS_any _ _ c c2 _ (HT.out.below hE) (HT2.out.below hE)).mono ?_
              rw [HC.out]
              rintro e w3 ⟨rfl, hE3⟩
              have hz := And.intro (cell_of_heap (heap_ext HH.out.1 hE3)) (cell_of_heap (heap_ext HH.out.2 hE3))
              have y3 := hz.1 3
              have y4 := hz.1 4
              have y5 := hz.1 5
              have z3 := hz.2 3
              have z4 := hz.2 4
              have z5 := hz.2 5
              clear hz
              simp at y3 y4 y5 z3 z4 z5
              go_wp2_with fail
              go_ret
              exact ⟨by rw [HR.out]; rfl, hE.trans hE3⟩
            · have HR := Lib.hid (show Ent.alike ⟨n, k, c, t, m, p⟩ ⟨n, k, c2, t, m, p2⟩ = false by unfold Ent.alike; simp [hp])
              go_enter Tryz.func59, Tryz.ntmps59
              go_wp2_with fail
              refine (equalS_any _ _ c c2 _ (HT.out.below hE) (HT2.out.below hE)).mono ?_
              rw [HC.out]
              rintro e w3 ⟨rfl, hE3⟩
              have hz := And.intro (cell_of_heap (heap_ext HH.out.1 hE3)) (cell_of_heap (heap_ext HH.out.2 hE3))
              have y3 := hz.1 3
              have y4 := hz.1 4
              have y5 := hz.1 5
              have z3 := hz.2 3
              have z4 := hz.2 4
              have z5 := hz.2 5
              clear hz
              simp at y3 y4 y5 z3 z4 z5
              go_wp2_with fail
              go_ret
              exact ⟨by rw [HR.out]; rfl, hE.trans hE3⟩
          · have HR := Lib.hid (show Ent.alike ⟨n, k, c, t, m, p⟩ ⟨n, k, c2, t, m2, p2⟩ = false by unfold Ent.alike; simp [hm])
            go_enter Tryz.func59, Tryz.ntmps59
            go_wp2_with fail
            refine (equalS_any _ _ c c2 _ (HT.out.below hE) (HT2.out.below hE)).mono ?_
            rw [HC.out]
            rintro e w3 ⟨rfl, hE3⟩
            have hz := And.intro (cell_of_heap (heap_ext HH.out.1 hE3)) (cell_of_heap (heap_ext HH.out.2 hE3))
            have y3 := hz.1 3
            have y4 := hz.1 4
            have y5 := hz.1 5
            have z3 := hz.2 3
            have z4 := hz.2 4
            have z5 := hz.2 5
            clear hz
            simp at y3 y4 y5 z3 z4 z5
            go_wp2_with fail
            go_ret
            exact ⟨by rw [HR.out]; rfl, hE.trans hE3⟩
        · have HR := Lib.hid (show Ent.alike ⟨n, k, c, t, m, p⟩ ⟨n, k, c2, t2, m2, p2⟩ = false by unfold Ent.alike; simp [ht])
          go_enter Tryz.func59, Tryz.ntmps59
          go_wp2_with fail
          refine (equalS_any _ _ c c2 _ (HT.out.below hE) (HT2.out.below hE)).mono ?_
          rw [HC.out]
          rintro e w3 ⟨rfl, hE3⟩
          have hz := And.intro (cell_of_heap (heap_ext HH.out.1 hE3)) (cell_of_heap (heap_ext HH.out.2 hE3))
          have y3 := hz.1 3
          have y4 := hz.1 4
          have y5 := hz.1 5
          have z3 := hz.2 3
          have z4 := hz.2 4
          have z5 := hz.2 5
          clear hz
          simp at y3 y4 y5 z3 z4 z5
          go_wp2_with fail
          go_ret
          exact ⟨by rw [HR.out]; rfl, hE.trans hE3⟩
    · have HR := Lib.hid (show Ent.alike ⟨n, k, c, t, m, p⟩ ⟨n, k2, c2, t2, m2, p2⟩ = false by unfold Ent.alike; simp [hk])
      go_enter Tryz.func59, Tryz.ntmps59
      go_wp2_with fail
      go_ret
      exact ⟨by rw [HR.out]; rfl, hE⟩
  · have HR := Lib.hid (show Ent.alike ⟨n, k, c, t, m, p⟩ ⟨n2, k2, c2, t2, m2, p2⟩ = false by unfold Ent.alike; simp [hn])
    go_enter Tryz.func59, Tryz.ntmps59
    go_wp2_with fail
    go_ret
    exact ⟨by rw [HR.out]; rfl, hE⟩
end Go.Proofs.YtnfieadjjmpnkaaGreat
