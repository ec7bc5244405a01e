/-
  Merged: Layer 5, mathematics: bytes as an entry, vectors read as the program and the document read them; Layer 5, the program: entries by value; Layer 5, the program: which entries may be; Layer 5: which entries may be: the document's own answer; Layer 5, the program: entries as bytes; Layer 5: entries as bytes: the document's own answer; Layer 5, mathematics: bytes as an entry, read part by part up to what each part may be: it is the same as to read, and to write again; Layer 5, the program: bytes as entries; Layer 5: whether two entries are one: the program, and the document's own answer; Layer 5: an entry out of what comes in.
-/
import Derived.Deep.RegionLaw
import Derived.Test.YtaijgpdlgcgfaaaGreatRows
import Derived.Test.YtaijgpdlgcgfaaaGreatChecked
import Derived.SizedLaws
import Derived.Test.YtaijgpdlgcgfaaaGreatBsCrcPut
import Derived.Test.YtaijgpdlgcgfaaaGreatBsCrcRef
import Derived.Test.YtaijgpdlgcgfaaaGreatBsLibW
import Derived.Test.YtaijgpdlgcgfaaaGreatBsMath
import Derived.Test.YtaijgpdlgcgfaaaGreatBsMath2
import Derived.Test.YtaijgpdlgcgfaaaGreatBsPack
import Derived.Test.YtaijgpdlgcgfaaaGreatBsPack2
import Derived.Test.YtaijgpdlgcgfaaaGreatBsVec

set_option linter.unusedSimpArgs false
set_option linter.unusedVariables false

/- Layer 5, mathematics: bytes as an entry, vectors read as the program and the document read them. -/
namespace Go.Proofs.YtaijgpdlgcgfaaaGreat.Ent

/-- How a vector is read. -/
def vd (l : List UInt8) : List Int := orNone (decOk l) (decS l).2
end Go.Proofs.YtaijgpdlgcgfaaaGreat.Ent

namespace Go.Proofs.YtaijgpdlgcgfaaaGreat
set_option linter.unusedSimpArgs false
set_option linter.unusedVariables false
set_option maxRecDepth 100000
open Go.RowKit
/- Layer 5, the program: entries by value; which may be. -/
/-- An entry, by value: its cut's slice, and what it holds. -/
def entV (t : Value) (e : Ent.E) : Value := .agg #[.int .i64 e.number, .int .i64 e.kind, t, .int .i64 e.tag, .int .i64 e.term, .int .i64 e.pos]
def IsEnt (w : World) (v : Value) (e : Ent.E) : Prop := ∃ t, v = entV t e ∧ Ints w t e.cut
theorem IsEnt.below {w w' : World} {v : Value} {e : Ent.E} (h : IsEnt w v e) (hb : Below w.heap.size w w') : IsEnt w' v e := by
  obtain ⟨t, rfl, h⟩ := h
  exact ⟨t, rfl, h.below hb⟩
/-- An entry's value, opened. -/
theorem IsEnt.shape {w : World} {v : Value} {e : Ent.E} (h : IsEnt w v e) : ∃ a n c, v = .agg #[.int .i64 e.number, .int .i64 e.kind, .slice a n c, .int .i64 e.tag, .int .i64 e.term, .int .i64 e.pos] := by
  obtain ⟨t, rfl, ht⟩ := h
  obtain ⟨a, c, rfl, _⟩ := ht.open
  exact ⟨_, _, _, rfl⟩
/-- Block p is an entry (of the program's type, or of the document's). -/
def EntAt (T : TypeId) (w : World) (p : Nat) (t : Value) (e : Ent.E) : Prop := w.heap[p]? = some (.cells #[.int .i64 e.number, .int .i64 e.kind, t, .int .i64 e.tag, .int .i64 e.term, .int .i64 e.pos] T (0, 0))
theorem EntAt.new (T : TypeId) (w : World) (t : Value) (e : Ent.E) : EntAt T (w.alloc (.cells #[.int .i64 e.number, .int .i64 e.kind, t, .int .i64 e.tag, .int .i64 e.term, .int .i64 e.pos] T)) w.heap.size t e := heap_alloc_new w _
theorem EntAt.lt {T : TypeId} {w : World} {p : Nat} {t : Value} {e : Ent.E} (h : EntAt T w p t e) : p < w.heap.size := (Array.getElem?_eq_some_iff.1 h).1
theorem EntAt.ext {T : TypeId} {w w' : World} {p : Nat} {t : Value} {e : Ent.E} (h : EntAt T w p t e) (hE : Ext w w') : EntAt T w' p t e := (hE.block p h.lt).trans h
theorem EntAt.but {T : TypeId} {w w' : World} {p q : Nat} {t : Value} {e : Ent.E} (h : EntAt T w p t e) (hB : But q w w') (hne : p ≠ q) : EntAt T w' p t e := (hB.block p h.lt hne).trans h
theorem EntAt.cells {T : TypeId} {w : World} {p : Nat} {t : Value} {e : Ent.E} (h : EntAt T w p t e) : w.cell? ⟨p, 0, none⟩ = some (.int .i64 e.number) ∧ w.cell? ⟨p, 1, none⟩ = some (.int .i64 e.kind) ∧ w.cell? ⟨p, 2, none⟩ = some t ∧ w.cell? ⟨p, 3, none⟩ = some (.int .i64 e.tag) ∧ w.cell? ⟨p, 4, none⟩ = some (.int .i64 e.term) ∧ w.cell? ⟨p, 5, none⟩ = some (.int .i64 e.pos) :=
  ⟨cell_of_heap h 0, cell_of_heap h 1, cell_of_heap h 2, cell_of_heap h 3, cell_of_heap h 4, cell_of_heap h 5⟩

theorem box_ent (w : World) (n k t m p : Int) (v : Value) : (Instr.box 47 (.agg #[.int .i64 n, .int .i64 k, v, .int .i64 t, .int .i64 m, .int .i64 p])).run Tryz.prog w = .ok (.pointer (some ⟨w.heap.size, 0, none⟩)) (w.alloc (.cells #[.int .i64 n, .int .i64 k, v, .int .i64 t, .int .i64 m, .int .i64 p] 47)) := by kernel_rfl
theorem build_seq0 (w : World) : (Instr.build 29 #[]).run Tryz.prog w = .ok (.agg #[.int .i64 0, .int .i64 0]) w := by kernel_rfl

set_option maxHeartbeats 1000000 in
theorem isBetween5_any (n a b : Int) (w : World) : Calls Tryz.prog 136 #[.int .i64 n, .int .i64 a, .int .i64 b] w fun e w' => e = .returned (.bool (decide (a ≤ n ∧ n ≤ b))) ∧ w = w' := by
  by_cases h0 : a ≤ n
  · by_cases h1 : n ≤ b
    · have e : decide (a ≤ n ∧ n ≤ b) = true := by simp [h0, h1]
      rw [e]
      clear e
      go_enter Tryz.func136, Tryz.ntmps136
      go_wp2
      go_ret
      exact ⟨rfl, rfl⟩
    · have e : decide (a ≤ n ∧ n ≤ b) = false := by simp [h1]
      rw [e]
      clear e
      go_enter Tryz.func136, Tryz.ntmps136
      go_wp2
      go_ret
      exact ⟨rfl, rfl⟩
  · have e : decide (a ≤ n ∧ n ≤ b) = false := by simp [h0]
    rw [e]
    clear e
    go_enter Tryz.func136, Tryz.ntmps136
    go_wp2
    go_ret
    exact ⟨rfl, rfl⟩
/- Layer 5, the program: which entries may be. -/
theorem Ent.right_no {n k : Int} {c : List Int} {t m p : Int} (h : decide (1 ≤ n ∧ n ≤ 1099511627776) = false) : Ent.right ⟨n, k, c, t, m, p⟩ = false := by
  unfold Ent.right; simp only [h, Bool.false_and]
theorem Ent.right_one {n : Int} {c : List Int} {t m p : Int} (h : decide (1 ≤ n ∧ n ≤ 1099511627776) = true) : Ent.right ⟨n, 1, c, t, m, p⟩ = (Vec.right c && decide (t = 0 ∧ m = 0 ∧ p = 0)) := by
  unfold Ent.right Ent.rightCut Ent.rightTrim; simp only [h]; simp
theorem Ent.right_two {n : Int} {c : List Int} {t m p : Int} (h : decide (1 ≤ n ∧ n ≤ 1099511627776) = true) : Ent.right ⟨n, 2, c, t, m, p⟩ = (c.isEmpty && (decide (0 ≤ t ∧ t ≤ 1073741824) && (decide (1 ≤ m ∧ m ≤ 64) && decide (0 ≤ p ∧ p ≤ 1099511627776)))) := by
  unfold Ent.right Ent.rightCut Ent.rightTrim; simp only [h]; simp
theorem Ent.right_other {n k : Int} {c : List Int} {t m p : Int} (h1 : k ≠ 1) (h2 : k ≠ 2) : Ent.right ⟨n, k, c, t, m, p⟩ = false := by
  unfold Ent.right; simp [h1, h2]
theorem isEmpty_len (c : List Int) : c.isEmpty = decide ((c.length : Int) = 0) := by
  cases c with
  | nil => rfl
  | cons x c => simp; omega

set_option maxHeartbeats 4000000 in
theorem right5_any (v : Value) (e : Ent.E) (w : World) (hv : IsEnt w v e) :
    Calls Tryz.prog 98 #[v] w fun x w' => x = .returned (.bool (Ent.right e)) ∧ Ext w w' := by
  have hbx := box_ent
  have hb0 := build_seq0
  obtain ⟨u, rfl, hu⟩ := hv
  obtain ⟨n, k, c, t, m, p⟩ := e
  unfold entV
  simp only at hu ⊢
  have HU := Lib.hid hu
  obtain ⟨a, cap, rfl, hcap, hmax, _, _⟩ := hu.open
  unfold maxLen at hmax
  clear hu
  have hE0 : Ext w (w.alloc (.cells #[.int .i64 n, .int .i64 k, .slice a c.length cap, .int .i64 t, .int .i64 m, .int .i64 p] 47)) := Ext.alloc _ _
  cases hn : decide (1 ≤ n ∧ n ≤ 1099511627776) with
  | false =>
    have HN := Lib.hid hn
    have HR := Lib.hid (Ent.right_no (k := k) (c := c) (t := t) (m := m) (p := p) hn)
    clear hn
    go_enter Tryz.func98, Tryz.ntmps98
    go_wp2_with fail
    refine (isBetween5_any _ _ _ _).mono ?_
    rw [HN.out]
    rintro e w1 ⟨rfl, rfl⟩
    go_wp2_with fail
    go_ret
    exact ⟨by rw [HR.out]; rfl, hE0⟩
  | true =>
    by_cases k1 : k = 1
    · subst k1
      have HN := Lib.hid hn
      have HR := Lib.hid (Ent.right_one (c := c) (t := t) (m := m) (p := p) hn)
      clear hn
      cases hv : Vec.right c with
      | false =>
        have HV := Lib.hid hv
        clear hv
        go_enter Tryz.func98, Tryz.ntmps98
        go_wp2_with fail
        refine (isBetween5_any _ _ _ _).mono ?_
        rw [HN.out]
        rintro e w1 ⟨rfl, rfl⟩
        go_wp2_with fail
        refine (right_any _ c _ (HU.out.below hE0)).mono ?_
        rw [HV.out]
        rintro e w1 ⟨rfl, rfl⟩
        go_wp2_with fail
        go_ret
        exact ⟨by rw [HR.out, HV.out]; rfl, hE0⟩
      | true =>
        have HV := Lib.hid hv
        clear hv
        by_cases t0 : t = 0
        · by_cases m0 : m = 0
          · by_cases p0 : p = 0
            · subst t0 m0 p0
              replace HR := Lib.hid (show Ent.right ⟨n, 1, c, 0, 0, 0⟩ = true by rw [HR.out, HV.out]; rfl)
              go_enter Tryz.func98, Tryz.ntmps98
              go_wp2_with fail
              refine (isBetween5_any _ _ _ _).mono ?_
              rw [HN.out]
              rintro e w1 ⟨rfl, rfl⟩
              go_wp2_with fail
              refine (right_any _ c _ (HU.out.below hE0)).mono ?_
              rw [HV.out]
              rintro e w1 ⟨rfl, rfl⟩
              go_wp2_with fail
              go_ret
              exact ⟨by rw [HR.out]; rfl, hE0⟩
            · subst t0 m0
              replace HR := Lib.hid (show Ent.right ⟨n, 1, c, 0, 0, p⟩ = false by rw [HR.out, HV.out]; simp [p0])
              go_enter Tryz.func98, Tryz.ntmps98
              go_wp2_with fail
              refine (isBetween5_any _ _ _ _).mono ?_
              rw [HN.out]
              rintro e w1 ⟨rfl, rfl⟩
              go_wp2_with fail
              refine (right_any _ c _ (HU.out.below hE0)).mono ?_
              rw [HV.out]
              rintro e w1 ⟨rfl, rfl⟩
              go_wp2_with fail
              go_ret
              exact ⟨by rw [HR.out]; rfl, hE0⟩
          · subst t0
            replace HR := Lib.hid (show Ent.right ⟨n, 1, c, 0, m, p⟩ = false by rw [HR.out, HV.out]; simp [m0])
            go_enter Tryz.func98, Tryz.ntmps98
            go_wp2_with fail
            refine (isBetween5_any _ _ _ _).mono ?_
            rw [HN.out]
            rintro e w1 ⟨rfl, rfl⟩
            go_wp2_with fail
            refine (right_any _ c _ (HU.out.below hE0)).mono ?_
            rw [HV.out]
            rintro e w1 ⟨rfl, rfl⟩
            go_wp2_with fail
            go_ret
            exact ⟨by rw [HR.out]; rfl, hE0⟩
        · replace HR := Lib.hid (show Ent.right ⟨n, 1, c, t, m, p⟩ = false by rw [HR.out, HV.out]; simp [t0])
          go_enter Tryz.func98, Tryz.ntmps98
          go_wp2_with fail
          refine (isBetween5_any _ _ _ _).mono ?_
          rw [HN.out]
          rintro e w1 ⟨rfl, rfl⟩
          go_wp2_with fail
          refine (right_any _ c _ (HU.out.below hE0)).mono ?_
          rw [HV.out]
          rintro e w1 ⟨rfl, rfl⟩
          go_wp2_with fail
          go_ret
          exact ⟨by rw [HR.out]; rfl, hE0⟩
    · by_cases k2 : k = 2
      · subst k2
        have HN := Lib.hid hn
        have HR := Lib.hid (Ent.right_two (c := c) (t := t) (m := m) (p := p) hn)
        clear hn
        by_cases hc : (c.length : Int) = 0
        · have HC := Lib.hid (show c.isEmpty = true by rw [isEmpty_len]; simpa using hc)
          cases ht : decide (0 ≤ t ∧ t ≤ 1073741824) with
          | false =>
            rw [HC.out, ht] at HR
            have HT := Lib.hid ht
            clear ht
            go_enter Tryz.func98, Tryz.ntmps98
            go_wp2_with fail
            refine (isBetween5_any _ _ _ _).mono ?_
            rw [HN.out]
            rintro e w1 ⟨rfl, rfl⟩
            go_wp2_with fail
            refine (isBetween5_any _ _ _ _).mono ?_
            rw [HT.out]
            rintro e w1 ⟨rfl, rfl⟩
            go_wp2_with fail
            go_ret
            exact ⟨by rw [HR.out]; rfl, hE0⟩
          | true =>
            cases hm : decide (1 ≤ m ∧ m ≤ 64) with
            | false =>
              rw [HC.out, ht, hm] at HR
              have HT := Lib.hid ht
              have HM := Lib.hid hm
              clear ht hm
              go_enter Tryz.func98, Tryz.ntmps98
              go_wp2_with fail
              refine (isBetween5_any _ _ _ _).mono ?_
              rw [HN.out]
              rintro e w1 ⟨rfl, rfl⟩
              go_wp2_with fail
              refine (isBetween5_any _ _ _ _).mono ?_
              rw [HT.out]
              rintro e w1 ⟨rfl, rfl⟩
              go_wp2_with fail
              refine (isBetween5_any _ _ _ _).mono ?_
              rw [HM.out]
              rintro e w1 ⟨rfl, rfl⟩
              go_wp2_with fail
              go_ret
              exact ⟨by rw [HR.out]; rfl, hE0⟩
            | true =>
              rw [HC.out, ht, hm] at HR
              have HT := Lib.hid ht
              have HM := Lib.hid hm
              clear ht hm
              go_enter Tryz.func98, Tryz.ntmps98
              go_wp2_with fail
              refine (isBetween5_any _ _ _ _).mono ?_
              rw [HN.out]
              rintro e w1 ⟨rfl, rfl⟩
              go_wp2_with fail
              refine (isBetween5_any _ _ _ _).mono ?_
              rw [HT.out]
              rintro e w1 ⟨rfl, rfl⟩
              go_wp2_with fail
              refine (isBetween5_any _ _ _ _).mono ?_
              rw [HM.out]
              rintro e w1 ⟨rfl, rfl⟩
              go_wp2_with fail
              refine (isBetween5_any _ _ _ _).mono ?_
              generalize decide (0 ≤ p ∧ p ≤ 1099511627776) = dp at *
              rintro e w1 ⟨rfl, rfl⟩
              cases dp <;> (go_wp2_with fail; go_ret; exact ⟨by rw [HR.out]; rfl, hE0⟩)
        · have HC := Lib.hid (show c.isEmpty = false by rw [isEmpty_len]; simpa using hc)
          rw [HC.out] at HR
          have hcb : ((c.length : Int) == 0) = false := by simpa using hc
          go_enter Tryz.func98, Tryz.ntmps98
          go_wp2_with fail
          refine (isBetween5_any _ _ _ _).mono ?_
          rw [HN.out]
          rintro e w1 ⟨rfl, rfl⟩
          go_wp2_with fail
          go_ret
          exact ⟨by rw [HR.out]; rfl, hE0⟩
      · have HN := Lib.hid hn
        have HR := Lib.hid (Ent.right_other (n := n) (c := c) (t := t) (m := m) (p := p) k1 k2)
        clear hn
        go_enter Tryz.func98, Tryz.ntmps98
        go_wp2_with fail
        refine (isBetween5_any _ _ _ _).mono ?_
        rw [HN.out]
        rintro e w1 ⟨rfl, rfl⟩
        go_wp2_with fail
        go_ret
        exact ⟨by rw [HR.out]; rfl, hE0⟩
/- Layer 5: which entries may be: the document's own answer. -/
/- Layer 5, the program: entries as bytes. -/
/- Layer 5: entries as bytes: the document's own answer. -/
end Go.Proofs.YtaijgpdlgcgfaaaGreat

namespace Go.Proofs.YtaijgpdlgcgfaaaGreat

/- Layer 5, mathematics: bytes as an entry, read part by part up to what each part may be: it is the same as to read, and to write again. -/
namespace Ent

/-! The program's reading: each part up to what it may be. -/
/-- What Decode tells. -/
def noE : E := ⟨0, 0, [], 0, 0, 0⟩
def entOf : Option E → E
  | none => noE
  | some e => e
end Ent
end Go.Proofs.YtaijgpdlgcgfaaaGreat

namespace Go.Proofs.YtaijgpdlgcgfaaaGreat
set_option linter.unusedSimpArgs false
set_option linter.unusedVariables false
set_option maxRecDepth 100000
open Go.RowKit
/- Layer 5, the program: bytes as entries. -/
/-- A row of new blocks alone. -/
def RowN (B : Nat) (w : World) (v : Value) (l : List Int) : Prop := ∃ b n, B ≤ b ∧ w.ownsRow b 3 1 v n (i64s l)
theorem RowN.nil (B : Nat) (w : World) : RowN B w (.slice none 0 0) [] := ⟨B, 0, Nat.le_refl _, World.ownsRow_nil _ _ _ _⟩
theorem RowN.row {B : Nat} {w : World} {v : Value} {l : List Int} (h : RowN B w v l) : RowI w v l := by
  obtain ⟨b, n, _, h⟩ := h
  exact ⟨b, n, h⟩
def RowEnt (w : World) (v : Value) (e : Ent.E) : Prop := ∃ t, v = entV t e ∧ RowI w t e.cut
theorem RowEnt.is {w : World} {v : Value} {e : Ent.E} (h : RowEnt w v e) : IsEnt w v e := by
  obtain ⟨t, e, h⟩ := h
  exact ⟨t, e, h.ints⟩
theorem build_ent0 (w : World) : (Instr.build 47 #[]).run Tryz.prog w = .ok (.agg #[.int .i64 0, .int .i64 0, .slice none 0 0, .int .i64 0, .int .i64 0, .int .i64 0]) w := by kernel_rfl
theorem EntAt.zero (T : TypeId) (w : World) : EntAt T (w.alloc (.cells #[.int .i64 0, .int .i64 0, .slice none 0 0, .int .i64 0, .int .i64 0, .int .i64 0] T)) w.heap.size (.slice none 0 0) Ent.noE := by
  unfold EntAt Ent.noE
  exact heap_alloc_new w _
theorem set_six {w : World} {q : Nat} {x0 x1 x2 x3 x4 x5 : Value} {T : TypeId} (h : w.heap[q]? = some (.cells #[x0, x1, x2, x3, x4, x5] T (0, 0))) (v0 v1 v2 v3 v4 v5 : Value) :
    ((((((w.setCell ⟨q, 0, none⟩ v0).setCell ⟨q, 1, none⟩ v1).setCell ⟨q, 2, none⟩ v2).setCell ⟨q, 3, none⟩ v3).setCell ⟨q, 4, none⟩ v4).setCell ⟨q, 5, none⟩ v5).heap[q]? = some (.cells #[v0, v1, v2, v3, v4, v5] T (0, 0)) ∧ But q w ((((((w.setCell ⟨q, 0, none⟩ v0).setCell ⟨q, 1, none⟩ v1).setCell ⟨q, 2, none⟩ v2).setCell ⟨q, 3, none⟩ v3).setCell ⟨q, 4, none⟩ v4).setCell ⟨q, 5, none⟩ v5) := by
  refine ⟨?_, ((((((But.refl _ _).setCell 0 none v0).setCell 1 none v1).setCell 2 none v2).setCell 3 none v3).setCell 4 none v4).setCell 5 none v5⟩
  have := heap_setCell (heap_setCell (heap_setCell (heap_setCell (heap_setCell (heap_setCell h 0 v0) 1 v1) 2 v2) 3 v3) 4 v4) 5 v5
  simpa using this
theorem EntAt.set {T : TypeId} {w : World} {p : Nat} {t : Value} {e : Ent.E} (h : EntAt T w p t e) (t' : Value) (e' : Ent.E) :
    EntAt T ((((((w.setCell ⟨p, 0, none⟩ (.int .i64 e'.number)).setCell ⟨p, 1, none⟩ (.int .i64 e'.kind)).setCell ⟨p, 2, none⟩ t').setCell ⟨p, 3, none⟩ (.int .i64 e'.tag)).setCell ⟨p, 4, none⟩ (.int .i64 e'.term)).setCell ⟨p, 5, none⟩ (.int .i64 e'.pos)) p t' e' ∧
    But p w ((((((w.setCell ⟨p, 0, none⟩ (.int .i64 e'.number)).setCell ⟨p, 1, none⟩ (.int .i64 e'.kind)).setCell ⟨p, 2, none⟩ t').setCell ⟨p, 3, none⟩ (.int .i64 e'.tag)).setCell ⟨p, 4, none⟩ (.int .i64 e'.term)).setCell ⟨p, 5, none⟩ (.int .i64 e'.pos)) := set_six h _ _ _ _ _ _
/- Layer 5: whether two entries are one: the program, and the document's own answer. -/
set_option maxHeartbeats 8000000 in
theorem same5_any (v u : Value) (a b : Ent.E) (w : World) (hv : IsEnt w v a) (hu : IsEnt w u b) :
    Calls Tryz.prog 58 #[v, u] w fun x w' => x = .returned (.bool (Ent.alike a b)) ∧ Ext w w' := by
  have hbx := box_ent
  obtain ⟨s1, rfl, ht⟩ := hv
  obtain ⟨s2, rfl, ht2⟩ := hu
  obtain ⟨n, k, c, t, m, p⟩ := a
  obtain ⟨n2, k2, c2, t2, m2, p2⟩ := b
  unfold entV at *
  simp only at ht ht2 ⊢
  obtain ⟨a1, cap1, rfl, hcap1, hmax1, _, _⟩ := ht.open
  obtain ⟨a2, cap2, rfl, hcap2, hmax2, _, _⟩ := ht2.open
  unfold maxLen at hmax1 hmax2
  have HT := Lib.hid ht
  have HT2 := Lib.hid ht2
  clear ht ht2
  have hE : Ext w ((w.alloc (.cells #[.int .i64 n, .int .i64 k, .slice a1 c.length cap1, .int .i64 t, .int .i64 m, .int .i64 p] 47)).alloc (.cells #[.int .i64 n2, .int .i64 k2, .slice a2 c2.length cap2, .int .i64 t2, .int .i64 m2, .int .i64 p2] 47)) := ext_two _ _ _
  have HH := Lib.hid (heap_two w (.cells #[.int .i64 n, .int .i64 k, .slice a1 c.length cap1, .int .i64 t, .int .i64 m, .int .i64 p] 47) (.cells #[.int .i64 n2, .int .i64 k2, .slice a2 c2.length cap2, .int .i64 t2, .int .i64 m2, .int .i64 p2] 47))
  by_cases hn : n = n2
  · subst hn
    by_cases hk : k = k2
    · subst hk
      cases hc : (c == c2) with
      | false =>
        have HC := Lib.hid hc
        clear hc
        have HR := Lib.hid (show Ent.alike ⟨n, k, c, t, m, p⟩ ⟨n, k, c2, t2, m2, p2⟩ = false by unfold Ent.alike; rw [HC.out]; simp)
        go_enter Tryz.func58, Tryz.ntmps58
        go_wp2_with fail
        refine (equalS_any _ _ c c2 _ (HT.out.below hE) (HT2.out.below hE)).mono ?_
        rw [HC.out]
        rintro e w3 ⟨rfl, hE3⟩
        have hz := And.intro (cell_of_heap (heap_ext HH.out.1 hE3)) (cell_of_heap (heap_ext HH.out.2 hE3))
        have y3 := hz.1 3
        have y4 := hz.1 4
        have y5 := hz.1 5
        have z3 := hz.2 3
        have z4 := hz.2 4
        have z5 := hz.2 5
        clear hz
        simp at y3 y4 y5 z3 z4 z5
        go_wp2_with fail
        go_ret
        exact ⟨by rw [HR.out]; rfl, hE.trans hE3⟩
      | true =>
        have HC := Lib.hid hc
        clear hc
        by_cases ht : t = t2
        · subst ht
          by_cases hm : m = m2
          · subst hm
            by_cases hp : p = p2
            · subst hp
              have HR := Lib.hid (show Ent.alike ⟨n, k, c, t, m, p⟩ ⟨n, k, c2, t, m, p⟩ = true by unfold Ent.alike; rw [HC.out]; simp)
              go_enter Tryz.func58, Tryz.ntmps58
              go_wp2_with fail
              refine (equalS_any _ _ c c2 _ (HT.out.below hE) (HT2.out.below hE)).mono ?_
              rw [HC.out]
              rintro e w3 ⟨rfl, hE3⟩
              have hz := And.intro (cell_of_heap (heap_ext HH.out.1 hE3)) (cell_of_heap (heap_ext HH.out.2 hE3))
              have y3 := hz.1 3
              have y4 := hz.1 4
              have y5 := hz.1 5
              have z3 := hz.2 3
              have z4 := hz.2 4
              have z5 := hz.2 5
              clear hz
              simp at y3 y4 y5 z3 z4 z5
              go_wp2_with fail
              go_ret
              exact ⟨by rw [HR.out]; rfl, hE.trans hE3⟩
            · have HR := Lib.hid (show Ent.alike ⟨n, k, c, t, m, p⟩ ⟨n, k, c2, t, m, p2⟩ = false by unfold Ent.alike; simp [hp])
              go_enter Tryz.func58, Tryz.ntmps58
              go_wp2_with fail
              refine (equalS_any _ _ c c2 _ (HT.out.below hE) (HT2.out.below hE)).mono ?_
              rw [HC.out]
              rintro e w3 ⟨rfl, hE3⟩
              have hz := And.intro (cell_of_heap (heap_ext HH.out.1 hE3)) (cell_of_heap (heap_ext HH.out.2 hE3))
              have y3 := hz.1 3
              have y4 := hz.1 4
              have y5 := hz.1 5
              have z3 := hz.2 3
              have z4 := hz.2 4
              have z5 := hz.2 5
              clear hz
              simp at y3 y4 y5 z3 z4 z5
              go_wp2_with fail
              go_ret
              exact ⟨by rw [HR.out]; rfl, hE.trans hE3⟩
          · have HR := Lib.hid (show Ent.alike ⟨n, k, c, t, m, p⟩ ⟨n, k, c2, t, m2, p2⟩ = false by unfold Ent.alike; simp [hm])
            go_enter Tryz.func58, Tryz.ntmps58
            go_wp2_with fail
            refine (equalS_any _ _ c c2 _ (HT.out.below hE) (HT2.out.below hE)).mono ?_
            rw [HC.out]
            rintro e w3 ⟨rfl, hE3⟩
            have hz := And.intro (cell_of_heap (heap_ext HH.out.1 hE3)) (cell_of_heap (heap_ext HH.out.2 hE3))
            have y3 := hz.1 3
            have y4 := hz.1 4
            have y5 := hz.1 5
            have z3 := hz.2 3
            have z4 := hz.2 4
            have z5 := hz.2 5
            clear hz
            simp at y3 y4 y5 z3 z4 z5
            go_wp2_with fail
            go_ret
            exact ⟨by rw [HR.out]; rfl, hE.trans hE3⟩
        · have HR := Lib.hid (show Ent.alike ⟨n, k, c, t, m, p⟩ ⟨n, k, c2, t2, m2, p2⟩ = false by unfold Ent.alike; simp [ht])
          go_enter Tryz.func58, Tryz.ntmps58
          go_wp2_with fail
          refine (equalS_any _ _ c c2 _ (HT.out.below hE) (HT2.out.below hE)).mono ?_
          rw [HC.out]
          rintro e w3 ⟨rfl, hE3⟩
          have hz := And.intro (cell_of_heap (heap_ext HH.out.1 hE3)) (cell_of_heap (heap_ext HH.out.2 hE3))
          have y3 := hz.1 3
          have y4 := hz.1 4
          have y5 := hz.1 5
          have z3 := hz.2 3
          have z4 := hz.2 4
          have z5 := hz.2 5
          clear hz
          simp at y3 y4 y5 z3 z4 z5
          go_wp2_with fail
          go_ret
          exact ⟨by rw [HR.out]; rfl, hE.trans hE3⟩
    · have HR := Lib.hid (show Ent.alike ⟨n, k, c, t, m, p⟩ ⟨n, k2, c2, t2, m2, p2⟩ = false by unfold Ent.alike; simp [hk])
      go_enter Tryz.func58, Tryz.ntmps58
      go_wp2_with fail
      go_ret
      exact ⟨by rw [HR.out]; rfl, hE⟩
  · have HR := Lib.hid (show Ent.alike ⟨n, k, c, t, m, p⟩ ⟨n2, k2, c2, t2, m2, p2⟩ = false by unfold Ent.alike; simp [hn])
    go_enter Tryz.func58, Tryz.ntmps58
    go_wp2_with fail
    go_ret
    exact ⟨by rw [HR.out]; rfl, hE⟩
end Go.Proofs.YtaijgpdlgcgfaaaGreat

namespace Go.Proofs.YtaijgpdlgcgfaaaGreat
set_option linter.unusedSimpArgs false
set_option linter.unusedVariables false
set_option maxRecDepth 100000
open Go.ChangeShapes Go.WideShapes Go.ChangeAt Go.RowKit
/- Layer 5: an entry out of what comes in. -/
section
variable {H : Type} {enc : TypeId × Value → H} {w : World} {base : Nat} {spare : Nat → Bool} {held : Bool}

theorem sixOf {α : Type} {l : List α} (h : l.length = 6) : ∃ a b c d e f, l = [a, b, c, d, e, f] := by
  match l, h with
  | [a, b, c, d, e, f], _ => exact ⟨a, b, c, d, e, f, rfl⟩
theorem fiveOf {α : Type} {l : List α} (h : l.length = 5) : ∃ a b c d e, l = [a, b, c, d, e] := by
  match l, h with
  | [a, b, c, d, e], _ => exact ⟨a, b, c, d, e, rfl⟩
theorem twoOf {α : Type} {l : List α} (h : l.length = 2) : ∃ a b, l = [a, b] := by
  match l, h with
  | [a, b], _ => exact ⟨a, b, rfl⟩
set_option maxRecDepth 100000 in
theorem seqOfRaw {fuel : Nat} {cs : List Value} {x : DataW H × List MemPlace} (h : DataW.trod enc Tryz.prog w base spare held fuel 29 cs = some x) : ∃ c n : Int, cs = [.int .i64 c, .int .i64 n] := by
  obtain ⟨xs, n, _, rfl, hl, hlen, hf⟩ := DataW.trod_struct Tryz.underlying29 h
  have hc : Tryz.prog.cellsOf 29 = 2 := by kernel_rfl
  have hi : Tryz.prog.cellsOf 3 = 1 := by kernel_rfl
  rw [hc] at hl
  obtain ⟨c0, c1, rfl⟩ := twoOf hl
  obtain ⟨y0, y1, rfl⟩ := twoOf hlen
  have f0 := hf 0 _ rfl
  have f1 := hf 1 _ rfl
  simp only [hi, List.drop_zero, List.drop_succ_cons, List.take_succ_cons, List.take_zero, List.getElem?_cons_zero, List.getElem?_cons_succ] at f0 f1
  obtain ⟨n0, e0, _, _⟩ := DataW.trod_int Tryz.underlying3 f0
  obtain ⟨n1, e1, _, _⟩ := DataW.trod_int Tryz.underlying3 f1
  injection e0 with e0 _
  injection e1 with e1 _
  subst e0 e1
  exact ⟨n0, n1, rfl⟩
set_option maxRecDepth 100000 in
theorem ent_of_raw {fuel : Nat} {cs : List Value} {x : DataW H × List MemPlace} (h : DataW.trod enc Tryz.prog w base spare held fuel 31 cs = some x) :
    ∃ (t : Value) (e : Ent.E), cs = [.int .i64 e.number, .int .i64 e.kind, t, .int .i64 e.tag, .int .i64 e.term, .int .i64 e.pos] ∧ Ints w t e.cut := by
  obtain ⟨xs, n, _, rfl, hl, hlen, hf⟩ := DataW.trod_struct Tryz.underlying31 h
  have hc : Tryz.prog.cellsOf 31 = 6 := by kernel_rfl
  have hd : Tryz.prog.cellsOf 29 = 2 := by kernel_rfl
  have hi : Tryz.prog.cellsOf 3 = 1 := by kernel_rfl
  have hii : Tryz.prog.cellsOf 25 = 1 := by kernel_rfl
  rw [hc] at hl
  obtain ⟨c0, c1, c2, c3, c4, c5, rfl⟩ := sixOf hl
  obtain ⟨y0, y1, y2, y3, y4, rfl⟩ := fiveOf hlen
  have f0 := hf 0 _ rfl
  have f1 := hf 1 _ rfl
  have f2 := hf 2 _ rfl
  have f3 := hf 3 _ rfl
  have f4 := hf 4 _ rfl
  simp only [hd, hi, hii, List.drop_zero, List.drop_succ_cons, List.take_succ_cons, List.take_zero, List.getElem?_cons_zero, List.getElem?_cons_succ] at f0 f1 f2 f3 f4
  obtain ⟨n0, e0, _, _⟩ := DataW.trod_int Tryz.underlying3 f0
  obtain ⟨n1, e1, _, _⟩ := DataW.trod_int Tryz.underlying3 f1
  obtain ⟨v, l, e2, hv⟩ := ints_of_raw Tryz.underlying25 Tryz.underlying3 hi f2
  obtain ⟨n3, e3, _, _⟩ := DataW.trod_int Tryz.underlying3 f3
  obtain ⟨n4, n5, e4⟩ := seqOfRaw f4
  injection e0 with e0 _
  injection e1 with e1 _
  injection e2 with e2 _
  injection e3 with e3 _
  injection e4 with e40 e4
  injection e4 with e41 _
  subst e0 e1 e2 e3 e40 e41
  exact ⟨_, ⟨n0, n1, l, n3, n4, n5⟩, rfl, hv⟩
end
end Go.Proofs.YtaijgpdlgcgfaaaGreat
