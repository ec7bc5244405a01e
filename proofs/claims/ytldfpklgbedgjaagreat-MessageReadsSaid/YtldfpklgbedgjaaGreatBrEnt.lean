/-
 Merged: Layer 5, mathematics: bytes as an entry, vectors read as the program and the document read them; Layer 5, the program: entries by value; Layer 5, the program: which entries may be; Layer 5: which entries may be: the document's own answer; Layer 5, the program: entries as bytes; Layer 5: entries as bytes: the document's own answer; Layer 5, mathematics: bytes as an entry, read part by part up to what each part may be: it is the same as to read, and to write again; Layer 5, the program: bytes as entries; Layer 5: whether two entries are one: the program, and the document's own answer; Layer 5: an entry out of what comes in; Layer 5: bytes as entries: the document's own answer.
-/
import Derived.Deep.RegionLaw
import Derived.Test.YtldfpklgbedgjaaGreatRows
import Derived.Test.YtldfpklgbedgjaaGreatChecked
import Derived.SizedLaws
import Derived.Test.YtldfpklgbedgjaaGreatBrCrc
import Derived.Test.YtldfpklgbedgjaaGreatBrMath
import Derived.Test.YtldfpklgbedgjaaGreatBrPack
import Derived.Test.YtldfpklgbedgjaaGreatBrPack2
import Derived.Test.YtldfpklgbedgjaaGreatBrRest
import Derived.Test.YtldfpklgbedgjaaGreatBrVec
set_option linter.unusedSimpArgs false
set_option linter.unusedVariables false
namespace Go.Proofs.YtldfpklgbedgjaaGreat.Ent
def vd (l : List UInt8) : List Int := orNone (decOk l) (decS l).2
theorem vecBytes_enc (v : List Int) : vecBytes v = Vec.enc v := rfl
theorem vd_back (v : List Int) (h : Vec.right v = true) : vd (vecBytes v) = v := by
 rw [vecBytes_enc]
 unfold vd
 rw [(Go.Proofs.YtldfpklgbedgjaaGreat.dec_enc h).1, (Go.Proofs.YtldfpklgbedgjaaGreat.dec_enc h).2, orNone_true]
theorem dec_vd_iff {b : List UInt8} {e : E} : dec vd b = some e ↔ right e = true ∧ enc e = b := dec_iff vd_back
end Go.Proofs.YtldfpklgbedgjaaGreat.Ent
namespace Go.Proofs.YtldfpklgbedgjaaGreat
set_option linter.unusedSimpArgs false
set_option linter.unusedVariables false
set_option maxRecDepth 100000
open Go.RowKit
def entV (t : Value) (e : Ent.E) : Value := .agg #[.int .i64 e.number, .int .i64 e.kind, t, .int .i64 e.tag, .int .i64 e.term, .int .i64 e.pos]
def IsEnt (w : World) (v : Value) (e : Ent.E) : Prop := ∃ t, v = entV t e ∧ Ints w t e.cut
theorem IsEnt.below {w w' : World} {v : Value} {e : Ent.E} (h : IsEnt w v e) (hb : Below w.heap.size w w') : IsEnt w' v e := by
 obtain ⟨t, rfl, h⟩ := h
 exact ⟨t, rfl, h.below hb⟩
def EntAt (T : TypeId) (w : World) (p : Nat) (t : Value) (e : Ent.E) : Prop := w.heap[p]? = some (.cells #[.int .i64 e.number, .int .i64 e.kind, t, .int .i64 e.tag, .int .i64 e.term, .int .i64 e.pos] T (0, 0))
theorem EntAt.new (T : TypeId) (w : World) (t : Value) (e : Ent.E) : EntAt T (w.alloc (.cells #[.int .i64 e.number, .int .i64 e.kind, t, .int .i64 e.tag, .int .i64 e.term, .int .i64 e.pos] T)) w.heap.size t e := heap_alloc_new w _
theorem EntAt.lt {T : TypeId} {w : World} {p : Nat} {t : Value} {e : Ent.E} (h : EntAt T w p t e) : p < w.heap.size := (Array.getElem?_eq_some_iff.1 h).1
theorem EntAt.ext {T : TypeId} {w w' : World} {p : Nat} {t : Value} {e : Ent.E} (h : EntAt T w p t e) (hE : Ext w w') : EntAt T w' p t e := (hE.block p h.lt).trans h
theorem EntAt.but {T : TypeId} {w w' : World} {p q : Nat} {t : Value} {e : Ent.E} (h : EntAt T w p t e) (hB : But q w w') (hne : p ≠ q) : EntAt T w' p t e := (hB.block p h.lt hne).trans h
theorem EntAt.cells {T : TypeId} {w : World} {p : Nat} {t : Value} {e : Ent.E} (h : EntAt T w p t e) : w.cell? ⟨p, 0, none⟩ = some (.int .i64 e.number) ∧ w.cell? ⟨p, 1, none⟩ = some (.int .i64 e.kind) ∧ w.cell? ⟨p, 2, none⟩ = some t ∧ w.cell? ⟨p, 3, none⟩ = some (.int .i64 e.tag) ∧ w.cell? ⟨p, 4, none⟩ = some (.int .i64 e.term) ∧ w.cell? ⟨p, 5, none⟩ = some (.int .i64 e.pos) :=
 ⟨cell_of_heap h 0, cell_of_heap h 1, cell_of_heap h 2, cell_of_heap h 3, cell_of_heap h 4, cell_of_heap h 5⟩
theorem box_ent (w : World) (n k t m p : Int) (v : Value) : (Instr.box 42 (.agg #[.int .i64 n, .int .i64 k, v, .int .i64 t, .int .i64 m, .int .i64 p])).run Tryz.prog w = .ok (.pointer (some ⟨w.heap.size, 0, none⟩)) (w.alloc (.cells #[.int .i64 n, .int .i64 k, v, .int .i64 t, .int .i64 m, .int .i64 p] 42)) := by kernel_rfl
theorem box_entR (w : World) (n k t m p : Int) (v : Value) : (Instr.box 30 (.agg #[.int .i64 n, .int .i64 k, v, .int .i64 t, .int .i64 m, .int .i64 p])).run Tryz.prog w = .ok (.pointer (some ⟨w.heap.size, 0, none⟩)) (w.alloc (.cells #[.int .i64 n, .int .i64 k, v, .int .i64 t, .int .i64 m, .int .i64 p] 30)) := by kernel_rfl
theorem build_seq0 (w : World) : (Instr.build 28 #[]).run Tryz.prog w = .ok (.agg #[.int .i64 0, .int .i64 0]) w := by kernel_rfl
set_option maxHeartbeats 1000000 in
theorem isBetween5_any (n a b : Int) (w : World) : Calls Tryz.prog 78 #[.int .i64 n, .int .i64 a, .int .i64 b] w fun e w' => e = .returned (.bool (decide (a ≤ n ∧ n ≤ b))) ∧ w = w' := by
 by_cases h0 : a ≤ n
 · by_cases h1 : n ≤ b
   · have e : decide (a ≤ n ∧ n ≤ b) = true := by simp [h0, h1]
     rw [e]
     clear e
     go_enter Tryz.func78, Tryz.ntmps78
     go_wp2
     go_ret
     exact ⟨rfl, rfl⟩
   · have e : decide (a ≤ n ∧ n ≤ b) = false := by simp [h1]
     rw [e]
     clear e
     go_enter Tryz.func78, Tryz.ntmps78
     go_wp2
     go_ret
     exact ⟨rfl, rfl⟩
 · have e : decide (a ≤ n ∧ n ≤ b) = false := by simp [h0]
   rw [e]
   clear e
   go_enter Tryz.func78, Tryz.ntmps78
   go_wp2
   go_ret
   exact ⟨rfl, rfl⟩
theorem Ent.right_no {n k : Int} {c : List Int} {t m p : Int} (h : decide (1 ≤ n ∧ n ≤ 1099511627776) = false) : Ent.right ⟨n, k, c, t, m, p⟩ = false := by
 unfold Ent.right; simp only [h, Bool.false_and]
theorem Ent.right_one {n : Int} {c : List Int} {t m p : Int} (h : decide (1 ≤ n ∧ n ≤ 1099511627776) = true) : Ent.right ⟨n, 1, c, t, m, p⟩ = (Vec.right c && decide (t = 0 ∧ m = 0 ∧ p = 0)) := by
 unfold Ent.right Ent.rightCut Ent.rightTrim; simp only [h]; simp
theorem Ent.right_two {n : Int} {c : List Int} {t m p : Int} (h : decide (1 ≤ n ∧ n ≤ 1099511627776) = true) : Ent.right ⟨n, 2, c, t, m, p⟩ = (c.isEmpty && (decide (0 ≤ t ∧ t ≤ 1073741824) && (decide (1 ≤ m ∧ m ≤ 64) && decide (0 ≤ p ∧ p ≤ 1099511627776)))) := by
 unfold Ent.right Ent.rightCut Ent.rightTrim; simp only [h]; simp
theorem Ent.right_other {n k : Int} {c : List Int} {t m p : Int} (h1 : k ≠ 1) (h2 : k ≠ 2) : Ent.right ⟨n, k, c, t, m, p⟩ = false := by
 unfold Ent.right; simp [h1, h2]
theorem isEmpty_len (c : List Int) : c.isEmpty = decide ((c.length : Int) = 0) := by
 cases c with
 | nil => rfl
 | cons x c => simp; omega
set_option maxHeartbeats 4000000 in
theorem right5_any (v : Value) (e : Ent.E) (w : World) (hv : IsEnt w v e) :
 Calls Tryz.prog 32 #[v] w fun x w' => x = .returned (.bool (Ent.right e)) ∧ Ext w w' := by
 have hbx := box_ent
 have hb0 := build_seq0
 obtain ⟨u, rfl, hu⟩ := hv
 obtain ⟨n, k, c, t, m, p⟩ := e
 unfold entV
 simp only at hu ⊢
 have HU := Lib.hid hu
 obtain ⟨a, cap, rfl, hcap, hmax, _, _⟩ := hu.open
 unfold maxLen at hmax
 clear hu
 have hE0 : Ext w (w.alloc (.cells #[.int .i64 n, .int .i64 k, .slice a c.length cap, .int .i64 t, .int .i64 m, .int .i64 p] 42)) := Ext.alloc _ _
 cases hn : decide (1 ≤ n ∧ n ≤ 1099511627776) with
 | false =>
  have HN := Lib.hid hn
  have HR := Lib.hid (Ent.right_no (k := k) (c := c) (t := t) (m := m) (p := p) hn)
  clear hn
  go_enter Tryz.func32, Tryz.ntmps32
  go_wp2_with fail
  refine (isBetween5_any _ _ _ _).mono ?_
  rw [HN.out]
  rintro e w1 ⟨rfl, rfl⟩
  go_wp2_with fail
  go_ret
  exact ⟨by rw [HR.out]; rfl, hE0⟩
 | true =>
  by_cases k1 : k = 1
  · subst k1
    have HN := Lib.hid hn
    have HR := Lib.hid (Ent.right_one (c := c) (t := t) (m := m) (p := p) hn)
    clear hn
    cases hv : Vec.right c with
    | false =>
     have HV := Lib.hid hv
     clear hv
     go_enter Tryz.func32, Tryz.ntmps32
     go_wp2_with fail
     refine (isBetween5_any _ _ _ _).mono ?_
     rw [HN.out]
     rintro e w1 ⟨rfl, rfl⟩
     go_wp2_with fail
     refine (right_any _ c _ (HU.out.below hE0)).mono ?_
     rw [HV.out]
     rintro e w1 ⟨rfl, rfl⟩
     go_wp2_with fail
     go_ret
     exact ⟨by rw [HR.out, HV.out]; rfl, hE0⟩
    | true =>
     have HV := Lib.hid hv
     clear hv
     by_cases t0 : t = 0
     · by_cases m0 : m = 0
       · by_cases p0 : p = 0
         · subst t0 m0 p0
           replace HR := Lib.hid (show Ent.right ⟨n, 1, c, 0, 0, 0⟩ = true by rw [HR.out, HV.out]; rfl)
           go_enter Tryz.func32, Tryz.ntmps32
           go_wp2_with fail
           refine (isBetween5_any _ _ _ _).mono ?_
           rw [HN.out]
           rintro e w1 ⟨rfl, rfl⟩
           go_wp2_with fail
           refine (right_any _ c _ (HU.out.below hE0)).mono ?_
           rw [HV.out]
           rintro e w1 ⟨rfl, rfl⟩
           go_wp2_with fail
           go_ret
           exact ⟨by rw [HR.out]; rfl, hE0⟩
         · subst t0 m0
           replace HR := Lib.hid (show Ent.right ⟨n, 1, c, 0, 0, p⟩ = false by rw [HR.out, HV.out]; simp [p0])
           go_enter Tryz.func32, Tryz.ntmps32
           go_wp2_with fail
           refine (isBetween5_any _ _ _ _).mono ?_
           rw [HN.out]
           rintro e w1 ⟨rfl, rfl⟩
           go_wp2_with fail
           refine (right_any _ c _ (HU.out.below hE0)).mono ?_
           rw [HV.out]
           rintro e w1 ⟨rfl, rfl⟩
           go_wp2_with fail
           go_ret
           exact ⟨by rw [HR.out]; rfl, hE0⟩
       · subst t0
         replace HR := Lib.hid (show Ent.right ⟨n, 1, c, 0, m, p⟩ = false by rw [HR.out, HV.out]; simp [m0])
         go_enter Tryz.func32, Tryz.ntmps32
         go_wp2_with fail
         refine (isBetween5_any _ _ _ _).mono ?_
         rw [HN.out]
         rintro e w1 ⟨rfl, rfl⟩
         go_wp2_with fail
         refine (right_any _ c _ (HU.out.below hE0)).mono ?_
         rw [HV.out]
         rintro e w1 ⟨rfl, rfl⟩
         go_wp2_with fail
         go_ret
         exact ⟨by rw [HR.out]; rfl, hE0⟩
     · replace HR := Lib.hid (show Ent.right ⟨n, 1, c, t, m, p⟩ = false by rw [HR.out, HV.out]; simp [t0])
       go_enter Tryz.func32, Tryz.ntmps32
       go_wp2_with fail
       refine (isBetween5_any _ _ _ _).mono ?_
       rw [HN.out]
       rintro e w1 ⟨rfl, rfl⟩
       go_wp2_with fail
       refine (right_any _ c _ (HU.out.below hE0)).mono ?_
       rw [HV.out]
       rintro e w1 ⟨rfl, rfl⟩
       go_wp2_with fail
       go_ret
       exact ⟨by rw [HR.out]; rfl, hE0⟩
  · by_cases k2 : k = 2
    · subst k2
      have HN := Lib.hid hn
      have HR := Lib.hid (Ent.right_two (c := c) (t := t) (m := m) (p := p) hn)
      clear hn
      by_cases hc : (c.length : Int) = 0
      · have HC := Lib.hid (show c.isEmpty = true by rw [isEmpty_len]; simpa using hc)
        cases ht : decide (0 ≤ t ∧ t ≤ 1073741824) with
        | false =>
         rw [HC.out, ht] at HR
         have HT := Lib.hid ht
         clear ht
         go_enter Tryz.func32, Tryz.ntmps32
         go_wp2_with fail
         refine (isBetween5_any _ _ _ _).mono ?_
         rw [HN.out]
         rintro e w1 ⟨rfl, rfl⟩
         go_wp2_with fail
         refine (isBetween5_any _ _ _ _).mono ?_
         rw [HT.out]
         rintro e w1 ⟨rfl, rfl⟩
         go_wp2_with fail
         go_ret
         exact ⟨by rw [HR.out]; rfl, hE0⟩
        | true =>
         cases hm : decide (1 ≤ m ∧ m ≤ 64) with
         | false =>
          rw [HC.out, ht, hm] at HR
          have HT := Lib.hid ht
          have HM := Lib.hid hm
          clear ht hm
          go_enter Tryz.func32, Tryz.ntmps32
          go_wp2_with fail
          refine (isBetween5_any _ _ _ _).mono ?_
          rw [HN.out]
          rintro e w1 ⟨rfl, rfl⟩
          go_wp2_with fail
          refine (isBetween5_any _ _ _ _).mono ?_
          rw [HT.out]
          rintro e w1 ⟨rfl, rfl⟩
          go_wp2_with fail
          refine (isBetween5_any _ _ _ _).mono ?_
          rw [HM.out]
          rintro e w1 ⟨rfl, rfl⟩
          go_wp2_with fail
          go_ret
          exact ⟨by rw [HR.out]; rfl, hE0⟩
         | true =>
          rw [HC.out, ht, hm] at HR
          have HT := Lib.hid ht
          have HM := Lib.hid hm
          clear ht hm
          go_enter Tryz.func32, Tryz.ntmps32
          go_wp2_with fail
          refine (isBetween5_any _ _ _ _).mono ?_
          rw [HN.out]
          rintro e w1 ⟨rfl, rfl⟩
          go_wp2_with fail
          refine (isBetween5_any _ _ _ _).mono ?_
          rw [HT.out]
          rintro e w1 ⟨rfl, rfl⟩
          go_wp2_with fail
          refine (isBetween5_any _ _ _ _).mono ?_
          rw [HM.out]
          rintro e w1 ⟨rfl, rfl⟩
          go_wp2_with fail
          refine (isBetween5_any _ _ _ _).mono ?_
          generalize decide (0 ≤ p ∧ p ≤ 1099511627776) = dp at *
          rintro e w1 ⟨rfl, rfl⟩
          cases dp <;> (go_wp2_with fail; go_ret; exact ⟨by rw [HR.out]; rfl, hE0⟩)
      · have HC := Lib.hid (show c.isEmpty = false by rw [isEmpty_len]; simpa using hc)
        rw [HC.out] at HR
        have hcb : ((c.length : Int) == 0) = false := by simpa using hc
        go_enter Tryz.func32, Tryz.ntmps32
        go_wp2_with fail
        refine (isBetween5_any _ _ _ _).mono ?_
        rw [HN.out]
        rintro e w1 ⟨rfl, rfl⟩
        go_wp2_with fail
        go_ret
        exact ⟨by rw [HR.out]; rfl, hE0⟩
    · have HN := Lib.hid hn
      have HR := Lib.hid (Ent.right_other (n := n) (c := c) (t := t) (m := m) (p := p) k1 k2)
      clear hn
      go_enter Tryz.func32, Tryz.ntmps32
      go_wp2_with fail
      refine (isBetween5_any _ _ _ _).mono ?_
      rw [HN.out]
      rintro e w1 ⟨rfl, rfl⟩
      go_wp2_with fail
      go_ret
      exact ⟨by rw [HR.out]; rfl, hE0⟩
set_option maxHeartbeats 4000000 in
theorem refRight5_any (v : Value) (e : Ent.E) (w : World) (hv : IsEnt w v e) :
 Calls Tryz.prog 41 #[v] w fun x w' => x = .returned (.bool (Ent.right e)) ∧ Ext w w' := by
 have hbx := box_entR
 obtain ⟨u, rfl, hu⟩ := hv
 obtain ⟨n, k, c, t, m, p⟩ := e
 unfold entV
 simp only at hu ⊢
 have HU := Lib.hid hu
 obtain ⟨a, cap, rfl, hcap, hmax, _, _⟩ := hu.open
 unfold maxLen at hmax
 clear hu
 have hE0 : Ext w (w.alloc (.cells #[.int .i64 n, .int .i64 k, .slice a c.length cap, .int .i64 t, .int .i64 m, .int .i64 p] 30)) := Ext.alloc _ _
 by_cases n0 : n < 1
 · have HR := Lib.hid (show Ent.right ⟨n, k, c, t, m, p⟩ = false by exact Ent.right_no (by simp; omega))
   go_enter Tryz.func41, Tryz.ntmps41
   go_wp2_with fail
   go_ret
   exact ⟨by rw [HR.out]; rfl, hE0⟩
 by_cases n1 : (1099511627776 : Int) < n
 · have HR := Lib.hid (show Ent.right ⟨n, k, c, t, m, p⟩ = false by exact Ent.right_no (by simp; omega))
   go_enter Tryz.func41, Tryz.ntmps41
   go_wp2_with fail
   go_ret
   exact ⟨by rw [HR.out]; rfl, hE0⟩
 have hn : decide (1 ≤ n ∧ n ≤ 1099511627776) = true := by simp; omega
 by_cases k1 : k = 1
 · subst k1
   have HD := Lib.hid (Ent.right_one (c := c) (t := t) (m := m) (p := p) hn)
   clear hn
   cases hv : Vec.right c with
   | false =>
    have HV := Lib.hid hv
    have HR := Lib.hid (show Ent.right ⟨n, 1, c, t, m, p⟩ = false by rw [HD.out, hv]; rfl)
    clear hv
    go_enter Tryz.func41, Tryz.ntmps41
    go_wp2_with fail
    refine (refRight_any _ c _ (HU.out.below hE0)).mono ?_
    rw [HV.out]
    rintro e w1 ⟨rfl, rfl⟩
    go_wp2_with fail
    go_ret
    exact ⟨by rw [HR.out]; rfl, hE0⟩
   | true =>
    have HV := Lib.hid hv
    clear hv
    by_cases t0 : t = 0
    rotate_left
    · have HR := Lib.hid (show Ent.right ⟨n, 1, c, t, m, p⟩ = false by rw [HD.out]; simp [t0])
      go_enter Tryz.func41, Tryz.ntmps41
      go_wp2_with fail
      refine (refRight_any _ c _ (HU.out.below hE0)).mono ?_
      rw [HV.out]
      rintro e w1 ⟨rfl, rfl⟩
      go_wp2_with fail
      go_ret
      exact ⟨by rw [HR.out]; rfl, hE0⟩
    subst t0
    by_cases m0 : m = 0
    rotate_left
    · have HR := Lib.hid (show Ent.right ⟨n, 1, c, 0, m, p⟩ = false by rw [HD.out]; simp [m0])
      go_enter Tryz.func41, Tryz.ntmps41
      go_wp2_with fail
      refine (refRight_any _ c _ (HU.out.below hE0)).mono ?_
      rw [HV.out]
      rintro e w1 ⟨rfl, rfl⟩
      go_wp2_with fail
      go_ret
      exact ⟨by rw [HR.out]; rfl, hE0⟩
    subst m0
    by_cases p0 : p = 0
    rotate_left
    · have HR := Lib.hid (show Ent.right ⟨n, 1, c, 0, 0, p⟩ = false by rw [HD.out]; simp [p0])
      go_enter Tryz.func41, Tryz.ntmps41
      go_wp2_with fail
      refine (refRight_any _ c _ (HU.out.below hE0)).mono ?_
      rw [HV.out]
      rintro e w1 ⟨rfl, rfl⟩
      go_wp2_with fail
      go_ret
      exact ⟨by rw [HR.out]; show Ending.returned (.bool (p == 0)) = _; rw [beq_eq_false_iff_ne.2 p0], hE0⟩
    subst p0
    have HR := Lib.hid (show Ent.right ⟨n, 1, c, 0, 0, 0⟩ = true by rw [HD.out, HV.out]; rfl)
    go_enter Tryz.func41, Tryz.ntmps41
    go_wp2_with fail
    refine (refRight_any _ c _ (HU.out.below hE0)).mono ?_
    rw [HV.out]
    rintro e w1 ⟨rfl, rfl⟩
    go_wp2_with fail
    go_ret
    exact ⟨by rw [HR.out]; rfl, hE0⟩
 · by_cases k2 : k = 2
   rotate_left
   · have HR := Lib.hid (Ent.right_other (n := n) (c := c) (t := t) (m := m) (p := p) k1 k2)
     clear hn
     go_enter Tryz.func41, Tryz.ntmps41
     go_wp2_with fail
     go_ret
     exact ⟨by rw [HR.out]; rfl, hE0⟩
   subst k2
   have HD := Lib.hid (Ent.right_two (c := c) (t := t) (m := m) (p := p) hn)
   clear hn
   by_cases c0 : (0 : Int) < (c.length : Int)
   · have HR := Lib.hid (show Ent.right ⟨n, 2, c, t, m, p⟩ = false by rw [HD.out, isEmpty_len, decide_eq_false (by omega)]; rfl)
     have hce : ¬ c = [] := by rintro rfl; simp at c0
     go_enter Tryz.func41, Tryz.ntmps41
     go_wp2_with fail
     go_ret
     exact ⟨by rw [HR.out]; rfl, hE0⟩
   obtain rfl : c = [] := by cases c with
    | nil => rfl
    | cons x c => exact absurd (show (0 : Int) < ((x :: c).length : Int) by simp) c0
   by_cases c1 : t < 0
   · have HR := Lib.hid (show Ent.right ⟨n, 2, [], t, m, p⟩ = false by rw [HD.out]; simp; omega)
     go_enter Tryz.func41, Tryz.ntmps41
     go_wp2_with fail
     go_ret
     exact ⟨by rw [HR.out]; rfl, hE0⟩
   by_cases c2 : (1073741824 : Int) < t
   · have HR := Lib.hid (show Ent.right ⟨n, 2, [], t, m, p⟩ = false by rw [HD.out]; simp; omega)
     go_enter Tryz.func41, Tryz.ntmps41
     go_wp2_with fail
     go_ret
     exact ⟨by rw [HR.out]; rfl, hE0⟩
   by_cases c3 : m < 1
   · have HR := Lib.hid (show Ent.right ⟨n, 2, [], t, m, p⟩ = false by rw [HD.out]; simp; omega)
     go_enter Tryz.func41, Tryz.ntmps41
     go_wp2_with fail
     go_ret
     exact ⟨by rw [HR.out]; rfl, hE0⟩
   by_cases c4 : (64 : Int) < m
   · have HR := Lib.hid (show Ent.right ⟨n, 2, [], t, m, p⟩ = false by rw [HD.out]; simp; omega)
     go_enter Tryz.func41, Tryz.ntmps41
     go_wp2_with fail
     go_ret
     exact ⟨by rw [HR.out]; rfl, hE0⟩
   by_cases c5 : p < 0
   · have HR := Lib.hid (show Ent.right ⟨n, 2, [], t, m, p⟩ = false by rw [HD.out]; simp; omega)
     go_enter Tryz.func41, Tryz.ntmps41
     go_wp2_with fail
     go_ret
     exact ⟨by rw [HR.out]; rfl, hE0⟩
   by_cases c6 : (1099511627776 : Int) < p
   · have HR := Lib.hid (show Ent.right ⟨n, 2, [], t, m, p⟩ = false by rw [HD.out]; simp; omega)
     go_enter Tryz.func41, Tryz.ntmps41
     go_wp2_with fail
     go_ret
     exact ⟨by rw [HR.out]; show Ending.returned (.bool (decide (p ≤ 1099511627776))) = _; rw [decide_eq_false (by omega)], hE0⟩
   have HR := Lib.hid (show Ent.right ⟨n, 2, [], t, m, p⟩ = true by rw [HD.out, isEmpty_len, decide_eq_true (by omega), decide_eq_true (by omega), decide_eq_true (by omega), decide_eq_true (by omega)]; rfl)
   go_enter Tryz.func41, Tryz.ntmps41
   go_wp2_with fail
   go_ret
   exact ⟨by rw [HR.out]; rfl, hE0⟩
def GivesEnc5 (w : World) (e : Ent.E) (x : Ending) (w' : World) : Prop := ∃ u, x = .returned (.tuple #[u, .int .i64 (orErr 50 (Ent.right e))]) ∧ Bytes w' u (bytesOr (Ent.right e) (Ent.enc e)) ∧ Ext w w'
def OwnsEnc5 (w : World) (e : Ent.E) (x : Ending) (w' : World) : Prop := ∃ u, x = .returned (.tuple #[u, .int .i64 0]) ∧ w'.ownsRow w.heap.size 5 1 u (Ent.enc e).length (u8s (Ent.enc e)) ∧ Ext w w'
theorem intsLit2 (w : World) (x y : Int) : Ints (w.alloc (.cells #[.int .i64 x, .int .i64 y] 3)) (.slice (some ⟨w.heap.size, 0, none⟩) 2 2) [x, y] :=
 Sl.made w (i64s [x, y]) 3 2 (by simp) (by simp [maxLen]) (fr := (0, 0))
theorem intsLit3 (w : World) (x y z : Int) : Ints (w.alloc (.cells #[.int .i64 x, .int .i64 y, .int .i64 z] 3)) (.slice (some ⟨w.heap.size, 0, none⟩) 3 3) [x, y, z] :=
 Sl.made w (i64s [x, y, z]) 3 3 (by simp) (by simp [maxLen]) (fr := (0, 0))
theorem Ent.text_one {e : Ent.E} (h : e.kind = 1) : Ent.text e = nums [e.number, e.kind] ++ (Pack.num (Ent.vecBytes e.cut).length ++ Ent.vecBytes e.cut) := by
 unfold Ent.text; rw [Ent.body_one h]; simp [nums]
theorem Ent.text_two {e : Ent.E} (h : e.kind ≠ 1) : Ent.text e = nums [e.number, e.kind] ++ nums [e.tag, e.term, e.pos] := by
 unfold Ent.text; rw [Ent.body_two h]; simp [nums]
theorem Ent.text_le {e : Ent.E} (h : Ent.right e = true) : (Ent.text e).length ≤ 108 := by
 have := Ent.enc_le h
 unfold Ent.enc at this
 rw [List.length_append, Crc.low_length] at this
 omega
set_option maxHeartbeats 4000000 in
theorem encode5_own (v : Value) (e : Ent.E) (w : World) (hv : IsEnt w v e) (hr : Ent.right e = true) : Calls Tryz.prog 66 #[v] w (OwnsEnc5 w e) := by
 have hbx := box_ent
 have hr5 := fun w1 hv => right5_any v e w1 hv
 have HV := Lib.hid hv
 obtain ⟨u, rfl, hu⟩ := hv
 obtain ⟨n, k, c, t, m, p⟩ := e
 unfold entV at *
 simp only at hu hr5 ⊢
 obtain ⟨a, cap, rfl, hcap, hmax, _, _⟩ := hu.open
 unfold maxLen at hmax
 have HU := Lib.hid hu
 clear hu
 have hE0 : Ext w (w.alloc (.cells #[.int .i64 n, .int .i64 k, .slice a c.length cap, .int .i64 t, .int .i64 m, .int .i64 p] 42)) := Ext.alloc _ _
 have HA0 := Lib.hid (EntAt.new 42 w (.slice a c.length cap) ⟨n, k, c, t, m, p⟩)
 unfold OwnsEnc5
 have HR := Lib.hid hr
 obtain ⟨q1, q2⟩ := Ent.right_ok hr
 simp only at q1 q2
 have hk : 0 ≤ k ∧ k ≤ 2 := by rcases q2 with ⟨h, _⟩ | ⟨h, _⟩ <;> omega
 have hall1 : [n, k].all okNum = true := by
  simp only [List.all_cons, List.all_nil, Bool.and_true]
  rw [okNumOf (by omega), okNumOf (by omega)]
  rfl
 have hl1 := nums_le _ hall1
 simp only [List.length_cons, List.length_nil] at hl1
 have HA1 := Lib.hid hall1
 have HL1 := Lib.hid hl1
 have HTL := Lib.hid (Ent.text_le hr)
 clear hr hall1 hl1
 rcases q2 with ⟨rfl, v1, t1, t2, t3⟩ | ⟨rfl, v1, t1, t2, t3⟩
 · subst t1 t2 t3
   have HT := Lib.hid (Ent.text_one (e := ⟨n, 1, c, 0, 0, 0⟩) rfl)
   have HVL := Lib.hid (Ent.vecBytes_le v1)
   have HV1 := Lib.hid v1
   clear v1
   go_enter Tryz.func66, Tryz.ntmps66
   go_wp2_with fail
   refine (hr5 _ (HV.out.below hE0)).mono ?_
   rw [HR.out]
   rintro e w1 ⟨rfl, hE1⟩
   have a1 := Lib.hid (HA0.out.ext hE1)
   obtain ⟨c0, c1, c2, c3, c4, c5⟩ := a1.out.cells
   have e1 := hE0.trans hE1
   go_wp2_with fail
   refine (packNum_any (.slice none 0 0) _ [] [n, 1] _ (bytes_none _) (intsLit2 w1 _ _) (by simp) (by simp)).mono ?_
   rw [HA1.out, if_pos rfl, List.nil_append]
   rintro e w2 ⟨v2, rfl, ho2, hE2⟩
   have hE2' : Ext w1 w2 := (Ext.alloc _ _).trans hE2
   have a2 := Lib.hid (a1.out.ext hE2')
   clear c0 c1 c2 c3 c4 c5
   obtain ⟨c0, c1, c2, c3, c4, c5⟩ := a2.out.cells
   have e2 := e1.trans hE2'
   go_wp2_with fail
   refine (encode_any _ c _ (HU.out.below e2)).mono ?_
   unfold GivesEnc
   rw [HV1.out, bytesOr_true]
   rintro e w3 ⟨v3, rfl, hb3, hE3⟩
   have e3 := e2.trans hE3
   have hb2 := ho2.bytes.below hE3
   have hst := run_str (P := Tryz.prog) 38 9 5 Tryz.underlying38 Tryz.underlying5 Tryz.underlying9 hb3
   obtain ⟨a3, n3, k3, rfl⟩ := hb3.isSlice
   clear c0 c1 c2 c3 c4 c5
   go_wp2_with fail
   refine (packText_any v2 _ (Ent.vecBytes c) _ hb2 (by have := HL1.out; omega) (by have := HVL.out; omega)).mono ?_
   rw [if_pos (by have := HVL.out; omega), ← HT.out]
   rintro e w4 ⟨v4, rfl, ho4, hE4⟩
   have e4 := e3.trans hE4
   go_wp2_with fail
   refine (new_any _).mono ?_
   rintro e w5 ⟨rfl, ht5, hE5⟩
   have e5 := e4.trans hE5
   go_wp2_with fail
   refine (put_own _ 0 0 v4 _ _ ht5 (.inl rfl) (ho4.bytes.below hE5) (by have := HTL.out; omega)).mono ?_
   rintro e w6 ⟨v6, d6, rfl, ho6, hB6, hd6, ht6⟩
   have e6 : Ext w w6 := Below.trans (B := w.heap.size) e5 (hB6.below e4.size (Nat.le_trans e4.size hE5.size))
   go_wp2_with fail
   go_ret2
   refine ⟨_, rfl, ?_, e6⟩
   unfold Ent.enc
   exact rowLower ho6 e5.size
 · subst v1
   have HT := Lib.hid (Ent.text_two (e := ⟨n, 2, [], t, m, p⟩) (show (2 : Int) ≠ 1 by decide))
   have hall2 : [t, m, p].all okNum = true := by
    simp only [List.all_cons, List.all_nil, Bool.and_true]
    rw [okNumOf (by omega), okNumOf (by omega), okNumOf (by omega)]
    rfl
   have HA2 := Lib.hid hall2
   clear hall2
   go_enter Tryz.func66, Tryz.ntmps66
   go_wp2_with fail
   refine (hr5 _ (HV.out.below hE0)).mono ?_
   rw [HR.out]
   rintro e w1 ⟨rfl, hE1⟩
   have a1 := Lib.hid (HA0.out.ext hE1)
   obtain ⟨c0, c1, c2, c3, c4, c5⟩ := a1.out.cells
   have e1 := hE0.trans hE1
   go_wp2_with fail
   refine (packNum_any (.slice none 0 0) _ [] [n, 2] _ (bytes_none _) (intsLit2 w1 _ _) (by simp) (by simp)).mono ?_
   rw [HA1.out, if_pos rfl, List.nil_append]
   rintro e w2 ⟨v2, rfl, ho2, hE2⟩
   have hE2' : Ext w1 w2 := (Ext.alloc _ _).trans hE2
   have a2 := Lib.hid (a1.out.ext hE2')
   clear c0 c1 c2 c3 c4 c5
   obtain ⟨c0, c1, c2, c3, c4, c5⟩ := a2.out.cells
   have e2 := e1.trans hE2'
   have hb2 := Lib.hid (ho2.bytes.below (Ext.alloc w2 (.cells #[.int .i64 t, .int .i64 m, .int .i64 p] 3)))
   go_wp2_with fail
   refine (packNum_any v2 _ _ [t, m, p] _ hb2.out (intsLit3 w2 _ _ _) (by have := HL1.out; omega) (by simp)).mono ?_
   rw [HA2.out, if_pos rfl, ← HT.out]
   rintro e w4 ⟨v4, rfl, ho4, hE4⟩
   have e4 := e2.trans ((Ext.alloc _ _).trans hE4)
   clear c0 c1 c2 c3 c4 c5
   go_wp2_with fail
   refine (new_any _).mono ?_
   rintro e w5 ⟨rfl, ht5, hE5⟩
   have e5 := e4.trans hE5
   go_wp2_with fail
   refine (put_own _ 0 0 v4 _ _ ht5 (.inl rfl) (ho4.bytes.below hE5) (by have := HTL.out; omega)).mono ?_
   rintro e w6 ⟨v6, d6, rfl, ho6, hB6, hd6, ht6⟩
   have e6 : Ext w w6 := Below.trans (B := w.heap.size) e5 (hB6.below e4.size (Nat.le_trans e4.size hE5.size))
   go_wp2_with fail
   go_ret2
   refine ⟨_, rfl, ?_, e6⟩
   unfold Ent.enc
   exact rowLower ho6 e5.size
set_option maxHeartbeats 4000000 in
theorem refEncode5_any (v : Value) (e : Ent.E) (w : World) (hv : IsEnt w v e) : Calls Tryz.prog 73 #[v] w (GivesEnc5 w e) := by
 have hbx := box_entR
 have hr5 := fun w1 hv => refRight5_any v e w1 hv
 have HV := Lib.hid hv
 obtain ⟨u, rfl, hu⟩ := hv
 obtain ⟨n, k, c, t, m, p⟩ := e
 unfold entV at *
 simp only at hu hr5 ⊢
 obtain ⟨a, cap, rfl, hcap, hmax, _, _⟩ := hu.open
 unfold maxLen at hmax
 have HU := Lib.hid hu
 clear hu
 have hE0 : Ext w (w.alloc (.cells #[.int .i64 n, .int .i64 k, .slice a c.length cap, .int .i64 t, .int .i64 m, .int .i64 p] 30)) := Ext.alloc _ _
 have HA0 := Lib.hid (EntAt.new 30 w (.slice a c.length cap) ⟨n, k, c, t, m, p⟩)
 unfold GivesEnc5
 cases hr : Ent.right ⟨n, k, c, t, m, p⟩ with
 | false =>
  have HR := Lib.hid hr
  clear hr
  go_enter Tryz.func73, Tryz.ntmps73
  go_wp2_with fail
  refine (hr5 _ (HV.out.below hE0)).mono ?_
  rw [HR.out]
  rintro e w1 ⟨rfl, hE1⟩
  go_wp2_with fail
  go_ret2
  exact ⟨_, rfl, bytes_none _, hE0.trans hE1⟩
 | true =>
  have HR := Lib.hid hr
  obtain ⟨q1, q2⟩ := Ent.right_ok hr
  simp only at q1 q2
  have hk : 0 ≤ k ∧ k ≤ 2 := by rcases q2 with ⟨h, _⟩ | ⟨h, _⟩ <;> omega
  have o1 : oneNum n = Pack.num n.toNat := oneNumOf (by omega)
  have o2 : oneNum k = Pack.num k.toNat := oneNumOf (by omega)
  have n1 := Pack.num_nine (n := n.toNat) (by omega)
  have n2 := Pack.num_nine (n := k.toNat) (by omega)
  have hq := Lib.hid (show Ent.text ⟨n, k, c, t, m, p⟩ = (Pack.num n.toNat ++ Pack.num k.toNat) ++ Ent.body ⟨n, k, c, t, m, p⟩ by unfold Ent.text; simp)
  obtain ⟨A, hA⟩ : ∃ A, Pack.num n.toNat = A := ⟨_, rfl⟩
  obtain ⟨B, hB⟩ : ∃ B, Pack.num k.toNat = B := ⟨_, rfl⟩
  rw [hA, hB] at hq
  rw [hA] at o1 n1
  rw [hB] at o2 n2
  have HO1 := Lib.hid o1
  have HO2 := Lib.hid o2
  have hsA := str_len A
  have hsB := str_len B
  obtain ⟨AB, hAB⟩ : ∃ AB, A ++ B = AB := ⟨_, rfl⟩
  have hsAB := str_len AB
  have hlAB : AB.length ≤ 18 := by rw [← hAB, List.length_append]; omega
  rw [hAB] at hq
  have HAB := Lib.hid hAB
  have HTL := Lib.hid (Ent.text_le hr)
  clear o1 o2 hA hB hAB hr
  go_enter Tryz.func73, Tryz.ntmps73
  go_wp2_with fail
  refine (hr5 _ (HV.out.below hE0)).mono ?_
  rw [HR.out]
  rintro e w1 ⟨rfl, hE1⟩
  have a1 := Lib.hid (HA0.out.ext hE1)
  have e1 := hE0.trans hE1
  go_wp2_with fail
  generalize hqq : w.heap.size = q at *
  have HQQ := Lib.hid hqq
  clear hqq
  refine wp_region_facts (by kernel_rfl) Ext (fun iop v w => match iop with
   | 0 => v = .pointer (some ⟨q, 0, none⟩)
   | 1 => v = .int .i64 n
   | 2 => v = .string ⟨A.toArray⟩
   | 3 => v = .pointer (some ⟨q, 1, none⟩)
   | 4 => v = .int .i64 k
   | 5 => v = .string ⟨B.toArray⟩
   | 6 => v = .string ⟨AB.toArray⟩
   | _ => v = .string ⟨AB.toArray⟩
   ) (by kernel_rfl) (fun _ _ _ h k => Ext.trans h k) (fun a => Ext.refl a) (Ext.drew _) ?_ ?_ ?_
  · intro iop v wa wb hF hL
    iterate 7 (rcases iop with _ | iop; exact hF)
    exact hF
  · refine Obls.cons ?_ (Obls.cons ?_ (Obls.cons ?_ (Obls.cons ?_ (Obls.cons ?_ (Obls.cons ?_ (Obls.cons ?_ (Obls.cons ?_ (Obls.nil))))))))
    · intro ev wy hp hl hk hd
      have e1 : ev (.tmp 1) = .pointer (some ⟨q, 0, none⟩) := hk 1 (by decide)
      clear hk hd
      exact Yield.op (v := .pointer (some ⟨q, 0, none⟩)) (w' := wy) (by simp [execOp, go_sem, e1]) ⟨Ext.refl _, rfl⟩
    · intro ev wy hp hl hk hd
      have e10 : ev (.tmp 10) = .pointer (some ⟨q, 0, none⟩) := hk 10 (by decide)
      clear hk hd
      exact Yield.load rfl e10 (ldInt (a1.out.ext hl).cells.1) ⟨Ext.refl _, rfl⟩
    · intro ev wy hp hl hk hd
      have e11 : ev (.tmp 11) = .int .i64 n := hk 11 (by decide)
      clear hk hd
      refine Yield.call rfl hp Tryz.func25 rfl (by kernel_rfl) ?_
      simp only [List.map_toArray, List.map_cons, List.map_nil, e11]
      exact ((HO1.out ▸ numRef_any n wy)).mono fun _ _ ⟨he, hb⟩ => ⟨_, he, hb, by first | rfl | simp⟩
    · intro ev wy hp hl hk hd
      have e1 : ev (.tmp 1) = .pointer (some ⟨q, 0, none⟩) := hk 1 (by decide)
      clear hk hd
      exact Yield.op (v := .pointer (some ⟨q, 1, none⟩)) (w' := wy) (by simp [execOp, go_sem, e1]) ⟨Ext.refl _, rfl⟩
    · intro ev wy hp hl hk hd
      have e13 : ev (.tmp 13) = .pointer (some ⟨q, 1, none⟩) := hk 13 (by decide)
      clear hk hd
      exact Yield.load rfl e13 (ldInt (a1.out.ext hl).cells.2.1) ⟨Ext.refl _, rfl⟩
    · intro ev wy hp hl hk hd
      have e14 : ev (.tmp 14) = .int .i64 k := hk 14 (by decide)
      clear hk hd
      refine Yield.call rfl hp Tryz.func25 rfl (by kernel_rfl) ?_
      simp only [List.map_toArray, List.map_cons, List.map_nil, e14]
      exact ((HO2.out ▸ numRef_any k wy)).mono fun _ _ ⟨he, hb⟩ => ⟨_, he, hb, by first | rfl | simp⟩
    · intro ev wy hp hl hk hd
      have e12 : ev (.tmp 12) = .string ⟨A.toArray⟩ := hk 12 (by decide)
      have e15 : ev (.tmp 15) = .string ⟨B.toArray⟩ := hk 15 (by decide)
      clear hk hd
      exact Yield.op (w' := wy) (by simp [execOp, go_sem, e12, e15]; rw [if_neg (by omega), mk_append, HAB.out]) ⟨Ext.refl _, rfl⟩
    · intro ev wy hp hl hk hd
      have e16 : ev (.tmp 16) = .string ⟨AB.toArray⟩ := hk 16 (by decide)
      clear hk hd
      exact Yield.as rfl ⟨Ext.refl _, e16⟩
  · intro vals wz hz hv
    have g10 : vals 0 = .pointer (some ⟨q, 0, none⟩) := hv 0 (by decide)
    have g11 : vals 1 = .int .i64 n := hv 1 (by decide)
    have g12 : vals 2 = .string ⟨A.toArray⟩ := hv 2 (by decide)
    have g13 : vals 3 = .pointer (some ⟨q, 1, none⟩) := hv 3 (by decide)
    have g14 : vals 4 = .int .i64 k := hv 4 (by decide)
    have g15 : vals 5 = .string ⟨B.toArray⟩ := hv 5 (by decide)
    have g16 : vals 6 = .string ⟨AB.toArray⟩ := hv 6 (by decide)
    have g4 : vals 7 = .string ⟨AB.toArray⟩ := hv 7 (by decide)
    clear hv
    simp only [putAll, Act.put, List.setIfInBounds_toArray, List.set_cons_zero, List.set_cons_succ, g10, g11, g12, g13, g14, g15, g16, g4]
    clear g10
    clear g11
    clear g12
    clear g13
    clear g14
    clear g15
    clear g16
    clear g4
    obtain ⟨wv, hwv⟩ : ∃ wv, wv = wz := ⟨_, rfl⟩
    rw [← hwv] at hz ⊢
    clear hwv
    have a2 := Lib.hid (a1.out.ext hz)
    have e2 := e1.trans hz
    clear hz hE0 hE1 e1 HA0 a1 HV hr5
    rcases q2 with ⟨rfl, v1, rfl, rfl, rfl⟩ | ⟨rfl, rfl, t1, t2, t3⟩
    · have HVL := Lib.hid (Ent.vecBytes_le v1)
      have HV1 := Lib.hid v1
      obtain ⟨c0, c1, c2, c3, c4, c5⟩ := a2.out.cells
      rw [Ent.body_one (show (1 : Int) = 1 from rfl)] at hq
      clear v1
      go_wp2_with fail
      refine (refEncode_any _ c _ (HU.out.below e2)).mono ?_
      unfold GivesEnc
      rw [HV1.out, bytesOr_true]
      rintro e w3 ⟨v3, rfl, hb3, hE3⟩
      have e3 := e2.trans hE3
      have hst := run_str (P := Tryz.prog) 38 9 5 Tryz.underlying38 Tryz.underlying5 Tryz.underlying9 hb3
      obtain ⟨a3, n3, k3, rfl⟩ := hb3.isSlice
      clear c0 c1 c2 c3 c4 c5
      rw [← Ent.vecBytes_enc] at hst
      have hql := Lib.hid (show (Pack.num (Ent.vecBytes c).length ++ Ent.vecBytes c).length ≤ 90 by
       rw [List.length_append]
       have := Pack.num_nine (n := (Ent.vecBytes c).length) (by have := HVL.out; omega)
       have := HVL.out
       omega)
      have htx := fun wy => textRef_any (Ent.vecBytes c) wy (by have := HVL.out; omega)
      (try simp only at hq)
      obtain ⟨VB, hVB⟩ : ∃ VB, Pack.num (Ent.vecBytes c).length ++ Ent.vecBytes c = VB := ⟨_, rfl⟩
      rw [hVB] at hq hql htx
      have HTX := Lib.hid htx
      have hlV := hql.out
      obtain ⟨T, hT⟩ : ∃ T, AB ++ VB = T := ⟨_, rfl⟩
      have hlT : T.length ≤ 108 := by rw [← hT, List.length_append]; omega
      rw [hT] at hq
      have hadd := mk_append AB VB
      rw [hT] at hadd
      have hsV := str_len VB
      clear hVB htx hT
      go_wp2_with fail
      refine (HTX.out _).mono ?_
      rintro e w4 ⟨rfl, hE4⟩
      have e4 := e3.trans hE4
      have hcv := run_conv w4 T
      have hby := Lib.hid (bytes_of_str w4 T 5 (by unfold maxLen; omega))
      go_wp2_with fail
      refine (put_ref _ T _ hby.out (by omega)).mono ?_
      rintro e w5 ⟨v5, rfl, hb5, hE5⟩
      have e5 := (e4.trans (ext_bytesWorld _ _ _)).trans hE5
      go_wp2_with fail
      go_ret2
      refine ⟨_, rfl, ?_, e5⟩
      show Bytes w5 v5 (Ent.enc _)
      unfold Ent.enc
      rw [hq.out]
      exact hb5
    · have o3 : oneNum t = Pack.num t.toNat := oneNumOf (by omega)
      have o4 : oneNum m = Pack.num m.toNat := oneNumOf (by omega)
      have o5 : oneNum p = Pack.num p.toNat := oneNumOf (by omega)
      have n3 := Pack.num_nine (n := t.toNat) (by omega)
      have n4 := Pack.num_nine (n := m.toNat) (by omega)
      have n5 := Pack.num_nine (n := p.toNat) (by omega)
      rw [Ent.body_two (show (2 : Int) ≠ 1 by decide)] at hq
      (try simp only at hq)
      obtain ⟨C, hC⟩ : ∃ C, Pack.num t.toNat = C := ⟨_, rfl⟩
      obtain ⟨D, hD⟩ : ∃ D, Pack.num m.toNat = D := ⟨_, rfl⟩
      obtain ⟨F, hF⟩ : ∃ F, Pack.num p.toNat = F := ⟨_, rfl⟩
      rw [hC] at o3 n3
      rw [hD] at o4 n4
      rw [hF] at o5 n5
      rw [hC, hD, hF] at hq
      have HO3 := Lib.hid o3
      have HO4 := Lib.hid o4
      have HO5 := Lib.hid o5
      obtain ⟨X, hX⟩ : ∃ X, AB ++ C = X := ⟨_, rfl⟩
      obtain ⟨Y, hY⟩ : ∃ Y, X ++ D = Y := ⟨_, rfl⟩
      obtain ⟨Z, hZ⟩ : ∃ Z, Y ++ F = Z := ⟨_, rfl⟩
      have hlX : X.length ≤ 27 := by rw [← hX, List.length_append]; omega
      have hlY : Y.length ≤ 36 := by rw [← hY, List.length_append]; omega
      have hlZ : Z.length ≤ 45 := by rw [← hZ, List.length_append]; omega
      have hfin := Lib.hid (show Ent.text ⟨n, 2, [], t, m, p⟩ = Z by rw [hq.out, ← hZ, ← hY, ← hX]; simp)
      have HX := Lib.hid hX
      have HY := Lib.hid hY
      have HZ := Lib.hid hZ
      have hsC := str_len C
      have hsD := str_len D
      have hsF := str_len F
      have hsX := str_len X
      have hsY := str_len Y
      have c1 := (a2.out).cells.2.1
      clear o3 o4 o5 hC hD hF hX hY hZ hq
      go_wp2_with fail
      clear c1
      refine wp_region_facts (by kernel_rfl) Ext (fun iop v w => match iop with
       | 0 => v = .string ⟨AB.toArray⟩
       | 1 => v = .pointer (some ⟨q, 3, none⟩)
       | 2 => v = .int .i64 t
       | 3 => v = .string ⟨C.toArray⟩
       | 4 => v = .string ⟨X.toArray⟩
       | 5 => v = .pointer (some ⟨q, 4, none⟩)
       | 6 => v = .pointer (some ⟨q, 4, none⟩)
       | 7 => v = .int .i64 m
       | 8 => v = .string ⟨D.toArray⟩
       | 9 => v = .string ⟨Y.toArray⟩
       | 10 => v = .pointer (some ⟨q, 4, none⟩)
       | 11 => v = .pointer (some ⟨q, 5, none⟩)
       | 12 => v = .int .i64 p
       | 13 => v = .string ⟨F.toArray⟩
       | 14 => v = .string ⟨Z.toArray⟩
       | _ => v = .string ⟨Z.toArray⟩
       ) (by kernel_rfl) (fun _ _ _ h k => Ext.trans h k) (fun a => Ext.refl a) (Ext.drew _) ?_ ?_ ?_
      · intro iop v wa wb hF hL
        iterate 15 (rcases iop with _ | iop; exact hF)
        exact hF
      · refine Obls.cons ?_ (Obls.cons ?_ (Obls.cons ?_ (Obls.cons ?_ (Obls.cons ?_ (Obls.cons ?_ (Obls.cons ?_ (Obls.cons ?_ (Obls.cons ?_ (Obls.cons ?_ (Obls.cons ?_ (Obls.cons ?_ (Obls.cons ?_ (Obls.cons ?_ (Obls.cons ?_ (Obls.cons ?_ (Obls.nil))))))))))))))))
        · intro ev wy hp hl hk hd
          have e4 : ev (.tmp 4) = .string ⟨AB.toArray⟩ := hk 4 (by decide)
          clear hk hd
          exact Yield.mv rfl ⟨Ext.refl _, e4⟩
        · intro ev wy hp hl hk hd
          have e1 : ev (.tmp 1) = .pointer (some ⟨q, 0, none⟩) := hk 1 (by decide)
          clear hk hd
          exact Yield.op (v := .pointer (some ⟨q, 3, none⟩)) (w' := wy) (by simp [execOp, go_sem, e1]) ⟨Ext.refl _, rfl⟩
        · intro ev wy hp hl hk hd
          have e32 : ev (.tmp 32) = .pointer (some ⟨q, 3, none⟩) := hk 32 (by decide)
          clear hk hd
          exact Yield.load rfl e32 (ldInt (a2.out.ext hl).cells.2.2.2.1) ⟨Ext.refl _, rfl⟩
        · intro ev wy hp hl hk hd
          have e33 : ev (.tmp 33) = .int .i64 t := hk 33 (by decide)
          clear hk hd
          refine Yield.call rfl hp Tryz.func25 rfl (by kernel_rfl) ?_
          simp only [List.map_toArray, List.map_cons, List.map_nil, e33]
          exact ((HO3.out ▸ numRef_any t wy)).mono fun _ _ ⟨he, hb⟩ => ⟨_, he, hb, by first | rfl | simp⟩
        · intro ev wy hp hl hk hd
          have e31 : ev (.tmp 31) = .string ⟨AB.toArray⟩ := hk 31 (by decide)
          have e34 : ev (.tmp 34) = .string ⟨C.toArray⟩ := hk 34 (by decide)
          clear hk hd
          exact Yield.op (w' := wy) (by simp [execOp, go_sem, e31, e34]; rw [if_neg (by omega), mk_append, HX.out]) ⟨Ext.refl _, rfl⟩
        · intro ev wy hp hl hk hd
          have e1 : ev (.tmp 1) = .pointer (some ⟨q, 0, none⟩) := hk 1 (by decide)
          clear hk hd
          exact Yield.op (v := .pointer (some ⟨q, 4, none⟩)) (w' := wy) (by simp [execOp, go_sem, e1]) ⟨Ext.refl _, rfl⟩
        · intro ev wy hp hl hk hd
          have e36 : ev (.tmp 36) = .pointer (some ⟨q, 4, none⟩) := hk 36 (by decide)
          clear hk hd
          exact Yield.op (v := .pointer (some ⟨q, 4, none⟩)) (w' := wy) (by simp [execOp, go_sem, e36]) ⟨Ext.refl _, rfl⟩
        · intro ev wy hp hl hk hd
          have e37 : ev (.tmp 37) = .pointer (some ⟨q, 4, none⟩) := hk 37 (by decide)
          clear hk hd
          exact Yield.load rfl e37 (ldInt (a2.out.ext hl).cells.2.2.2.2.1) ⟨Ext.refl _, rfl⟩
        · intro ev wy hp hl hk hd
          have e38 : ev (.tmp 38) = .int .i64 m := hk 38 (by decide)
          clear hk hd
          refine Yield.call rfl hp Tryz.func25 rfl (by kernel_rfl) ?_
          simp only [List.map_toArray, List.map_cons, List.map_nil, e38]
          exact ((HO4.out ▸ numRef_any m wy)).mono fun _ _ ⟨he, hb⟩ => ⟨_, he, hb, by first | rfl | simp⟩
        · intro ev wy hp hl hk hd
          have e35 : ev (.tmp 35) = .string ⟨X.toArray⟩ := hk 35 (by decide)
          have e39 : ev (.tmp 39) = .string ⟨D.toArray⟩ := hk 39 (by decide)
          clear hk hd
          exact Yield.op (w' := wy) (by simp [execOp, go_sem, e35, e39]; rw [if_neg (by omega), mk_append, HY.out]) ⟨Ext.refl _, rfl⟩
        · intro ev wy hp hl hk hd
          have e1 : ev (.tmp 1) = .pointer (some ⟨q, 0, none⟩) := hk 1 (by decide)
          clear hk hd
          exact Yield.op (v := .pointer (some ⟨q, 4, none⟩)) (w' := wy) (by simp [execOp, go_sem, e1]) ⟨Ext.refl _, rfl⟩
        · intro ev wy hp hl hk hd
          have e41 : ev (.tmp 41) = .pointer (some ⟨q, 4, none⟩) := hk 41 (by decide)
          clear hk hd
          exact Yield.op (v := .pointer (some ⟨q, 5, none⟩)) (w' := wy) (by simp [execOp, go_sem, e41]) ⟨Ext.refl _, rfl⟩
        · intro ev wy hp hl hk hd
          have e42 : ev (.tmp 42) = .pointer (some ⟨q, 5, none⟩) := hk 42 (by decide)
          clear hk hd
          exact Yield.load rfl e42 (ldInt (a2.out.ext hl).cells.2.2.2.2.2) ⟨Ext.refl _, rfl⟩
        · intro ev wy hp hl hk hd
          have e43 : ev (.tmp 43) = .int .i64 p := hk 43 (by decide)
          clear hk hd
          refine Yield.call rfl hp Tryz.func25 rfl (by kernel_rfl) ?_
          simp only [List.map_toArray, List.map_cons, List.map_nil, e43]
          exact ((HO5.out ▸ numRef_any p wy)).mono fun _ _ ⟨he, hb⟩ => ⟨_, he, hb, by first | rfl | simp⟩
        · intro ev wy hp hl hk hd
          have e40 : ev (.tmp 40) = .string ⟨Y.toArray⟩ := hk 40 (by decide)
          have e44 : ev (.tmp 44) = .string ⟨F.toArray⟩ := hk 44 (by decide)
          clear hk hd
          exact Yield.op (w' := wy) (by simp [execOp, go_sem, e40, e44]; rw [if_neg (by omega), mk_append, HZ.out]) ⟨Ext.refl _, rfl⟩
        · intro ev wy hp hl hk hd
          have e45 : ev (.tmp 45) = .string ⟨Z.toArray⟩ := hk 45 (by decide)
          clear hk hd
          exact Yield.as rfl ⟨Ext.refl _, e45⟩
      · intro vals wz hz hv
        have g31 : vals 0 = .string ⟨AB.toArray⟩ := hv 0 (by decide)
        have g32 : vals 1 = .pointer (some ⟨q, 3, none⟩) := hv 1 (by decide)
        have g33 : vals 2 = .int .i64 t := hv 2 (by decide)
        have g34 : vals 3 = .string ⟨C.toArray⟩ := hv 3 (by decide)
        have g35 : vals 4 = .string ⟨X.toArray⟩ := hv 4 (by decide)
        have g36 : vals 5 = .pointer (some ⟨q, 4, none⟩) := hv 5 (by decide)
        have g37 : vals 6 = .pointer (some ⟨q, 4, none⟩) := hv 6 (by decide)
        have g38 : vals 7 = .int .i64 m := hv 7 (by decide)
        have g39 : vals 8 = .string ⟨D.toArray⟩ := hv 8 (by decide)
        have g40 : vals 9 = .string ⟨Y.toArray⟩ := hv 9 (by decide)
        have g41 : vals 10 = .pointer (some ⟨q, 4, none⟩) := hv 10 (by decide)
        have g42 : vals 11 = .pointer (some ⟨q, 5, none⟩) := hv 11 (by decide)
        have g43 : vals 12 = .int .i64 p := hv 12 (by decide)
        have g44 : vals 13 = .string ⟨F.toArray⟩ := hv 13 (by decide)
        have g45 : vals 14 = .string ⟨Z.toArray⟩ := hv 14 (by decide)
        have g4 : vals 15 = .string ⟨Z.toArray⟩ := hv 15 (by decide)
        clear hv
        simp only [putAll, Act.put, List.setIfInBounds_toArray, List.set_cons_zero, List.set_cons_succ, g31, g32, g33, g34, g35, g36, g37, g38, g39, g40, g41, g42, g43, g44, g45, g4]
        clear g31
        clear g32
        clear g33
        clear g34
        clear g35
        clear g36
        clear g37
        clear g38
        clear g39
        clear g40
        clear g41
        clear g42
        clear g43
        clear g44
        clear g45
        clear g4
        have e3 := e2.trans hz
        have hcv := run_conv wz Z
        have hby := Lib.hid (bytes_of_str wz Z 5 (by unfold maxLen; omega))
        go_wp2_with fail
        refine (put_ref _ Z _ hby.out (by omega)).mono ?_
        rintro e w5 ⟨v5, rfl, hb5, hE5⟩
        have e5 := (e3.trans (ext_bytesWorld _ _ _)).trans hE5
        go_wp2_with fail
        go_ret2
        refine ⟨_, rfl, ?_, e5⟩
        show Bytes w5 v5 (Ent.enc _)
        unfold Ent.enc
        rw [hfin.out]
        exact hb5
end Go.Proofs.YtldfpklgbedgjaaGreat
namespace Go.Proofs.YtldfpklgbedgjaaGreat
namespace Ent
theorem readsTo_M (s : Pack.St) (k : Nat) : readsTo s k = Rec.readsM 1099511627776 s k := by
 induction k with
 | zero => rfl
 | succ k ih => simp only [readsTo, Rec.readsM, ih]
theorem vd_enc {l : List UInt8} (h : decOk l = true) : vecBytes (vd l) = l := by
 have hok := h
 unfold decOk at h
 rw [Bool.and_eq_true, beq_iff_eq, decide_eq_true_eq] at h
 obtain ⟨h1, h2⟩ := h
 obtain ⟨d1, d2⟩ := Rec.done_zero h2
 have e0 : (Rec.readsM 1099511627776 (Pack.St.num ⟨l, 0⟩ 8).1 (decN l)).1.err = 0 := by rw [← readsTo_M]; exact d2
 have e1 := Rec.reads_err _ e0
 have l1 := Rec.num_left (s := ⟨l, 0⟩) (most := 8) e1
 have l2 := Rec.reads_left _ e0
 rw [← readsTo_M] at l2
 have hn : (decS l).2.length = decN l := readsTo_len _ _
 unfold vd vecBytes
 rw [hok, orNone_true, hn]
 have l2' : (Pack.St.num ⟨l, 0⟩ 8).1.left = Rec.numsOf (decS l).2 := by
  rw [l2]
  show Rec.numsOf (decS l).2 ++ (decS l).1.left = _
  rw [d1, List.append_nil]
 rw [← l2']
 exact l1.symm
theorem decOk_of_right {l : List UInt8} (h : Vec.right (vd l) = true) : decOk l = true := by
 cases hd : decOk l with
 | true => rfl
 | false =>
  exfalso
  unfold vd at h
  rw [hd, orNone_false] at h
  have := (Vec.right_ok h).2.1
  simp at this
def pA (l : List UInt8) : Pack.St × Nat := Pack.St.num ⟨l, 0⟩ 1099511627776
def pB (l : List UInt8) : Pack.St × Nat := (pA l).1.num 2
def pV (l : List UInt8) : Pack.St × List UInt8 := (pB l).1.text 65536
def pT (l : List UInt8) : Pack.St × Nat := (pB l).1.num 1073741824
def pM (l : List UInt8) : Pack.St × Nat := (pT l).1.num 64
def pP (l : List UInt8) : Pack.St × Nat := (pM l).1.num 1099511627776
def pread (l : List UInt8) : Pack.St × E :=
 if (pB l).2 = 1 then ((pV l).1, ⟨(pA l).2, 1, vd (pV l).2, 0, 0, 0⟩)
 else if (pB l).2 = 2 then ((pP l).1, ⟨(pA l).2, 2, [], (pT l).2, (pM l).2, (pP l).2⟩)
 else ((pB l).1, ⟨(pA l).2, (pB l).2, [], 0, 0, 0⟩)
def pok (l : List UInt8) : Bool := ((pread l).1.done == 0) && right (pread l).2
theorem pread_one {l : List UInt8} (h : (pB l).2 = 1) : pread l = ((pV l).1, ⟨(pA l).2, 1, vd (pV l).2, 0, 0, 0⟩) := by unfold pread; rw [if_pos h]
theorem pread_two {l : List UInt8} (h : (pB l).2 = 2) : pread l = ((pP l).1, ⟨(pA l).2, 2, [], (pT l).2, (pM l).2, (pP l).2⟩) := by unfold pread; rw [if_neg (by omega), if_pos h]
theorem pread_else {l : List UInt8} (h1 : (pB l).2 ≠ 1) (h2 : (pB l).2 ≠ 2) : pread l = ((pB l).1, ⟨(pA l).2, (pB l).2, [], 0, 0, 0⟩) := by unfold pread; rw [if_neg h1, if_neg h2]
theorem pread_text {e : E} (h : right e = true) : pread (text e) = (⟨[], 0⟩, e) := by
 obtain ⟨h1, h2⟩ := right_ok h
 have hk : 0 ≤ e.kind ∧ e.kind ≤ 2 := by rcases h2 with ⟨k, _⟩ | ⟨k, _⟩ <;> omega
 have hA : pA (text e) = (⟨Pack.num e.kind.toNat ++ body e, 0⟩, e.number.toNat) := Pack.read_num _ _ _ _ (by omega) (by omega)
 have hB : pB (text e) = (⟨body e, 0⟩, e.kind.toNat) := by
  unfold pB; rw [hA]; exact Pack.read_num _ _ _ _ (by omega) (by omega)
 rcases h2 with ⟨k, v, t1, t2, t3⟩ | ⟨k, v, t1, t2, t3⟩
 · have hl := vecBytes_le v
   have hV : pV (text e) = (⟨[], 0⟩, vecBytes e.cut) := by
    unfold pV; rw [hB, body_one k]
    unfold Pack.St.text
    rw [Pack.read_num _ _ _ _ (by omega) (by omega)]
    simp
   rw [pread_one (by rw [hB]; show e.kind.toNat = 1; omega), hA, hV, vd_back _ v]
   refine congrArg (fun x => (_, x)) ?_
   exact same (by simp only []; omega) k.symm rfl t1.symm t2.symm t3.symm
 · have hT : pT (text e) = (⟨Pack.num e.term.toNat ++ Pack.num e.pos.toNat, 0⟩, e.tag.toNat) := by
    unfold pT; rw [hB, body_two (by omega)]; exact Pack.read_num _ _ _ _ (by omega) (by omega)
   have hM : pM (text e) = (⟨Pack.num e.pos.toNat, 0⟩, e.term.toNat) := by
    unfold pM; rw [hT]; exact Pack.read_num _ _ _ _ (by omega) (by omega)
   have hP : pP (text e) = (⟨[], 0⟩, e.pos.toNat) := by
    unfold pP; rw [hM]
    have := Pack.read_num e.pos.toNat [] 0 1099511627776 (by omega) (by omega)
    rw [List.append_nil] at this
    exact this
   rw [pread_two (by rw [hB]; show e.kind.toNat = 2; omega), hA, hT, hM, hP]
   refine congrArg (fun x => (_, x)) ?_
   exact same (by simp only []; omega) k.symm v.symm (by simp only []; omega) (by simp only []; omega) (by simp only []; omega)
theorem pok_text {e : E} (h : right e = true) : pok (text e) = true := by
 unfold pok
 rw [pread_text h, h]
 rfl
set_option maxHeartbeats 4000000 in
theorem text_pread {l : List UInt8} (h : pok l = true) : text (pread l).2 = l := by
 unfold pok at h
 rw [Bool.and_eq_true, beq_iff_eq] at h
 obtain ⟨hd, hr⟩ := h
 obtain ⟨d1, d2⟩ := Rec.done_zero hd
 have h2 := (right_ok hr).2
 have one : (pB l).2 = 1 ∨ (pB l).2 = 2 := by
  by_cases h1 : (pB l).2 = 1
  · exact .inl h1
  · by_cases h2' : (pB l).2 = 2
    · exact .inr h2'
    · rw [pread_else h1 h2'] at h2
      simp only at h2
      omega
 rcases one with h1 | h1
 · rw [pread_one h1] at d1 d2 hr h2 ⊢
   simp only at d1 d2 h2
   have hv : Vec.right (vd (pV l).2) = true := by
    rcases h2 with ⟨_, hv, _⟩ | ⟨h, _⟩
    · exact hv
    · omega
   have d2' : ((pB l).1.text 65536).1.err = 0 := d2
   have eB : (pB l).1.err = 0 := Rec.num_err (Rec.text_err d2')
   have eB' : ((pA l).1.num 2).1.err = 0 := eB
   have eA : (pA l).1.err = 0 := Rec.num_err eB'
   have eA' : (Pack.St.num ⟨l, 0⟩ 1099511627776).1.err = 0 := eA
   have lV := Rec.text_left (s := (pB l).1) (most := 65536) d2'
   have lB := Rec.num_left (s := (pA l).1) (most := 2) eB'
   have lA := Rec.num_left (s := ⟨l, 0⟩) (most := 1099511627776) eA'
   have lV' : (pB l).1.left = Pack.num (pV l).2.length ++ (pV l).2 := by
    rw [lV]
    show Pack.num (pV l).2.length ++ ((pV l).2 ++ (pV l).1.left) = _
    rw [d1, List.append_nil]
   have lB' : (pA l).1.left = Pack.num (pB l).2 ++ (pB l).1.left := lB
   have lA' : l = Pack.num (pA l).2 ++ (pA l).1.left := lA
   unfold text
   rw [body_one rfl]
   simp only
   rw [vd_enc (decOk_of_right hv), ← lV', show ((1 : Int)).toNat = (pB l).2 from h1.symm, ← lB', show (((pA l).2 : Nat) : Int).toNat = (pA l).2 from rfl, ← lA']
 · rw [pread_two h1] at d1 d2 hr h2 ⊢
   simp only at d1 d2 h2
   have eP' : ((pM l).1.num 1099511627776).1.err = 0 := d2
   have eM' : ((pT l).1.num 64).1.err = 0 := Rec.num_err eP'
   have eT' : ((pB l).1.num 1073741824).1.err = 0 := Rec.num_err (s := (pT l).1) (most := 64) eM'
   have eB' : ((pA l).1.num 2).1.err = 0 := Rec.num_err (s := (pB l).1) (most := 1073741824) eT'
   have eA' : (Pack.St.num ⟨l, 0⟩ 1099511627776).1.err = 0 := Rec.num_err (s := (pA l).1) (most := 2) eB'
   have lP := Rec.num_left (s := (pM l).1) (most := 1099511627776) eP'
   have lM := Rec.num_left (s := (pT l).1) (most := 64) eM'
   have lT := Rec.num_left (s := (pB l).1) (most := 1073741824) eT'
   have lB := Rec.num_left (s := (pA l).1) (most := 2) eB'
   have lA := Rec.num_left (s := ⟨l, 0⟩) (most := 1099511627776) eA'
   have lP0 : (pM l).1.left = Pack.num (pP l).2 ++ (pP l).1.left := lP
   have lP' : (pM l).1.left = Pack.num (pP l).2 := lP0.trans (by rw [d1, List.append_nil])
   have lM' : (pT l).1.left = Pack.num (pM l).2 ++ (pM l).1.left := lM
   have lT' : (pB l).1.left = Pack.num (pT l).2 ++ (pT l).1.left := lT
   have lB' : (pA l).1.left = Pack.num (pB l).2 ++ (pB l).1.left := lB
   have lA' : l = Pack.num (pA l).2 ++ (pA l).1.left := lA
   unfold text
   rw [body_two (by show (2 : Int) ≠ 1; decide)]
   simp only
   rw [show (((pP l).2 : Nat) : Int).toNat = (pP l).2 from rfl, ← lP', show (((pM l).2 : Nat) : Int).toNat = (pM l).2 from rfl, ← lM', show (((pT l).2 : Nat) : Int).toNat = (pT l).2 from rfl, ← lT', show ((2 : Int)).toNat = (pB l).2 from h1.symm, ← lB', show (((pA l).2 : Nat) : Int).toNat = (pA l).2 from rfl, ← lA']
theorem cut_back {b l : List UInt8} (h : Crc.cutOf b = some l) : l ++ Crc.low (Crc.sum l) = b := by
 unfold Crc.cutOf at h
 split at h
 · cases h
 · split at h
   · rename_i hc
     injection h with h
     rw [← h]
     exact hc
   · cases h
theorem dec_pok {b l : List UInt8} (hc : Crc.cutOf b = some l) (h : pok l = true) : dec vd b = some (pread l).2 := by
 have hr : right (pread l).2 = true := by
  unfold pok at h
  rw [Bool.and_eq_true] at h
  exact h.2
 rw [dec_vd_iff]
 refine ⟨hr, ?_⟩
 unfold enc
 rw [text_pread h]
 exact cut_back hc
theorem dec_not {b l : List UInt8} (hc : Crc.cutOf b = some l) (h : pok l = false) : dec vd b = none := by
 cases hd : dec vd b with
 | none => rfl
 | some e =>
  exfalso
  obtain ⟨hr, he⟩ := dec_vd_iff.1 hd
  have : Crc.cutOf b = some (text e) := by rw [← he]; exact Crc.cut_put _
  rw [hc] at this
  injection this with this
  rw [this, pok_text hr] at h
  cases h
theorem dec_cut {b : List UInt8} (hc : Crc.cutOf b = none) : dec vd b = none := by
 unfold dec
 rw [hc]
def noE : E := ⟨0, 0, [], 0, 0, 0⟩
def errOf : Option (List UInt8) → Option E → Int
 | none, _ => 51
 | some _, none => 50
 | some _, some _ => 0
def entOf : Option E → E
 | none => noE
 | some e => e
end Ent
end Go.Proofs.YtldfpklgbedgjaaGreat
namespace Go.Proofs.YtldfpklgbedgjaaGreat
set_option linter.unusedSimpArgs false
set_option linter.unusedVariables false
set_option maxRecDepth 100000
open Go.RowKit
def RowEnt (w : World) (v : Value) (e : Ent.E) : Prop := ∃ t, v = entV t e ∧ RowI w t e.cut
theorem RowEnt.is {w : World} {v : Value} {e : Ent.E} (h : RowEnt w v e) : IsEnt w v e := by
 obtain ⟨t, e, h⟩ := h
 exact ⟨t, e, h.ints⟩
def GivesRow5 (w : World) (l : List UInt8) (x : Ending) (w' : World) : Prop := ∃ u, x = .returned (.tuple #[u, .int .i64 (Ent.errOf (Crc.cutOf l) (Ent.dec Ent.vd l))]) ∧ RowEnt w' u (Ent.entOf (Ent.dec Ent.vd l)) ∧ Ext w w'
theorem build_ent0 (w : World) : (Instr.build 42 #[]).run Tryz.prog w = .ok (.agg #[.int .i64 0, .int .i64 0, .slice none 0 0, .int .i64 0, .int .i64 0, .int .i64 0]) w := by kernel_rfl
theorem build_ent2 (w : World) (n k : Int) : (Instr.build 42 #[(0, .int .i64 n), (1, .int .i64 k)]).run Tryz.prog w = .ok (.agg #[.int .i64 n, .int .i64 k, .slice none 0 0, .int .i64 0, .int .i64 0, .int .i64 0]) w := by kernel_rfl
theorem build_seq2 (w : World) (c n : Int) : (Instr.build 28 #[(0, .int .i64 c), (1, .int .i64 n)]).run Tryz.prog w = .ok (.agg #[.int .i64 c, .int .i64 n]) w := by kernel_rfl
theorem EntAt.zero (T : TypeId) (w : World) : EntAt T (w.alloc (.cells #[.int .i64 0, .int .i64 0, .slice none 0 0, .int .i64 0, .int .i64 0, .int .i64 0] T)) w.heap.size (.slice none 0 0) Ent.noE := by
 unfold EntAt Ent.noE
 exact heap_alloc_new w _
theorem set_six {w : World} {q : Nat} {x0 x1 x2 x3 x4 x5 : Value} {T : TypeId} (h : w.heap[q]? = some (.cells #[x0, x1, x2, x3, x4, x5] T (0, 0))) (v0 v1 v2 v3 v4 v5 : Value) :
 ((((((w.setCell ⟨q, 0, none⟩ v0).setCell ⟨q, 1, none⟩ v1).setCell ⟨q, 2, none⟩ v2).setCell ⟨q, 3, none⟩ v3).setCell ⟨q, 4, none⟩ v4).setCell ⟨q, 5, none⟩ v5).heap[q]? = some (.cells #[v0, v1, v2, v3, v4, v5] T (0, 0)) ∧ But q w ((((((w.setCell ⟨q, 0, none⟩ v0).setCell ⟨q, 1, none⟩ v1).setCell ⟨q, 2, none⟩ v2).setCell ⟨q, 3, none⟩ v3).setCell ⟨q, 4, none⟩ v4).setCell ⟨q, 5, none⟩ v5) := by
 refine ⟨?_, ((((((But.refl _ _).setCell 0 none v0).setCell 1 none v1).setCell 2 none v2).setCell 3 none v3).setCell 4 none v4).setCell 5 none v5⟩
 have := heap_setCell (heap_setCell (heap_setCell (heap_setCell (heap_setCell (heap_setCell h 0 v0) 1 v1) 2 v2) 3 v3) 4 v4) 5 v5
 simpa using this
theorem EntAt.set {T : TypeId} {w : World} {p : Nat} {t : Value} {e : Ent.E} (h : EntAt T w p t e) (t' : Value) (e' : Ent.E) :
 EntAt T ((((((w.setCell ⟨p, 0, none⟩ (.int .i64 e'.number)).setCell ⟨p, 1, none⟩ (.int .i64 e'.kind)).setCell ⟨p, 2, none⟩ t').setCell ⟨p, 3, none⟩ (.int .i64 e'.tag)).setCell ⟨p, 4, none⟩ (.int .i64 e'.term)).setCell ⟨p, 5, none⟩ (.int .i64 e'.pos)) p t' e' ∧
 But p w ((((((w.setCell ⟨p, 0, none⟩ (.int .i64 e'.number)).setCell ⟨p, 1, none⟩ (.int .i64 e'.kind)).setCell ⟨p, 2, none⟩ t').setCell ⟨p, 3, none⟩ (.int .i64 e'.tag)).setCell ⟨p, 4, none⟩ (.int .i64 e'.term)).setCell ⟨p, 5, none⟩ (.int .i64 e'.pos)) := set_six h _ _ _ _ _ _
theorem EntAt.setNumber {T : TypeId} {w : World} {q : Nat} {u : Value} {n k t m p n' : Int} {c : List Int} (h : EntAt T w q u ⟨n, k, c, t, m, p⟩) : EntAt T (w.setCell ⟨q, 0, none⟩ (.int .i64 n')) q u ⟨n', k, c, t, m, p⟩ := by
 have := heap_setCell h 0 (.int .i64 n')
 unfold EntAt
 simpa using this
theorem EntAt.setKind {T : TypeId} {w : World} {q : Nat} {u : Value} {n k t m p k' : Int} {c : List Int} (h : EntAt T w q u ⟨n, k, c, t, m, p⟩) : EntAt T (w.setCell ⟨q, 1, none⟩ (.int .i64 k')) q u ⟨n, k', c, t, m, p⟩ := by
 have := heap_setCell h 1 (.int .i64 k')
 unfold EntAt
 simpa using this
theorem EntAt.setCut {T : TypeId} {w : World} {q : Nat} {u u' : Value} {n k t m p : Int} {c c' : List Int} (h : EntAt T w q u ⟨n, k, c, t, m, p⟩) : EntAt T (w.setCell ⟨q, 2, none⟩ u') q u' ⟨n, k, c', t, m, p⟩ := by
 have := heap_setCell h 2 u'
 unfold EntAt
 simpa using this
theorem EntAt.setTag {T : TypeId} {w : World} {q : Nat} {u : Value} {n k t m p t' : Int} {c : List Int} (h : EntAt T w q u ⟨n, k, c, t, m, p⟩) : EntAt T (w.setCell ⟨q, 3, none⟩ (.int .i64 t')) q u ⟨n, k, c, t', m, p⟩ := by
 have := heap_setCell h 3 (.int .i64 t')
 unfold EntAt
 simpa using this
theorem EntAt.setTerm {T : TypeId} {w : World} {q : Nat} {u : Value} {n k t m p m' : Int} {c : List Int} (h : EntAt T w q u ⟨n, k, c, t, m, p⟩) : EntAt T (w.setCell ⟨q, 4, none⟩ (.int .i64 m')) q u ⟨n, k, c, t, m', p⟩ := by
 have := heap_setCell h 4 (.int .i64 m')
 unfold EntAt
 simpa using this
theorem EntAt.setPos {T : TypeId} {w : World} {q : Nat} {u : Value} {n k t m p p' : Int} {c : List Int} (h : EntAt T w q u ⟨n, k, c, t, m, p⟩) : EntAt T (w.setCell ⟨q, 5, none⟩ (.int .i64 p')) q u ⟨n, k, c, t, m, p'⟩ := by
 have := heap_setCell h 5 (.int .i64 p')
 unfold EntAt
 simpa using this
theorem Ent.pok_eq {l : List UInt8} {S : Pack.St} {E : Ent.E} (h : Ent.pread l = (S, E)) : Ent.pok l = ((S.done == 0) && Ent.right E) := by unfold Ent.pok; rw [h]
theorem cutOf_le {l t : List UInt8} (h : Crc.cutOf l = some t) : t.length ≤ l.length := by
 unfold Crc.cutOf at h
 split at h
 · cases h
 · split at h
   · injection h with h
     rw [← h, List.length_take]
     omega
   · cases h
theorem textMost (s : Pack.St) (most : Int) (h : 0 ≤ most) : ((s.text most).2.length : Int) ≤ most := by
 have h1 := numMost s most h
 unfold Pack.St.text
 simp only
 split
 · simpa using h
 · rw [List.length_take]
   omega
set_option maxHeartbeats 8000000 in
theorem decode5_row (v : Value) (l : List UInt8) (w : World) (hv : Bytes w v l) (hl : l.length ≤ 200000) :
 Calls Tryz.prog 98 #[v] w (GivesRow5 w l) := by
 have hb0 := build_ent0
 have hb1 := build_ent2
 have hb2 := build_seq2
 have HV := Lib.hid hv
 obtain ⟨a, cap, rfl, hcap, hmax, hn, hc⟩ := hv.open
 unfold maxLen at hmax
 clear hv hc
 unfold GivesRow5
 have hno := fun h => Ent.dec_cut (b := l) h
 have hyes := fun t h1 h2 => Ent.dec_pok (b := l) (l := t) h1 h2
 have hnot := fun t h1 h2 => Ent.dec_not (b := l) (l := t) h1 h2
 have hlen := fun t h => cutOf_le (l := l) (t := t) h
 obtain ⟨D, hD⟩ : ∃ D, Ent.dec Ent.vd l = D := ⟨_, rfl⟩
 obtain ⟨C, hC⟩ : ∃ C, Crc.cutOf l = C := ⟨_, rfl⟩
 rw [hC, hD] at hno hyes hnot ⊢
 rw [hC] at hlen
 have HC := Lib.hid hC
 have HNO := Lib.hid hno
 have HYES := Lib.hid hyes
 have HNOT := Lib.hid hnot
 have HLEN := Lib.hid hlen
 clear hC hD hno hyes hnot hlen
 have hE0 : Ext w (w.alloc (.cells #[.int .i64 0, .int .i64 0, .slice none 0 0, .int .i64 0, .int .i64 0, .int .i64 0] 42)) := Ext.alloc _ _
 have HR0 := Lib.hid (EntAt.zero 42 w)
 go_enter Tryz.func98, Tryz.ntmps98
 go_wp2_with fail
 refine (new_any _).mono ?_
 rintro e w1 ⟨rfl, ht1, hE1⟩
 rw [World.size_alloc] at ht1 ⊢
 have r1 := Lib.hid (HR0.out.ext hE1)
 have e1 := hE0.trans hE1
 go_wp2_with fail
 have hcall := cut_any _ 0 0 _ l _ ht1 (.inl rfl) (HV.out.below e1) hl
 rw [HC.out] at hcall
 refine hcall.mono ?_
 clear hcall
 intro e w2 hq
 obtain ⟨-, hB2, hcut⟩ := hq
 have e2 : Ext w w2 := Below.trans (B := w.heap.size) e1 (hB2.below (Nat.le_succ _) e1.size)
 have r2 := Lib.hid (r1.out.but hB2 (by simp))
 obtain ⟨c0, c1, c2, c3, c4, c5⟩ := r2.out.cells
 have fr : ∀ i, w2.frozen? ⟨w.heap.size, i, none⟩ = false := fun i => frozen_of_heap r2.out i
 cases C with
 | none =>
  subst hcut
  have hno := HNO.out rfl
  subst hno
  go_wp2_with fail
  have hs := r2.out.set (.slice none 0 0) Ent.noE
  exact bodyPost_ret (v := .tuple #[entV (.slice none 0 0) Ent.noE, .int .i64 51]) (by simp [results, Tryz.results98, go_sem, c0, c1, c2, c3, c4, c5, fr, Ent.noE, entV]) rfl ⟨_, rfl, ⟨_, rfl, RowI.nil _⟩, Below.trans (B := w.heap.size) e2 (hs.2.below (Nat.le_refl _) e2.size)⟩
 | some t =>
  obtain ⟨v2, rfl, hb2⟩ := hcut
  have htl : t.length ≤ l.length := HLEN.out t rfl
  have hA : Ent.pA t = Pack.St.num ⟨t, 0⟩ 1099511627776 := rfl
  obtain ⟨A, hA'⟩ : ∃ A, Ent.pA t = A := ⟨_, rfl⟩
  have hB : Ent.pB t = A.1.num 2 := by unfold Ent.pB; rw [hA']
  obtain ⟨B, hB'⟩ : ∃ B, Ent.pB t = B := ⟨_, rfl⟩
  rw [hA'] at hA
  rw [hB'] at hB
  have HA := Lib.hid hA.symm
  have HB := Lib.hid hB.symm
  have HAA := Lib.hid hA'
  have HBB := Lib.hid hB'
  have hB2' : B.2 ≤ 2 := by
   have := numMost A.1 2 (by omega)
   rw [← hB] at this
   omega
  obtain ⟨A1, nA⟩ := A
  obtain ⟨B1, nB⟩ := B
  simp only at HB hB2'
  clear hA hB hA' hB' c0 c1 c2 c3 c4 c5 fr
  obtain ⟨a2, n2, k2, rfl⟩ := hb2.isSlice
  go_wp2_with fail
  refine (newReader_any _ t _ hb2 (by omega)).mono ?_
  rintro e w3 ⟨p, rfl, hp, hr3, hE3⟩
  have e3 := e2.trans hE3
  have r3 := Lib.hid (r2.out.ext hE3)
  have hq0 : w.heap.size ≠ p := by have := r2.out.lt; omega
  have hwp : w.heap.size ≤ p := Nat.le_trans e2.size hp
  go_wp2_with fail
  refine (num_any p _ 1099511627776 _ hr3).mono ?_
  rw [HA.out]
  rintro e w4 ⟨rfl, hB4, hr4⟩
  have r4 := Lib.hid (r3.out.but hB4 hq0)
  have e4 : Ext w w4 := Below.trans (B := w.heap.size) e3 (hB4.below hwp e3.size)
  go_wp2_with fail
  refine (num_any p _ 2 _ hr4).mono ?_
  rw [HB.out]
  rintro e w5 ⟨rfl, hB5, hr5⟩
  have r5 := Lib.hid (r4.out.but hB5 hq0)
  have e5 : Ext w w5 := Below.trans (B := w.heap.size) e4 (hB5.below hwp e4.size)
  have hpq : p < w5.heap.size := hr5.lt
  have hwq : w.heap.size < w5.heap.size := by have := r5.out.lt; omega
  obtain ⟨k, hk⟩ : ∃ k : Int, (nB : Int) = k := ⟨_, rfl⟩
  obtain ⟨x, hx⟩ : ∃ x : Int, (nA : Int) = x := ⟨_, rfl⟩
  have HX := Lib.hid hx
  have HKK := Lib.hid hk
  dsimp only
  rw [hk, hx]
  clear hx
  have hE6 : Ext w5 (w5.alloc (.cells #[.int .i64 x, .int .i64 k, .slice none 0 0, .int .i64 0, .int .i64 0, .int .i64 0] 42)) := Ext.alloc _ _
  have x6 := Lib.hid (EntAt.new 42 w5 (.slice none 0 0) ⟨x, k, [], 0, 0, 0⟩)
  have r6 := Lib.hid (r5.out.ext hE6)
  have e6 := e5.trans hE6
  have R6 := Lib.hid (hr5.ext hE6)
  obtain ⟨y0, y1, y2, y3, y4, y5⟩ := x6.out.cells
  have fx := fun i => frozen_of_heap x6.out i
  by_cases k1 : k = 1
  · subst k1
    have hn1 : nB = 1 := by omega
    clear hk
    obtain ⟨F, hF⟩ : ∃ F, Ent.pV t = F := ⟨_, rfl⟩
    have hF' : B1.text 65536 = F := by rw [← hF]; unfold Ent.pV; rw [HBB.out]
    have HP := Lib.hid (show Ent.pread t = (F.1, ⟨x, 1, Ent.vd F.2, 0, 0, 0⟩) by rw [Ent.pread_one (by rw [HBB.out]; exact hn1), hF, HAA.out, ← HX.out])
    have hFl : F.2.length ≤ 65536 := by have := textMost B1 65536 (by omega); rw [hF'] at this; omega
    have HF := Lib.hid hF'
    clear hF hF' hn1
    go_wp2_with fail
    clear y0 y1 y2 y3 y4 y5 fx
    generalize hw6 : w5.alloc (.cells #[.int .i64 x, .int .i64 1, .slice none 0 0, .int .i64 0, .int .i64 0, .int .i64 0] 42) = w6 at *
    generalize hq : w5.heap.size = q at *
    clear hw6 hq
    refine (text_any p _ 65536 _ R6.out).mono ?_
    rw [HF.out]
    rintro e w7 ⟨rfl, hB7, hr7⟩
    have x7 := Lib.hid (x6.out.but hB7 (by omega))
    have r7 := Lib.hid (r6.out.but hB7 hq0)
    have e7 : Ext w w7 := Below.trans (B := w.heap.size) e6 (hB7.below hwp e6.size)
    have hcv := run_conv w7 F.2
    have hby := Lib.hid (bytes_of_str w7 F.2 5 (by unfold maxLen; omega))
    have hEb := ext_bytesWorld w7 5 ⟨F.2.toArray⟩
    have hR7 := Lib.hid hr7
    clear hr7
    go_wp2_with fail
    refine (decode_own _ F.2 _ hby.out (by omega)).mono ?_
    unfold GivesDecO
    rintro e w8 ⟨v8, rfl, ho8, hE8⟩
    have hE78 := hEb.trans hE8
    have x8 := Lib.hid (x7.out.ext hE78)
    have r8 := Lib.hid (r7.out.ext hE78)
    have R8 := Lib.hid (hR7.out.ext hE78)
    have e8 := e7.trans hE78
    obtain ⟨a8, n8, c8, rfl⟩ := ownSlice ho8
    have O8 := Lib.hid (show w8.ownsRow _ 3 1 (.slice a8 n8 c8) (Ent.vd F.2).length (i64s (Ent.vd F.2)) from ho8)
    have hfar : ∀ j, (Value.slice a8 n8 c8).ownBlock = some j → q < j := fun j hj => by
     have h1 := (O8.out.lt j hj).1
     have h2 := hEb.size
     have h3 := x7.out.lt
     omega
    have O9 := Lib.hid (rowBut O8.out (p := q) (fun e => by have := hfar _ e.symm; omega) (butSet w8 q 2 (.slice a8 n8 c8)))
    have HKEEP := Lib.hid (show ∀ w11 w', Ext (w8.setCell ⟨q, 2, none⟩ (.slice a8 n8 c8)) w11 → But w.heap.size w11 w' → RowI w' (.slice a8 n8 c8) (Ent.vd F.2) from fun w11 w' hE hB => ⟨_, _, rowBut (rowExt O9.out hE) (fun e => by have := hfar _ e.symm; omega) hB⟩)
    have HI9 := Lib.hid (show Ints (w8.setCell ⟨q, 2, none⟩ (.slice a8 n8 c8)) (.slice a8 n8 c8) (Ent.vd F.2) from Sl.ofOwn O9.out)
    obtain ⟨y0, y1, y2, y3, y4, y5⟩ := x8.out.cells
    have fx := fun i => frozen_of_heap x8.out i
    have x9 := Lib.hid (EntAt.setCut (u' := .slice a8 n8 c8) (c' := Ent.vd F.2) x8.out)
    have r9 := Lib.hid (r8.out.but (butSet w8 q 2 (.slice a8 n8 c8)) (by omega))
    have R9 := Lib.hid (R8.out.setBehind (q := q) (o := 2) (v := .slice a8 n8 c8) (by omega))
    have e9 : Ext w (w8.setCell ⟨q, 2, none⟩ (.slice a8 n8 c8)) := Below.setCell e8 (p := ⟨q, 2, none⟩) (by show w.heap.size ≤ q; omega) _
    clear ho8 hfar
    go_wp2_with fail
    generalize hw9 : w8.setCell ⟨q, 2, none⟩ (.slice a8 n8 c8) = w9 at *
    clear hw9 y0 y1 y2 y3 y4 y5 fx
    refine (end_any p _ _ R9.out).mono ?_
    obtain ⟨d, hdd⟩ : ∃ d, F.1.done = d := ⟨_, rfl⟩
    have HOK := Lib.hid (Ent.pok_eq HP.out)
    rw [hdd] at HOK ⊢
    clear hdd
    rintro e w10 ⟨rfl, rfl⟩
    by_cases hd : d = 0
    · subst hd
      have HOK2 := Lib.hid (show Ent.pok t = Ent.right ⟨x, 1, Ent.vd F.2, 0, 0, 0⟩ by rw [HOK.out]; rfl)
      obtain ⟨d0, d1, d2, d3, d4, d5⟩ := x9.out.cells
      clear HOK
      go_wp2_with fail
      refine (right5_any _ ⟨x, 1, Ent.vd F.2, 0, 0, 0⟩ _ ⟨_, rfl, HI9.out⟩).mono ?_
      rintro e w11 ⟨rfl, hE11⟩
      have r11 := Lib.hid (r9.out.ext hE11)
      have x11 := Lib.hid (x9.out.ext hE11)
      have e11 := e9.trans hE11
      have HI11 := Lib.hid (HI9.out.below hE11)
      clear d0 d1 d2 d3 d4 d5
      obtain ⟨c0, c1, c2, c3, c4, c5⟩ := r11.out.cells
      obtain ⟨d0, d1, d2, d3, d4, d5⟩ := x11.out.cells
      have fr : ∀ i, w11.frozen? ⟨w.heap.size, i, none⟩ = false := fun i => frozen_of_heap r11.out i
      cases hrr : Ent.right ⟨x, 1, Ent.vd F.2, 0, 0, 0⟩ with
      | false =>
       have hno := HNOT.out t rfl (HOK2.out.trans hrr)
       subst hno
       clear hrr HOK2
       go_wp2_with fail
       have hs := r11.out.set (.slice none 0 0) Ent.noE
       exact bodyPost_ret (v := .tuple #[entV (.slice none 0 0) Ent.noE, .int .i64 50]) (by simp [results, Tryz.results98, go_sem, c0, c1, c2, c3, c4, c5, fr, Ent.noE, entV]) rfl
        ⟨_, rfl, ⟨_, rfl, RowI.nil _⟩, Below.trans (B := w.heap.size) e11 (hs.2.below (Nat.le_refl _) e11.size)⟩
      | true =>
       have hyes := HYES.out t rfl (HOK2.out.trans hrr)
       rw [HP.out] at hyes
       subst hyes
       clear hrr HOK2
       go_wp2_with fail
       have hs := r11.out.set (.slice a8 n8 c8) ⟨x, 1, Ent.vd F.2, 0, 0, 0⟩
       exact bodyPost_ret (v := .tuple #[entV (.slice a8 n8 c8) ⟨x, 1, Ent.vd F.2, 0, 0, 0⟩, .int .i64 0]) (by simp [results, Tryz.results98, go_sem, c0, c1, c2, c3, c4, c5, d0, d1, d2, d3, d4, d5, fr, entV]) rfl
        ⟨_, rfl, ⟨_, rfl, HKEEP.out _ _ hE11 hs.2⟩, Below.trans (B := w.heap.size) e11 (hs.2.below (Nat.le_refl _) e11.size)⟩
    · have hno := HNOT.out t rfl (by rw [HOK.out, show (d == 0) = false from beq_eq_false_iff_ne.2 hd]; rfl)
      subst hno
      clear HOK
      obtain ⟨c0, c1, c2, c3, c4, c5⟩ := r9.out.cells
      have fr : ∀ i, w9.frozen? ⟨w.heap.size, i, none⟩ = false := fun i => frozen_of_heap r9.out i
      go_wp2_with fail
      have hs := r9.out.set (.slice none 0 0) Ent.noE
      exact bodyPost_ret (v := .tuple #[entV (.slice none 0 0) Ent.noE, .int .i64 50]) (by simp [results, Tryz.results98, go_sem, c0, c1, c2, c3, c4, c5, fr, Ent.noE, entV]) rfl
       ⟨_, rfl, ⟨_, rfl, RowI.nil _⟩, Below.trans (B := w.heap.size) e9 (hs.2.below (Nat.le_refl _) e9.size)⟩
  · by_cases k2 : k = 2
    · subst k2
      have hn2 : nB = 2 := by omega
      clear hk
      obtain ⟨F1, nF, hF⟩ : ∃ F1 nF, Ent.pT t = (F1, nF) := ⟨_, _, rfl⟩
      obtain ⟨G1, nG, hG⟩ : ∃ G1 nG, Ent.pM t = (G1, nG) := ⟨_, _, rfl⟩
      obtain ⟨H1, nH, hH⟩ : ∃ H1 nH, Ent.pP t = (H1, nH) := ⟨_, _, rfl⟩
      have hF' : B1.num 1073741824 = (F1, nF) := by rw [← hF]; unfold Ent.pT; rw [HBB.out]
      have hG' : F1.num 64 = (G1, nG) := by rw [← hG]; unfold Ent.pM; rw [hF]
      have hH' : G1.num 1099511627776 = (H1, nH) := by rw [← hH]; unfold Ent.pP; rw [hG]
      have HP := Lib.hid (show Ent.pread t = (H1, ⟨x, 2, [], (nF : Int), (nG : Int), (nH : Int)⟩) by rw [Ent.pread_two (by rw [HBB.out]; exact hn2), hF, hG, hH, HAA.out, ← HX.out])
      have HF := Lib.hid hF'
      have HG := Lib.hid hG'
      have HH := Lib.hid hH'
      clear hF hF' hG hG' hH hH' hn2
      go_wp2_with fail
      clear y0 y1 y2 y3 y4 y5 fx
      generalize hw6 : w5.alloc (.cells #[.int .i64 x, .int .i64 2, .slice none 0 0, .int .i64 0, .int .i64 0, .int .i64 0] 42) = w6 at *
      generalize hq : w5.heap.size = q at *
      clear hw6 hq
      refine (num_any p _ 1073741824 _ R6.out).mono ?_
      rw [HF.out]
      rintro e w7 ⟨rfl, hB7, hr7⟩
      obtain ⟨f, hf⟩ : ∃ f : Int, (nF : Int) = f := ⟨_, rfl⟩
      dsimp only
      rw [hf]
      rw [hf] at HP
      clear hf
      have x7 := Lib.hid (x6.out.but hB7 (by omega))
      have r7 := Lib.hid (r6.out.but hB7 hq0)
      have e7 : Ext w w7 := Below.trans (B := w.heap.size) e6 (hB7.below hwp e6.size)
      obtain ⟨y0, y1, y2, y3, y4, y5⟩ := x7.out.cells
      have fx := fun i => frozen_of_heap x7.out i
      have x8 := Lib.hid (EntAt.setTag (t' := f) x7.out)
      have r8 := Lib.hid (r7.out.but (butSet w7 q 3 (.int .i64 f)) (by omega))
      have R8 := Lib.hid (hr7.setBehind (q := q) (o := 3) (v := .int .i64 f) (by omega))
      have e8 : Ext w (w7.setCell ⟨q, 3, none⟩ (.int .i64 f)) := Below.setCell e7 (p := ⟨q, 3, none⟩) (by show w.heap.size ≤ q; omega) _
      clear hr7
      go_wp2_with fail
      generalize hw8 : w7.setCell ⟨q, 3, none⟩ (.int .i64 f) = w8 at *
      clear hw8 y0 y1 y2 y3 y4 y5 fx
      refine (num_any p _ 64 _ R8.out).mono ?_
      rw [HG.out]
      rintro e wa ⟨rfl, hBa, hra⟩
      obtain ⟨g, hg⟩ : ∃ g : Int, (nG : Int) = g := ⟨_, rfl⟩
      dsimp only
      rw [hg]
      rw [hg] at HP
      clear hg
      have xa := Lib.hid (x8.out.but hBa (by omega))
      have ra := Lib.hid (r8.out.but hBa hq0)
      have ea : Ext w wa := Below.trans (B := w.heap.size) e8 (hBa.below hwp e8.size)
      go_wp2_with fail
      refine (num_any p _ 1099511627776 _ hra).mono ?_
      rw [HH.out]
      rintro e wb ⟨rfl, hBb, hrb⟩
      obtain ⟨h, hh⟩ : ∃ h : Int, (nH : Int) = h := ⟨_, rfl⟩
      dsimp only
      rw [hh]
      rw [hh] at HP
      clear hh
      have xb := Lib.hid (xa.out.but hBb (by omega))
      have rb := Lib.hid (ra.out.but hBb hq0)
      have eb : Ext w wb := Below.trans (B := w.heap.size) ea (hBb.below hwp ea.size)
      obtain ⟨y0, y1, y2, y3, y4, y5⟩ := xb.out.cells
      have fx := fun i => frozen_of_heap xb.out i
      have x9 := Lib.hid (EntAt.setPos (p' := h) (EntAt.setTerm (m' := g) xb.out))
      have hBc : But q wb ((wb.setCell ⟨q, 4, none⟩ (.int .i64 g)).setCell ⟨q, 5, none⟩ (.int .i64 h)) := (butSet wb q 4 (.int .i64 g)).setCell 5 none _
      have r9 := Lib.hid (rb.out.but hBc (by omega))
      have R9 := Lib.hid ((hrb.setBehind (q := q) (o := 4) (v := .int .i64 g) (by omega)).setBehind (q := q) (o := 5) (v := .int .i64 h) (by omega))
      have e9 : Ext w ((wb.setCell ⟨q, 4, none⟩ (.int .i64 g)).setCell ⟨q, 5, none⟩ (.int .i64 h)) := Below.trans (B := w.heap.size) eb (hBc.below (by omega) eb.size)
      have HI9 := Lib.hid (ints_none ((wb.setCell ⟨q, 4, none⟩ (.int .i64 g)).setCell ⟨q, 5, none⟩ (.int .i64 h)))
      clear hrb hBc
      go_wp2_with fail
      generalize hw9 : (wb.setCell ⟨q, 4, none⟩ (.int .i64 g)).setCell ⟨q, 5, none⟩ (.int .i64 h) = w9 at *
      clear hw9 y0 y1 y2 y3 y4 y5 fx
      refine (end_any p _ _ R9.out).mono ?_
      obtain ⟨d, hdd⟩ : ∃ d, H1.done = d := ⟨_, rfl⟩
      have HOK := Lib.hid (Ent.pok_eq HP.out)
      rw [hdd] at HOK ⊢
      clear hdd
      rintro e w10 ⟨rfl, rfl⟩
      by_cases hd : d = 0
      · subst hd
        have HOK2 := Lib.hid (show Ent.pok t = Ent.right ⟨x, 2, [], f, g, h⟩ by rw [HOK.out]; rfl)
        obtain ⟨d0, d1, d2, d3, d4, d5⟩ := x9.out.cells
        clear HOK
        go_wp2_with fail
        refine (right5_any _ ⟨x, 2, [], f, g, h⟩ _ ⟨_, rfl, HI9.out⟩).mono ?_
        rintro e w11 ⟨rfl, hE11⟩
        have r11 := Lib.hid (r9.out.ext hE11)
        have x11 := Lib.hid (x9.out.ext hE11)
        have e11 := e9.trans hE11
        have HI11 := Lib.hid (HI9.out.below hE11)
        clear d0 d1 d2 d3 d4 d5
        obtain ⟨c0, c1, c2, c3, c4, c5⟩ := r11.out.cells
        obtain ⟨d0, d1, d2, d3, d4, d5⟩ := x11.out.cells
        have fr : ∀ i, w11.frozen? ⟨w.heap.size, i, none⟩ = false := fun i => frozen_of_heap r11.out i
        cases hrr : Ent.right ⟨x, 2, [], f, g, h⟩ with
        | false =>
         have hno := HNOT.out t rfl (HOK2.out.trans hrr)
         subst hno
         clear hrr HOK2
         go_wp2_with fail
         have hs := r11.out.set (.slice none 0 0) Ent.noE
         exact bodyPost_ret (v := .tuple #[entV (.slice none 0 0) Ent.noE, .int .i64 50]) (by simp [results, Tryz.results98, go_sem, c0, c1, c2, c3, c4, c5, fr, Ent.noE, entV]) rfl
          ⟨_, rfl, ⟨_, rfl, RowI.nil _⟩, Below.trans (B := w.heap.size) e11 (hs.2.below (Nat.le_refl _) e11.size)⟩
        | true =>
         have hyes := HYES.out t rfl (HOK2.out.trans hrr)
         rw [HP.out] at hyes
         subst hyes
         clear hrr HOK2
         go_wp2_with fail
         have hs := r11.out.set (.slice none 0 0) ⟨x, 2, [], f, g, h⟩
         exact bodyPost_ret (v := .tuple #[entV (.slice none 0 0) ⟨x, 2, [], f, g, h⟩, .int .i64 0]) (by simp [results, Tryz.results98, go_sem, c0, c1, c2, c3, c4, c5, d0, d1, d2, d3, d4, d5, fr, entV]) rfl
          ⟨_, rfl, ⟨_, rfl, RowI.nil _⟩, Below.trans (B := w.heap.size) e11 (hs.2.below (Nat.le_refl _) e11.size)⟩
      · have hno := HNOT.out t rfl (by rw [HOK.out, show (d == 0) = false from beq_eq_false_iff_ne.2 hd]; rfl)
        subst hno
        clear HOK
        obtain ⟨c0, c1, c2, c3, c4, c5⟩ := r9.out.cells
        have fr : ∀ i, w9.frozen? ⟨w.heap.size, i, none⟩ = false := fun i => frozen_of_heap r9.out i
        go_wp2_with fail
        have hs := r9.out.set (.slice none 0 0) Ent.noE
        exact bodyPost_ret (v := .tuple #[entV (.slice none 0 0) Ent.noE, .int .i64 50]) (by simp [results, Tryz.results98, go_sem, c0, c1, c2, c3, c4, c5, fr, Ent.noE, entV]) rfl
         ⟨_, rfl, ⟨_, rfl, RowI.nil _⟩, Below.trans (B := w.heap.size) e9 (hs.2.below (Nat.le_refl _) e9.size)⟩
    · have hn1 : nB ≠ 1 := by omega
      have hn2 : nB ≠ 2 := by omega
      have hk0 : k = 0 := by omega
      subst hk0
      have HP := Lib.hid (show Ent.pread t = (B1, ⟨x, 0, [], 0, 0, 0⟩) by rw [Ent.pread_else (by rw [HBB.out]; exact hn1) (by rw [HBB.out]; exact hn2), HBB.out, HAA.out, ← HX.out, ← HKK.out])
      clear hk hn1 hn2
      go_wp2_with fail
      clear y0 y1 y2 y3 y4 y5 fx
      generalize hw6 : w5.alloc (.cells #[.int .i64 x, .int .i64 0, .slice none 0 0, .int .i64 0, .int .i64 0, .int .i64 0] 42) = w9 at *
      generalize hq : w5.heap.size = q at *
      clear hw6 hq
      have x9 := x6
      have r9 := r6
      have R9 := R6
      have e9 := e6
      have HI9 := Lib.hid (ints_none w9)
      refine (end_any p _ _ R9.out).mono ?_
      obtain ⟨d, hdd⟩ : ∃ d, B1.done = d := ⟨_, rfl⟩
      have HOK := Lib.hid (Ent.pok_eq HP.out)
      rw [hdd] at HOK ⊢
      clear hdd
      rintro e w10 ⟨rfl, rfl⟩
      by_cases hd : d = 0
      · subst hd
        have HOK2 := Lib.hid (show Ent.pok t = Ent.right ⟨x, 0, [], 0, 0, 0⟩ by rw [HOK.out]; rfl)
        obtain ⟨d0, d1, d2, d3, d4, d5⟩ := x9.out.cells
        clear HOK
        go_wp2_with fail
        refine (right5_any _ ⟨x, 0, [], 0, 0, 0⟩ _ ⟨_, rfl, HI9.out⟩).mono ?_
        rintro e w11 ⟨rfl, hE11⟩
        have r11 := Lib.hid (r9.out.ext hE11)
        have x11 := Lib.hid (x9.out.ext hE11)
        have e11 := e9.trans hE11
        have HI11 := Lib.hid (HI9.out.below hE11)
        clear d0 d1 d2 d3 d4 d5
        obtain ⟨c0, c1, c2, c3, c4, c5⟩ := r11.out.cells
        obtain ⟨d0, d1, d2, d3, d4, d5⟩ := x11.out.cells
        have fr : ∀ i, w11.frozen? ⟨w.heap.size, i, none⟩ = false := fun i => frozen_of_heap r11.out i
        cases hrr : Ent.right ⟨x, 0, [], 0, 0, 0⟩ with
        | false =>
         have hno := HNOT.out t rfl (HOK2.out.trans hrr)
         subst hno
         clear hrr HOK2
         go_wp2_with fail
         have hs := r11.out.set (.slice none 0 0) Ent.noE
         exact bodyPost_ret (v := .tuple #[entV (.slice none 0 0) Ent.noE, .int .i64 50]) (by simp [results, Tryz.results98, go_sem, c0, c1, c2, c3, c4, c5, fr, Ent.noE, entV]) rfl
          ⟨_, rfl, ⟨_, rfl, RowI.nil _⟩, Below.trans (B := w.heap.size) e11 (hs.2.below (Nat.le_refl _) e11.size)⟩
        | true =>
         have hyes := HYES.out t rfl (HOK2.out.trans hrr)
         rw [HP.out] at hyes
         subst hyes
         clear hrr HOK2
         go_wp2_with fail
         have hs := r11.out.set (.slice none 0 0) ⟨x, 0, [], 0, 0, 0⟩
         exact bodyPost_ret (v := .tuple #[entV (.slice none 0 0) ⟨x, 0, [], 0, 0, 0⟩, .int .i64 0]) (by simp [results, Tryz.results98, go_sem, c0, c1, c2, c3, c4, c5, d0, d1, d2, d3, d4, d5, fr, entV]) rfl
          ⟨_, rfl, ⟨_, rfl, RowI.nil _⟩, Below.trans (B := w.heap.size) e11 (hs.2.below (Nat.le_refl _) e11.size)⟩
      · have hno := HNOT.out t rfl (by rw [HOK.out, show (d == 0) = false from beq_eq_false_iff_ne.2 hd]; rfl)
        subst hno
        clear HOK
        obtain ⟨c0, c1, c2, c3, c4, c5⟩ := r9.out.cells
        have fr : ∀ i, w9.frozen? ⟨w.heap.size, i, none⟩ = false := fun i => frozen_of_heap r9.out i
        go_wp2_with fail
        have hs := r9.out.set (.slice none 0 0) Ent.noE
        exact bodyPost_ret (v := .tuple #[entV (.slice none 0 0) Ent.noE, .int .i64 50]) (by simp [results, Tryz.results98, go_sem, c0, c1, c2, c3, c4, c5, fr, Ent.noE, entV]) rfl
         ⟨_, rfl, ⟨_, rfl, RowI.nil _⟩, Below.trans (B := w.heap.size) e9 (hs.2.below (Nat.le_refl _) e9.size)⟩
set_option maxHeartbeats 8000000 in
theorem same5_any (v u : Value) (a b : Ent.E) (w : World) (hv : IsEnt w v a) (hu : IsEnt w u b) :
 Calls Tryz.prog 33 #[v, u] w fun x w' => x = .returned (.bool (Ent.alike a b)) ∧ Ext w w' := by
 have hbx := box_ent
 obtain ⟨s1, rfl, ht⟩ := hv
 obtain ⟨s2, rfl, ht2⟩ := hu
 obtain ⟨n, k, c, t, m, p⟩ := a
 obtain ⟨n2, k2, c2, t2, m2, p2⟩ := b
 unfold entV at *
 simp only at ht ht2 ⊢
 obtain ⟨a1, cap1, rfl, hcap1, hmax1, _, _⟩ := ht.open
 obtain ⟨a2, cap2, rfl, hcap2, hmax2, _, _⟩ := ht2.open
 unfold maxLen at hmax1 hmax2
 have HT := Lib.hid ht
 have HT2 := Lib.hid ht2
 clear ht ht2
 have hE : Ext w ((w.alloc (.cells #[.int .i64 n, .int .i64 k, .slice a1 c.length cap1, .int .i64 t, .int .i64 m, .int .i64 p] 42)).alloc (.cells #[.int .i64 n2, .int .i64 k2, .slice a2 c2.length cap2, .int .i64 t2, .int .i64 m2, .int .i64 p2] 42)) := ext_two _ _ _
 have HH := Lib.hid (heap_two w (.cells #[.int .i64 n, .int .i64 k, .slice a1 c.length cap1, .int .i64 t, .int .i64 m, .int .i64 p] 42) (.cells #[.int .i64 n2, .int .i64 k2, .slice a2 c2.length cap2, .int .i64 t2, .int .i64 m2, .int .i64 p2] 42))
 by_cases hn : n = n2
 · subst hn
   by_cases hk : k = k2
   · subst hk
     cases hc : (c == c2) with
     | false =>
      have HC := Lib.hid hc
      clear hc
      have HR := Lib.hid (show Ent.alike ⟨n, k, c, t, m, p⟩ ⟨n, k, c2, t2, m2, p2⟩ = false by unfold Ent.alike; rw [HC.out]; simp)
      go_enter Tryz.func33, Tryz.ntmps33
      go_wp2_with fail
      refine (equalS_any _ _ c c2 _ (HT.out.below hE) (HT2.out.below hE)).mono ?_
      rw [HC.out]
      rintro e w3 ⟨rfl, hE3⟩
      have hz := And.intro (cell_of_heap (heap_ext HH.out.1 hE3)) (cell_of_heap (heap_ext HH.out.2 hE3))
      have y3 := hz.1 3
      have y4 := hz.1 4
      have y5 := hz.1 5
      have z3 := hz.2 3
      have z4 := hz.2 4
      have z5 := hz.2 5
      clear hz
      simp at y3 y4 y5 z3 z4 z5
      go_wp2_with fail
      go_ret
      exact ⟨by rw [HR.out]; rfl, hE.trans hE3⟩
     | true =>
      have HC := Lib.hid hc
      clear hc
      by_cases ht : t = t2
      · subst ht
        by_cases hm : m = m2
        · subst hm
          by_cases hp : p = p2
          · subst hp
            have HR := Lib.hid (show Ent.alike ⟨n, k, c, t, m, p⟩ ⟨n, k, c2, t, m, p⟩ = true by unfold Ent.alike; rw [HC.out]; simp)
            go_enter Tryz.func33, Tryz.ntmps33
            go_wp2_with fail
            refine (equalS_any _ _ c c2 _ (HT.out.below hE) (HT2.out.below hE)).mono ?_
            rw [HC.out]
            rintro e w3 ⟨rfl, hE3⟩
            have hz := And.intro (cell_of_heap (heap_ext HH.out.1 hE3)) (cell_of_heap (heap_ext HH.out.2 hE3))
            have y3 := hz.1 3
            have y4 := hz.1 4
            have y5 := hz.1 5
            have z3 := hz.2 3
            have z4 := hz.2 4
            have z5 := hz.2 5
            clear hz
            simp at y3 y4 y5 z3 z4 z5
            go_wp2_with fail
            go_ret
            exact ⟨by rw [HR.out]; rfl, hE.trans hE3⟩
          · have HR := Lib.hid (show Ent.alike ⟨n, k, c, t, m, p⟩ ⟨n, k, c2, t, m, p2⟩ = false by unfold Ent.alike; simp [hp])
            go_enter Tryz.func33, Tryz.ntmps33
            go_wp2_with fail
            refine (equalS_any _ _ c c2 _ (HT.out.below hE) (HT2.out.below hE)).mono ?_
            rw [HC.out]
            rintro e w3 ⟨rfl, hE3⟩
            have hz := And.intro (cell_of_heap (heap_ext HH.out.1 hE3)) (cell_of_heap (heap_ext HH.out.2 hE3))
            have y3 := hz.1 3
            have y4 := hz.1 4
            have y5 := hz.1 5
            have z3 := hz.2 3
            have z4 := hz.2 4
            have z5 := hz.2 5
            clear hz
            simp at y3 y4 y5 z3 z4 z5
            go_wp2_with fail
            go_ret
            exact ⟨by rw [HR.out]; rfl, hE.trans hE3⟩
        · have HR := Lib.hid (show Ent.alike ⟨n, k, c, t, m, p⟩ ⟨n, k, c2, t, m2, p2⟩ = false by unfold Ent.alike; simp [hm])
          go_enter Tryz.func33, Tryz.ntmps33
          go_wp2_with fail
          refine (equalS_any _ _ c c2 _ (HT.out.below hE) (HT2.out.below hE)).mono ?_
          rw [HC.out]
          rintro e w3 ⟨rfl, hE3⟩
          have hz := And.intro (cell_of_heap (heap_ext HH.out.1 hE3)) (cell_of_heap (heap_ext HH.out.2 hE3))
          have y3 := hz.1 3
          have y4 := hz.1 4
          have y5 := hz.1 5
          have z3 := hz.2 3
          have z4 := hz.2 4
          have z5 := hz.2 5
          clear hz
          simp at y3 y4 y5 z3 z4 z5
          go_wp2_with fail
          go_ret
          exact ⟨by rw [HR.out]; rfl, hE.trans hE3⟩
      · have HR := Lib.hid (show Ent.alike ⟨n, k, c, t, m, p⟩ ⟨n, k, c2, t2, m2, p2⟩ = false by unfold Ent.alike; simp [ht])
        go_enter Tryz.func33, Tryz.ntmps33
        go_wp2_with fail
        refine (equalS_any _ _ c c2 _ (HT.out.below hE) (HT2.out.below hE)).mono ?_
        rw [HC.out]
        rintro e w3 ⟨rfl, hE3⟩
        have hz := And.intro (cell_of_heap (heap_ext HH.out.1 hE3)) (cell_of_heap (heap_ext HH.out.2 hE3))
        have y3 := hz.1 3
        have y4 := hz.1 4
        have y5 := hz.1 5
        have z3 := hz.2 3
        have z4 := hz.2 4
        have z5 := hz.2 5
        clear hz
        simp at y3 y4 y5 z3 z4 z5
        go_wp2_with fail
        go_ret
        exact ⟨by rw [HR.out]; rfl, hE.trans hE3⟩
   · have HR := Lib.hid (show Ent.alike ⟨n, k, c, t, m, p⟩ ⟨n, k2, c2, t2, m2, p2⟩ = false by unfold Ent.alike; simp [hk])
     go_enter Tryz.func33, Tryz.ntmps33
     go_wp2_with fail
     go_ret
     exact ⟨by rw [HR.out]; rfl, hE⟩
 · have HR := Lib.hid (show Ent.alike ⟨n, k, c, t, m, p⟩ ⟨n2, k2, c2, t2, m2, p2⟩ = false by unfold Ent.alike; simp [hn])
   go_enter Tryz.func33, Tryz.ntmps33
   go_wp2_with fail
   go_ret
   exact ⟨by rw [HR.out]; rfl, hE⟩
set_option maxHeartbeats 8000000 in
theorem refSame5_any (v u : Value) (a b : Ent.E) (w : World) (hv : IsEnt w v a) (hu : IsEnt w u b) :
 Calls Tryz.prog 54 #[v, u] w fun x w' => x = .returned (.bool (Ent.alike a b)) ∧ Ext w w' := by
 have hbx := box_entR
 obtain ⟨s1, rfl, ht⟩ := hv
 obtain ⟨s2, rfl, ht2⟩ := hu
 obtain ⟨n, k, c, t, m, p⟩ := a
 obtain ⟨n2, k2, c2, t2, m2, p2⟩ := b
 unfold entV at *
 simp only at ht ht2 ⊢
 obtain ⟨a1, cap1, rfl, hcap1, hmax1, _, _⟩ := ht.open
 obtain ⟨a2, cap2, rfl, hcap2, hmax2, _, _⟩ := ht2.open
 unfold maxLen at hmax1 hmax2
 have HT := Lib.hid ht
 have HT2 := Lib.hid ht2
 clear ht ht2
 have hE : Ext w ((w.alloc (.cells #[.int .i64 n, .int .i64 k, .slice a1 c.length cap1, .int .i64 t, .int .i64 m, .int .i64 p] 30)).alloc (.cells #[.int .i64 n2, .int .i64 k2, .slice a2 c2.length cap2, .int .i64 t2, .int .i64 m2, .int .i64 p2] 30)) := ext_two _ _ _
 have HH := Lib.hid (heap_two w (.cells #[.int .i64 n, .int .i64 k, .slice a1 c.length cap1, .int .i64 t, .int .i64 m, .int .i64 p] 30) (.cells #[.int .i64 n2, .int .i64 k2, .slice a2 c2.length cap2, .int .i64 t2, .int .i64 m2, .int .i64 p2] 30))
 by_cases hn : n = n2
 · subst hn
   by_cases hk : k = k2
   · subst hk
     by_cases ht : t = t2
     · subst ht
       by_cases hm : m = m2
       · subst hm
         by_cases hp : p = p2
         · subst hp
           cases hc : (c == c2) with
           | false =>
            have HC := Lib.hid hc
            clear hc
            have HR := Lib.hid (show Ent.alike ⟨n, k, c, t, m, p⟩ ⟨n, k, c2, t, m, p⟩ = false by unfold Ent.alike; rw [HC.out]; simp)
            go_enter Tryz.func54, Tryz.ntmps54
            go_wp2_with fail
            refine (equal3_any _ _ c c2 _ (HT.out.below hE) (HT2.out.below hE)).mono ?_
            rw [HC.out]
            rintro e w3 ⟨rfl, hE3⟩
            have hz := And.intro (cell_of_heap (heap_ext HH.out.1 hE3)) (cell_of_heap (heap_ext HH.out.2 hE3))
            have y3 := hz.1 3
            have y4 := hz.1 4
            have y5 := hz.1 5
            have z3 := hz.2 3
            have z4 := hz.2 4
            have z5 := hz.2 5
            clear hz
            simp at y3 y4 y5 z3 z4 z5
            go_wp2_with fail
            go_ret
            exact ⟨by rw [HR.out]; rfl, hE.trans hE3⟩
           | true =>
            have HC := Lib.hid hc
            clear hc
            have HR := Lib.hid (show Ent.alike ⟨n, k, c, t, m, p⟩ ⟨n, k, c2, t, m, p⟩ = true by unfold Ent.alike; rw [HC.out]; simp)
            go_enter Tryz.func54, Tryz.ntmps54
            go_wp2_with fail
            refine (equal3_any _ _ c c2 _ (HT.out.below hE) (HT2.out.below hE)).mono ?_
            rw [HC.out]
            rintro e w3 ⟨rfl, hE3⟩
            have hz := And.intro (cell_of_heap (heap_ext HH.out.1 hE3)) (cell_of_heap (heap_ext HH.out.2 hE3))
            have y3 := hz.1 3
            have y4 := hz.1 4
            have y5 := hz.1 5
            have z3 := hz.2 3
            have z4 := hz.2 4
            have z5 := hz.2 5
            clear hz
            simp at y3 y4 y5 z3 z4 z5
            go_wp2_with fail
            go_ret
            exact ⟨by rw [HR.out]; rfl, hE.trans hE3⟩
         · have HR := Lib.hid (show Ent.alike ⟨n, k, c, t, m, p⟩ ⟨n, k, c2, t, m, p2⟩ = false by unfold Ent.alike; simp [hp])
           go_enter Tryz.func54, Tryz.ntmps54
           go_wp2_with fail
           go_ret
           exact ⟨by rw [HR.out]; rfl, hE⟩
       · have HR := Lib.hid (show Ent.alike ⟨n, k, c, t, m, p⟩ ⟨n, k, c2, t, m2, p2⟩ = false by unfold Ent.alike; simp [hm])
         go_enter Tryz.func54, Tryz.ntmps54
         go_wp2_with fail
         go_ret
         exact ⟨by rw [HR.out]; rfl, hE⟩
     · have HR := Lib.hid (show Ent.alike ⟨n, k, c, t, m, p⟩ ⟨n, k, c2, t2, m2, p2⟩ = false by unfold Ent.alike; simp [ht])
       go_enter Tryz.func54, Tryz.ntmps54
       go_wp2_with fail
       go_ret
       exact ⟨by rw [HR.out]; rfl, hE⟩
   · have HR := Lib.hid (show Ent.alike ⟨n, k, c, t, m, p⟩ ⟨n, k2, c2, t2, m2, p2⟩ = false by unfold Ent.alike; simp [hk])
     go_enter Tryz.func54, Tryz.ntmps54
     go_wp2_with fail
     go_ret
     exact ⟨by rw [HR.out]; rfl, hE⟩
 · have HR := Lib.hid (show Ent.alike ⟨n, k, c, t, m, p⟩ ⟨n2, k2, c2, t2, m2, p2⟩ = false by unfold Ent.alike; simp [hn])
   go_enter Tryz.func54, Tryz.ntmps54
   go_wp2_with fail
   go_ret
   exact ⟨by rw [HR.out]; rfl, hE⟩
end Go.Proofs.YtldfpklgbedgjaaGreat
namespace Go.Proofs.YtldfpklgbedgjaaGreat
set_option linter.unusedSimpArgs false
set_option linter.unusedVariables false
set_option maxRecDepth 100000
open Go.ChangeShapes Go.WideShapes Go.ChangeAt Go.RowKit
section
variable {H : Type} {enc : TypeId × Value → H} {w : World} {base : Nat} {spare : Nat → Bool} {held : Bool}
end
end Go.Proofs.YtldfpklgbedgjaaGreat
namespace Go.Proofs.YtldfpklgbedgjaaGreat
set_option linter.unusedSimpArgs false
set_option linter.unusedVariables false
set_option maxRecDepth 100000
open Go.RowKit
theorem build_entR0 (w : World) : (Instr.build 30 #[]).run Tryz.prog w = .ok (.agg #[.int .i64 0, .int .i64 0, .slice none 0 0, .int .i64 0, .int .i64 0, .int .i64 0]) w := by kernel_rfl
theorem build_refR (w : World) (s : ByteArray) : (Instr.build 88 #[(0, .string s)]).run Tryz.prog w = .ok (.agg #[.string s, .int .i64 0]) w := by kernel_rfl
theorem setTwoR {w : World} {q : Nat} {x0 x1 : Value} {T : TypeId} (h : w.heap[q]? = some (.cells #[x0, x1] T (0, 0))) (v0 v1 : Value) :
 ((w.setCell ⟨q, 0, none⟩ v0).setCell ⟨q, 1, none⟩ v1).heap[q]? = some (.cells #[v0, v1] T (0, 0)) ∧ But q w ((w.setCell ⟨q, 0, none⟩ v0).setCell ⟨q, 1, none⟩ v1) := by
 refine ⟨?_, ((But.refl _ _).setCell 0 none v0).setCell 1 none v1⟩
 have := heap_setCell (heap_setCell h 0 v0) 1 v1
 simpa using this
def RefR (w : World) (q n : Nat) (s : Pack.St) : Prop := ∃ lk : List UInt8, w.heap[q]? = some (.cells #[.string ⟨lk.toArray⟩, .int .i64 s.err] 88 (0, 0)) ∧ Sim lk s ∧ lk.length ≤ n
theorem RefR.lt {w : World} {q n : Nat} {s : Pack.St} (h : RefR w q n s) : q < w.heap.size := by
 obtain ⟨lk, h, _⟩ := h
 exact (Array.getElem?_eq_some_iff.1 h).1
theorem RefR.ext {w w' : World} {q n : Nat} {s : Pack.St} (h : RefR w q n s) (hE : Ext w w') : RefR w' q n s := by
 have hlt := h.lt
 obtain ⟨lk, h1, h2⟩ := h
 exact ⟨lk, (hE.block q hlt).trans h1, h2⟩
theorem RefR.but {w w' : World} {q p n : Nat} {s : Pack.St} (h : RefR w q n s) (hB : But p w w') (hne : q ≠ p) : RefR w' q n s := by
 have hlt := h.lt
 obtain ⟨lk, h1, h2⟩ := h
 exact ⟨lk, (hB.block q hlt hne).trans h1, h2⟩
theorem RefR.set {w : World} {q n : Nat} {s : Pack.St} (h : RefR w q n s) {l : List UInt8} {s' : Pack.St} (hs : Sim l s') (hl : l.length ≤ n) :
 RefR ((w.setCell ⟨q, 0, none⟩ (.string ⟨l.toArray⟩)).setCell ⟨q, 1, none⟩ (.int .i64 s'.err)) q n s' ∧ But q w ((w.setCell ⟨q, 0, none⟩ (.string ⟨l.toArray⟩)).setCell ⟨q, 1, none⟩ (.int .i64 s'.err)) := by
 obtain ⟨lk, h1, h2⟩ := h
 have := setTwoR h1 (.string ⟨l.toArray⟩) (.int .i64 s'.err)
 exact ⟨⟨l, this.1, hs, hl⟩, this.2⟩
theorem Ent.dec_yes {b l : List UInt8} (hc : Crc.cutOf b = some l) (h1 : Ent.right (Ent.read Ent.vd l) = true) (h2 : Ent.enc (Ent.read Ent.vd l) = b) : Ent.dec Ent.vd b = some (Ent.read Ent.vd l) := by
 unfold Ent.dec
 rw [hc]
 simp only [h1, h2, beq_self_eq_true, Bool.and_self, if_true]
theorem Ent.dec_bad {b l : List UInt8} (hc : Crc.cutOf b = some l) (h1 : Ent.right (Ent.read Ent.vd l) = false) : Ent.dec Ent.vd b = none := by
 unfold Ent.dec
 rw [hc]
 simp only [h1, Bool.false_and, Bool.false_eq_true, if_false]
theorem Ent.dec_else {b l : List UInt8} (hc : Crc.cutOf b = some l) (h2 : ¬ Ent.enc (Ent.read Ent.vd l) = b) : Ent.dec Ent.vd b = none := by
 unfold Ent.dec
 rw [hc]
 simp only [beq_eq_false_iff_ne.2 h2, Bool.and_false, Bool.false_eq_true, if_false]
set_option maxHeartbeats 16000000 in
theorem refDecode5_row (v : Value) (l : List UInt8) (w : World) (hv : Bytes w v l) (hl : l.length ≤ 100000) :
 Calls Tryz.prog 111 #[v] w (GivesRow5 w l) := by
 have hb0 := build_entR0
 have hbr := build_refR
 have HV := Lib.hid hv
 obtain ⟨a, cap, rfl, hcap, hmax, hn, hc⟩ := hv.open
 unfold maxLen at hmax
 clear hv hc
 unfold GivesRow5
 have hno := fun h => Ent.dec_cut (b := l) h
 have hyes := fun t h1 h2 h3 => Ent.dec_yes (b := l) (l := t) h1 h2 h3
 have hbad := fun t h1 h2 => Ent.dec_bad (b := l) (l := t) h1 h2
 have helse := fun t h1 h2 => Ent.dec_else (b := l) (l := t) h1 h2
 have hlen := fun t h => cutOf_le (l := l) (t := t) h
 obtain ⟨D, hD⟩ : ∃ D, Ent.dec Ent.vd l = D := ⟨_, rfl⟩
 obtain ⟨C, hC⟩ : ∃ C, Crc.cutOf l = C := ⟨_, rfl⟩
 rw [hC, hD] at hno hyes hbad helse ⊢
 rw [hC] at hlen
 have HC := Lib.hid hC
 have HNO := Lib.hid hno
 have HYES := Lib.hid hyes
 have HBAD := Lib.hid hbad
 have HELSE := Lib.hid helse
 have HLEN := Lib.hid hlen
 clear hC hD hno hyes hbad helse hlen
 have hE0 : Ext w (w.alloc (.cells #[.int .i64 0, .int .i64 0, .slice none 0 0, .int .i64 0, .int .i64 0, .int .i64 0] 30)) := Ext.alloc _ _
 have HR0 := Lib.hid (EntAt.zero 30 w)
 go_enter Tryz.func111, Tryz.ntmps111
 go_wp2_with fail
 have hcall := cut_ref _ l _ (HV.out.below hE0) (by omega)
 rw [HC.out] at hcall
 refine hcall.mono ?_
 clear hcall
 intro e w1 hq
 obtain ⟨hE1, hcut⟩ := hq
 have r1 := Lib.hid (HR0.out.ext hE1)
 have e1 := hE0.trans hE1
 cases C with
 | none =>
  subst hcut
  have hno := HNO.out rfl
  subst hno
  obtain ⟨c0, c1, c2, c3, c4, c5⟩ := r1.out.cells
  have fr : ∀ i, w1.frozen? ⟨w.heap.size, i, none⟩ = false := fun i => frozen_of_heap r1.out i
  go_wp2_with fail
  have hs := r1.out.set (.slice none 0 0) Ent.noE
  exact bodyPost_ret (v := .tuple #[entV (.slice none 0 0) Ent.noE, .int .i64 51]) (by simp [results, Tryz.results111, go_sem, c0, c1, c2, c3, c4, c5, fr, Ent.noE, entV]) rfl ⟨_, rfl, ⟨_, rfl, RowI.nil _⟩, Below.trans (B := w.heap.size) e1 (hs.2.below (Nat.le_refl _) e1.size)⟩
 | some t =>
  obtain ⟨v2, rfl, hb2⟩ := hcut
  have htl : t.length ≤ l.length := HLEN.out t rfl
  have hst := run_str (P := Tryz.prog) 38 9 5 Tryz.underlying38 Tryz.underlying5 Tryz.underlying9 hb2
  obtain ⟨a2, n2, k2, rfl⟩ := hb2.isSlice
  obtain ⟨A1, nA, hA⟩ : ∃ A1 nA, Ent.stA t = (A1, nA) := ⟨_, _, rfl⟩
  obtain ⟨B1, nB, hB⟩ : ∃ B1 nB, Ent.stB t = (B1, nB) := ⟨_, _, rfl⟩
  have hA' : Pack.St.num ⟨t, 0⟩ 4611686018427387904 = (A1, nA) := by rw [← hA]; rfl
  have hB' : A1.num 4611686018427387904 = (B1, nB) := by rw [← hB]; unfold Ent.stB; rw [hA]; rfl
  have HA := Lib.hid hA
  have HB := Lib.hid hB
  have HB' := Lib.hid hB'
  have h1 := readNumRef_any t 4611686018427387904 ⟨t, 0⟩ ((w1.alloc (.cells #[.string ⟨t.toArray⟩, .int .i64 0] 88)).alloc (.cells #[.int .i64 0, .int .i64 0, .slice none 0 0, .int .i64 0, .int .i64 0, .int .i64 0] 30)) ⟨fun _ => rfl, fun h => absurd rfl h⟩ (by omega)
  rw [hA'] at h1
  unfold refVal at h1
  have H1 := Lib.hid h1
  have hE2 : Ext w1 ((w1.alloc (.cells #[.string ⟨t.toArray⟩, .int .i64 0] 88)).alloc (.cells #[.int .i64 0, .int .i64 0, .slice none 0 0, .int .i64 0, .int .i64 0, .int .i64 0] 30)) := ext_two _ _ _
  have HH := Lib.hid (heap_two w1 (.cells #[.string ⟨t.toArray⟩, .int .i64 0] 88) (.cells #[.int .i64 0, .int .i64 0, .slice none 0 0, .int .i64 0, .int .i64 0, .int .i64 0] 30))
  clear hA hB hA' hB' h1 hb2
  go_wp2_with fail
  refine H1.out.mono ?_
  rintro e w2 ⟨l2, rfl, hs2, hl2, hE3⟩
  obtain ⟨x, hx⟩ : ∃ x : Int, (nA : Int) = x := ⟨_, rfl⟩
  have HX := Lib.hid hx
  dsimp only
  rw [hx]
  have e2 := e1.trans (hE2.trans hE3)
  have D2 := Lib.hid (show RefR w2 w1.heap.size t.length ⟨t, 0⟩ from ⟨t, heap_ext HH.out.1 hE3, ⟨fun _ => rfl, fun h => absurd rfl h⟩, Nat.le_refl _⟩)
  have X2 := Lib.hid (show EntAt 30 w2 (w1.heap.size + 1) (.slice none 0 0) ⟨0, 0, [], 0, 0, 0⟩ from heap_ext HH.out.2 hE3)
  have R2 := Lib.hid (r1.out.ext (hE2.trans hE3))
  have h01 : w.heap.size < w1.heap.size := r1.out.lt
  obtain ⟨qr, hqr⟩ : ∃ qr, w1.heap.size = qr := ⟨_, rfl⟩
  rw [hqr] at D2 X2 h01 ⊢
  clear hqr HH H1 hst hx hE2 hE3 hE1 hE0 HR0
  obtain ⟨lk, hk, hsm, hln⟩ := D2.out
  have z0 := cell_of_heap hk 0
  have z1 := cell_of_heap hk 1
  have fz := fun i => frozen_of_heap hk i
  simp at z0 z1
  obtain ⟨c0, c1, c2, c3, c4, c5⟩ := X2.out.cells
  have fx := fun i => frozen_of_heap X2.out i
  have hDD := D2.out.set hs2 (show l2.length ≤ t.length by omega)
  have D3 := Lib.hid (hDD.1.but (butSet _ (qr + 1) 0 (.int .i64 x)) (by omega))
  have X3 := Lib.hid (EntAt.setNumber (n' := x) (X2.out.but hDD.2 (by omega)))
  have R3 := Lib.hid ((R2.out.but hDD.2 (by omega)).but (butSet _ (qr + 1) 0 (.int .i64 x)) (by omega))
  have e3 : Ext w (((w2.setCell ⟨qr, 0, none⟩ (.string ⟨l2.toArray⟩)).setCell ⟨qr, 1, none⟩ (.int .i64 A1.err)).setCell ⟨qr + 1, 0, none⟩ (.int .i64 x)) := Below.setCell (Below.trans (B := w.heap.size) e2 (hDD.2.below (by omega) e2.size)) (p := ⟨qr + 1, 0, none⟩) (by show w.heap.size ≤ qr + 1; omega) _
  clear hk hDD
  go_wp2_with fail
  generalize hw : (((w2.setCell ⟨qr, 0, none⟩ (.string ⟨l2.toArray⟩)).setCell ⟨qr, 1, none⟩ (.int .i64 A1.err)).setCell ⟨qr + 1, 0, none⟩ (.int .i64 x)) = w3 at *
  clear hw z0 z1 fz c0 c1 c2 c3 c4 c5 fx D2 X2 R2
  have hcall := readNumRef_any l2 4611686018427387904 A1 w3 hs2 (by omega)
  rw [HB'.out] at hcall
  unfold refVal at hcall
  refine hcall.mono ?_
  clear hcall
  rintro e w4 ⟨l4, rfl, hs4, hl4, hE4⟩
  obtain ⟨k, hk⟩ : ∃ k : Int, (nB : Int) = k := ⟨_, rfl⟩
  have Hk := Lib.hid hk
  dsimp only
  rw [hk]
  clear hk
  have e4 := e3.trans hE4
  have D4 := Lib.hid (D3.out.ext hE4)
  have X4 := Lib.hid (X3.out.ext hE4)
  have R4 := Lib.hid (R3.out.ext hE4)
  clear D3 X3 R3 hE4
  by_cases k1 : k = 1
  · subst k1
    have hn1 : nB = 1 := by have := Hk.out; omega
    obtain ⟨F1, FT, hF⟩ : ∃ F1 FT, Ent.stV t = (F1, FT) := ⟨_, _, rfl⟩
    have hF' : B1.text 65536 = (F1, FT) := by rw [← hF]; unfold Ent.stV; rw [HB.out]
    have HP := Lib.hid (show Ent.read Ent.vd t = ⟨x, 1, Ent.vd FT, 0, 0, 0⟩ by unfold Ent.read; rw [HB.out, if_pos hn1, hF, HA.out, ← HX.out])
    have hFl : FT.length ≤ 65536 := by have h9 := textMost B1 65536 (by omega); rw [hF'] at h9; have h8 : ((FT.length : Nat) : Int) ≤ 65536 := h9; omega
    have HF := Lib.hid hF'
    clear hF hF' hn1
    obtain ⟨lk, hk, hsm, hln⟩ := D4.out
    have z0 := cell_of_heap hk 0
    have z1 := cell_of_heap hk 1
    have fz := fun i => frozen_of_heap hk i
    simp at z0 z1
    obtain ⟨c0, c1, c2, c3, c4, c5⟩ := X4.out.cells
    have fx := fun i => frozen_of_heap X4.out i
    have hDD := D4.out.set hs4 (show l4.length ≤ t.length by omega)
    have D5 := Lib.hid (hDD.1.but (butSet _ (qr + 1) 1 (.int .i64 1)) (by omega))
    have X5 := Lib.hid (EntAt.setKind (k' := 1) (X4.out.but hDD.2 (by omega)))
    have R5 := Lib.hid ((R4.out.but hDD.2 (by omega)).but (butSet _ (qr + 1) 1 (.int .i64 1)) (by omega))
    have e5 : Ext w (((w4.setCell ⟨qr, 0, none⟩ (.string ⟨l4.toArray⟩)).setCell ⟨qr, 1, none⟩ (.int .i64 B1.err)).setCell ⟨qr + 1, 1, none⟩ (.int .i64 1)) := Below.setCell (Below.trans (B := w.heap.size) e4 (hDD.2.below (by omega) e4.size)) (p := ⟨qr + 1, 1, none⟩) (by show w.heap.size ≤ qr + 1; omega) _
    clear hk hDD
    go_wp2_with fail
    generalize hw : (((w4.setCell ⟨qr, 0, none⟩ (.string ⟨l4.toArray⟩)).setCell ⟨qr, 1, none⟩ (.int .i64 B1.err)).setCell ⟨qr + 1, 1, none⟩ (.int .i64 1)) = w5 at *
    clear hw z0 z1 fz c0 c1 c2 c3 c4 c5 fx D4 X4 R4
    have hcall := readTextRef_any l4 65536 B1 w5 hs4 (by omega)
    rw [HF.out] at hcall
    unfold refVal at hcall
    refine hcall.mono ?_
    clear hcall
    rintro e w6 ⟨l6, rfl, hs6, hl6, hE6⟩
    have e6 := e5.trans hE6
    have D6 := Lib.hid (D5.out.ext hE6)
    have X6 := Lib.hid (X5.out.ext hE6)
    have R6 := Lib.hid (R5.out.ext hE6)
    clear D5 X5 R5 hE6
    obtain ⟨lk, hk, hsm, hln⟩ := D6.out
    have z0 := cell_of_heap hk 0
    have z1 := cell_of_heap hk 1
    have fz := fun i => frozen_of_heap hk i
    simp at z0 z1
    obtain ⟨c0, c1, c2, c3, c4, c5⟩ := X6.out.cells
    have fx := fun i => frozen_of_heap X6.out i
    have hDD := D6.out.set hs6 (show l6.length ≤ t.length by omega)
    have D7 := Lib.hid hDD.1
    have X7 := Lib.hid (X6.out.but hDD.2 (by omega))
    have R7 := Lib.hid (R6.out.but hDD.2 (by omega))
    have e7 : Ext w ((w6.setCell ⟨qr, 0, none⟩ (.string ⟨l6.toArray⟩)).setCell ⟨qr, 1, none⟩ (.int .i64 F1.err)) := Below.trans (B := w.heap.size) e6 (hDD.2.below (by omega) e6.size)
    clear hk hDD
    have hcv := run_conv ((w6.setCell ⟨qr, 0, none⟩ (.string ⟨l6.toArray⟩)).setCell ⟨qr, 1, none⟩ (.int .i64 F1.err)) FT
    have hsz7 := Lib.hid (show ((w6.setCell ⟨qr, 0, none⟩ (.string ⟨l6.toArray⟩)).setCell ⟨qr, 1, none⟩ (.int .i64 F1.err)).heap.size = w6.heap.size by simp [World.setCell])
    go_wp2_with fail
    generalize hw : ((w6.setCell ⟨qr, 0, none⟩ (.string ⟨l6.toArray⟩)).setCell ⟨qr, 1, none⟩ (.int .i64 F1.err)) = w7 at *
    clear hw z0 z1 fz c0 c1 c2 c3 c4 c5 fx D6 X6 R6
    have hby := Lib.hid (bytes_of_str w7 FT 5 (by unfold maxLen; omega))
    rw [hsz7.out] at hby
    have hEb := ext_bytesWorld w7 5 ⟨FT.toArray⟩
    clear hcv
    refine (refDecode_own _ FT _ hby.out (by omega)).mono ?_
    unfold GivesDecO
    rintro e w8 ⟨v8, rfl, ho8, hE8⟩
    have hE78 := hEb.trans hE8
    have e8 := e7.trans hE78
    have D8 := Lib.hid (D7.out.ext hE78)
    have X8 := Lib.hid (X7.out.ext hE78)
    have R8 := Lib.hid (R7.out.ext hE78)
    obtain ⟨a8, n8, c8, rfl⟩ := ownSlice ho8
    have O8 := Lib.hid (show w8.ownsRow _ 3 1 (.slice a8 n8 c8) (Ent.vd FT).length (i64s (Ent.vd FT)) from ho8)
    have hfar : ∀ j, (Value.slice a8 n8 c8).ownBlock = some j → qr + 1 < j := fun j hj => by
     have h1 := (O8.out.lt j hj).1
     have h2 := hEb.size
     have h3 := X7.out.lt
     omega
    have O9 := Lib.hid (rowBut O8.out (p := qr + 1) (fun e => by have := hfar _ e.symm; omega) (butSet w8 (qr + 1) 2 (.slice a8 n8 c8)))
    have HKEEP := Lib.hid (show ∀ w11 w', Ext (w8.setCell ⟨qr + 1, 2, none⟩ (.slice a8 n8 c8)) w11 → But w.heap.size w11 w' → RowI w' (.slice a8 n8 c8) (Ent.vd FT) from fun w11 w' hE hB => ⟨_, _, rowBut (rowExt O9.out hE) (fun e => by have := hfar _ e.symm; omega) hB⟩)
    have HI := Lib.hid (show Ints (w8.setCell ⟨qr + 1, 2, none⟩ (.slice a8 n8 c8)) (.slice a8 n8 c8) (Ent.vd FT) from Sl.ofOwn O9.out)
    obtain ⟨c0, c1, c2, c3, c4, c5⟩ := X8.out.cells
    have fx := fun i => frozen_of_heap X8.out i
    have X9 := Lib.hid (EntAt.setCut (u' := .slice a8 n8 c8) (c' := Ent.vd FT) X8.out)
    have R9 := Lib.hid (R8.out.but (butSet w8 (qr + 1) 2 (.slice a8 n8 c8)) (by omega))
    have e9 : Ext w (w8.setCell ⟨qr + 1, 2, none⟩ (.slice a8 n8 c8)) := Below.setCell e8 (p := ⟨qr + 1, 2, none⟩) (by show w.heap.size ≤ qr + 1; omega) _
    clear ho8 hfar
    go_wp2_with fail
    generalize hw9 : w8.setCell ⟨qr + 1, 2, none⟩ (.slice a8 n8 c8) = w9 at *
    clear hw9 c0 c1 c2 c3 c4 c5 fx
    refine (refEncode5_any _ ⟨x, 1, Ent.vd FT, 0, 0, 0⟩ _ ⟨_, rfl, HI.out⟩).mono ?_
    unfold GivesEnc5
    rintro e wf ⟨uf, rfl, hbf, hEf⟩
    have rf := Lib.hid (R9.out.ext hEf)
    have xf := Lib.hid (X9.out.ext hEf)
    have ef := e9.trans hEf
    obtain ⟨c0, c1, c2, c3, c4, c5⟩ := rf.out.cells
    have fr : ∀ i, wf.frozen? ⟨w.heap.size, i, none⟩ = false := fun i => frozen_of_heap rf.out i
    cases hrr : Ent.right ⟨x, 1, Ent.vd FT, 0, 0, 0⟩ with
    | false =>
     have hno := HBAD.out t rfl (by rw [HP.out]; exact hrr)
     subst hno
     clear hrr hbf
     go_wp2_with fail
     have hs := rf.out.set (.slice none 0 0) Ent.noE
     exact bodyPost_ret (v := .tuple #[entV (.slice none 0 0) Ent.noE, .int .i64 50]) (by simp [results, Tryz.results111, go_sem, c0, c1, c2, c3, c4, c5, fr, Ent.noE, entV]) rfl
      ⟨_, rfl, ⟨_, rfl, RowI.nil _⟩, Below.trans (B := w.heap.size) ef (hs.2.below (Nat.le_refl _) ef.size)⟩
    | true =>
     rw [hrr, bytesOr_true] at hbf
     have hst := run_str (P := Tryz.prog) 38 9 5 Tryz.underlying38 Tryz.underlying5 Tryz.underlying9 hbf
     have hst2 := run_str (P := Tryz.prog) 38 9 5 Tryz.underlying38 Tryz.underlying5 Tryz.underlying9 (HV.out.below ef)
     obtain ⟨af, nf, kf, rfl⟩ := hbf.isSlice
     obtain ⟨Z, hZ⟩ : ∃ Z, Ent.enc ⟨x, 1, Ent.vd FT, 0, 0, 0⟩ = Z := ⟨_, rfl⟩
     rw [hZ] at hst
     clear hbf
     by_cases hzl : Z = l
     · have hyes := HYES.out t rfl (by rw [HP.out]; exact hrr) (by rw [HP.out, hZ]; exact hzl)
       rw [HP.out] at hyes
       subst hyes
       subst hzl
       clear hrr hZ
       obtain ⟨d0, d1, d2, d3, d4, d5⟩ := xf.out.cells
       go_wp2_with fail
       have hs := rf.out.set (.slice a8 n8 c8) ⟨x, 1, Ent.vd FT, 0, 0, 0⟩
       exact bodyPost_ret (v := .tuple #[entV (.slice a8 n8 c8) ⟨x, 1, Ent.vd FT, 0, 0, 0⟩, .int .i64 0]) (by simp [results, Tryz.results111, go_sem, c0, c1, c2, c3, c4, c5, d0, d1, d2, d3, d4, d5, fr, entV]) rfl
        ⟨_, rfl, ⟨_, rfl, HKEEP.out _ _ hEf hs.2⟩, Below.trans (B := w.heap.size) ef (hs.2.below (Nat.le_refl _) ef.size)⟩
     · have hno := HELSE.out t rfl (by rw [HP.out, hZ]; exact hzl)
       subst hno
       have hzz : (Z == l) = false := beq_eq_false_iff_ne.2 hzl
       clear hrr hZ
       go_wp2_with fail
       have hs := rf.out.set (.slice none 0 0) Ent.noE
       exact bodyPost_ret (v := .tuple #[entV (.slice none 0 0) Ent.noE, .int .i64 50]) (by simp [results, Tryz.results111, go_sem, c0, c1, c2, c3, c4, c5, fr, Ent.noE, entV]) rfl
        ⟨_, rfl, ⟨_, rfl, RowI.nil _⟩, Below.trans (B := w.heap.size) ef (hs.2.below (Nat.le_refl _) ef.size)⟩
  · have hn1 : nB ≠ 1 := by have := Hk.out; omega
    obtain ⟨F1, nF, hF⟩ : ∃ F1 nF, Ent.stT t = (F1, nF) := ⟨_, _, rfl⟩
    obtain ⟨G1, nG, hG⟩ : ∃ G1 nG, Ent.stM t = (G1, nG) := ⟨_, _, rfl⟩
    obtain ⟨H1, nH, hH⟩ : ∃ H1 nH, Ent.stP t = (H1, nH) := ⟨_, _, rfl⟩
    have hF' : B1.num 4611686018427387904 = (F1, nF) := by rw [← hF]; unfold Ent.stT; rw [HB.out]; rfl
    have hG' : F1.num 4611686018427387904 = (G1, nG) := by rw [← hG]; unfold Ent.stM; rw [hF]; rfl
    have hH' : G1.num 4611686018427387904 = (H1, nH) := by rw [← hH]; unfold Ent.stP; rw [hG]; rfl
    have HP0 := Lib.hid (show Ent.read Ent.vd t = ⟨x, k, [], (nF : Int), (nG : Int), (nH : Int)⟩ by unfold Ent.read; rw [HB.out, if_neg hn1, hF, hG, hH, HA.out, ← HX.out, ← Hk.out])
    have HF := Lib.hid hF'
    have HG := Lib.hid hG'
    have HH := Lib.hid hH'
    clear hF hF' hG hG' hH hH' hn1
    obtain ⟨lk, hk, hsm, hln⟩ := D4.out
    have z0 := cell_of_heap hk 0
    have z1 := cell_of_heap hk 1
    have fz := fun i => frozen_of_heap hk i
    simp at z0 z1
    obtain ⟨c0, c1, c2, c3, c4, c5⟩ := X4.out.cells
    have fx := fun i => frozen_of_heap X4.out i
    have hDD := D4.out.set hs4 (show l4.length ≤ t.length by omega)
    have D5 := Lib.hid (hDD.1.but (butSet _ (qr + 1) 1 (.int .i64 k)) (by omega))
    have X5 := Lib.hid (EntAt.setKind (k' := k) (X4.out.but hDD.2 (by omega)))
    have R5 := Lib.hid ((R4.out.but hDD.2 (by omega)).but (butSet _ (qr + 1) 1 (.int .i64 k)) (by omega))
    have e5 : Ext w (((w4.setCell ⟨qr, 0, none⟩ (.string ⟨l4.toArray⟩)).setCell ⟨qr, 1, none⟩ (.int .i64 B1.err)).setCell ⟨qr + 1, 1, none⟩ (.int .i64 k)) := Below.setCell (Below.trans (B := w.heap.size) e4 (hDD.2.below (by omega) e4.size)) (p := ⟨qr + 1, 1, none⟩) (by show w.heap.size ≤ qr + 1; omega) _
    clear hk hDD
    go_wp2_with fail
    generalize hw : (((w4.setCell ⟨qr, 0, none⟩ (.string ⟨l4.toArray⟩)).setCell ⟨qr, 1, none⟩ (.int .i64 B1.err)).setCell ⟨qr + 1, 1, none⟩ (.int .i64 k)) = w5 at *
    clear hw z0 z1 fz c0 c1 c2 c3 c4 c5 fx D4 X4 R4
    have hcall := readNumRef_any l4 4611686018427387904 B1 w5 hs4 (by omega)
    rw [HF.out] at hcall
    unfold refVal at hcall
    refine hcall.mono ?_
    clear hcall
    rintro e w6 ⟨l6, rfl, hs6, hl6, hE6⟩
    obtain ⟨f, hf⟩ : ∃ f : Int, (nF : Int) = f := ⟨_, rfl⟩
    have Hf := Lib.hid hf
    dsimp only
    rw [hf]
    clear hf
    have e6 := e5.trans hE6
    have D6 := Lib.hid (D5.out.ext hE6)
    have X6 := Lib.hid (X5.out.ext hE6)
    have R6 := Lib.hid (R5.out.ext hE6)
    clear D5 X5 R5 hE6
    obtain ⟨lk, hk, hsm, hln⟩ := D6.out
    have z0 := cell_of_heap hk 0
    have z1 := cell_of_heap hk 1
    have fz := fun i => frozen_of_heap hk i
    simp at z0 z1
    obtain ⟨c0, c1, c2, c3, c4, c5⟩ := X6.out.cells
    have fx := fun i => frozen_of_heap X6.out i
    have hDD := D6.out.set hs6 (show l6.length ≤ t.length by omega)
    have D7 := Lib.hid (hDD.1.but (butSet _ (qr + 1) 3 (.int .i64 f)) (by omega))
    have X7 := Lib.hid (EntAt.setTag (t' := f) (X6.out.but hDD.2 (by omega)))
    have R7 := Lib.hid ((R6.out.but hDD.2 (by omega)).but (butSet _ (qr + 1) 3 (.int .i64 f)) (by omega))
    have e7 : Ext w (((w6.setCell ⟨qr, 0, none⟩ (.string ⟨l6.toArray⟩)).setCell ⟨qr, 1, none⟩ (.int .i64 F1.err)).setCell ⟨qr + 1, 3, none⟩ (.int .i64 f)) := Below.setCell (Below.trans (B := w.heap.size) e6 (hDD.2.below (by omega) e6.size)) (p := ⟨qr + 1, 3, none⟩) (by show w.heap.size ≤ qr + 1; omega) _
    clear hk hDD
    go_wp2_with fail
    generalize hw : (((w6.setCell ⟨qr, 0, none⟩ (.string ⟨l6.toArray⟩)).setCell ⟨qr, 1, none⟩ (.int .i64 F1.err)).setCell ⟨qr + 1, 3, none⟩ (.int .i64 f)) = w7 at *
    clear hw z0 z1 fz c0 c1 c2 c3 c4 c5 fx D6 X6 R6
    have hcall := readNumRef_any l6 4611686018427387904 F1 w7 hs6 (by omega)
    rw [HG.out] at hcall
    unfold refVal at hcall
    refine hcall.mono ?_
    clear hcall
    rintro e w8 ⟨l8, rfl, hs8, hl8, hE8⟩
    obtain ⟨g, hg⟩ : ∃ g : Int, (nG : Int) = g := ⟨_, rfl⟩
    have Hg := Lib.hid hg
    dsimp only
    rw [hg]
    clear hg
    have e8 := e7.trans hE8
    have D8 := Lib.hid (D7.out.ext hE8)
    have X8 := Lib.hid (X7.out.ext hE8)
    have R8 := Lib.hid (R7.out.ext hE8)
    clear D7 X7 R7 hE8
    obtain ⟨lk, hk, hsm, hln⟩ := D8.out
    have z0 := cell_of_heap hk 0
    have z1 := cell_of_heap hk 1
    have fz := fun i => frozen_of_heap hk i
    simp at z0 z1
    obtain ⟨c0, c1, c2, c3, c4, c5⟩ := X8.out.cells
    have fx := fun i => frozen_of_heap X8.out i
    have hDD := D8.out.set hs8 (show l8.length ≤ t.length by omega)
    have D9 := Lib.hid (hDD.1.but (butSet _ (qr + 1) 4 (.int .i64 g)) (by omega))
    have X9 := Lib.hid (EntAt.setTerm (m' := g) (X8.out.but hDD.2 (by omega)))
    have R9 := Lib.hid ((R8.out.but hDD.2 (by omega)).but (butSet _ (qr + 1) 4 (.int .i64 g)) (by omega))
    have e9 : Ext w (((w8.setCell ⟨qr, 0, none⟩ (.string ⟨l8.toArray⟩)).setCell ⟨qr, 1, none⟩ (.int .i64 G1.err)).setCell ⟨qr + 1, 4, none⟩ (.int .i64 g)) := Below.setCell (Below.trans (B := w.heap.size) e8 (hDD.2.below (by omega) e8.size)) (p := ⟨qr + 1, 4, none⟩) (by show w.heap.size ≤ qr + 1; omega) _
    clear hk hDD
    go_wp2_with fail
    generalize hw : (((w8.setCell ⟨qr, 0, none⟩ (.string ⟨l8.toArray⟩)).setCell ⟨qr, 1, none⟩ (.int .i64 G1.err)).setCell ⟨qr + 1, 4, none⟩ (.int .i64 g)) = w9 at *
    clear hw z0 z1 fz c0 c1 c2 c3 c4 c5 fx D8 X8 R8
    have hcall := readNumRef_any l8 4611686018427387904 G1 w9 hs8 (by omega)
    rw [HH.out] at hcall
    unfold refVal at hcall
    refine hcall.mono ?_
    clear hcall
    rintro e w10 ⟨l10, rfl, hs10, hl10, hE10⟩
    obtain ⟨h, hh⟩ : ∃ h : Int, (nH : Int) = h := ⟨_, rfl⟩
    have Hh := Lib.hid hh
    dsimp only
    rw [hh]
    clear hh
    have e10 := e9.trans hE10
    have D10 := Lib.hid (D9.out.ext hE10)
    have X10 := Lib.hid (X9.out.ext hE10)
    have R10 := Lib.hid (R9.out.ext hE10)
    clear D9 X9 R9 hE10
    obtain ⟨lk, hk, hsm, hln⟩ := D10.out
    have z0 := cell_of_heap hk 0
    have z1 := cell_of_heap hk 1
    have fz := fun i => frozen_of_heap hk i
    simp at z0 z1
    obtain ⟨c0, c1, c2, c3, c4, c5⟩ := X10.out.cells
    have fx := fun i => frozen_of_heap X10.out i
    have hDD := D10.out.set hs10 (show l10.length ≤ t.length by omega)
    have D11 := Lib.hid (hDD.1.but (butSet _ (qr + 1) 5 (.int .i64 h)) (by omega))
    have X11 := Lib.hid (EntAt.setPos (p' := h) (X10.out.but hDD.2 (by omega)))
    have R11 := Lib.hid ((R10.out.but hDD.2 (by omega)).but (butSet _ (qr + 1) 5 (.int .i64 h)) (by omega))
    have e11 : Ext w (((w10.setCell ⟨qr, 0, none⟩ (.string ⟨l10.toArray⟩)).setCell ⟨qr, 1, none⟩ (.int .i64 H1.err)).setCell ⟨qr + 1, 5, none⟩ (.int .i64 h)) := Below.setCell (Below.trans (B := w.heap.size) e10 (hDD.2.below (by omega) e10.size)) (p := ⟨qr + 1, 5, none⟩) (by show w.heap.size ≤ qr + 1; omega) _
    clear hk hDD
    go_wp2_with fail
    generalize hw : (((w10.setCell ⟨qr, 0, none⟩ (.string ⟨l10.toArray⟩)).setCell ⟨qr, 1, none⟩ (.int .i64 H1.err)).setCell ⟨qr + 1, 5, none⟩ (.int .i64 h)) = w11 at *
    clear hw z0 z1 fz c0 c1 c2 c3 c4 c5 fx D10 X10 R10
    have HP := Lib.hid (show Ent.read Ent.vd t = ⟨x, k, [], f, g, h⟩ by rw [HP0.out, Hf.out, Hg.out, Hh.out])
    have HI := Lib.hid (ints_none w11)
    refine (refEncode5_any _ ⟨x, k, [], f, g, h⟩ _ ⟨_, rfl, HI.out⟩).mono ?_
    unfold GivesEnc5
    rintro e wf ⟨uf, rfl, hbf, hEf⟩
    have rf := Lib.hid (R11.out.ext hEf)
    have xf := Lib.hid (X11.out.ext hEf)
    have ef := e11.trans hEf
    obtain ⟨c0, c1, c2, c3, c4, c5⟩ := rf.out.cells
    have fr : ∀ i, wf.frozen? ⟨w.heap.size, i, none⟩ = false := fun i => frozen_of_heap rf.out i
    cases hrr : Ent.right ⟨x, k, [], f, g, h⟩ with
    | false =>
     have hno := HBAD.out t rfl (by rw [HP.out]; exact hrr)
     subst hno
     clear hrr hbf
     go_wp2_with fail
     have hs := rf.out.set (.slice none 0 0) Ent.noE
     exact bodyPost_ret (v := .tuple #[entV (.slice none 0 0) Ent.noE, .int .i64 50]) (by simp [results, Tryz.results111, go_sem, c0, c1, c2, c3, c4, c5, fr, Ent.noE, entV]) rfl
      ⟨_, rfl, ⟨_, rfl, RowI.nil _⟩, Below.trans (B := w.heap.size) ef (hs.2.below (Nat.le_refl _) ef.size)⟩
    | true =>
     rw [hrr, bytesOr_true] at hbf
     have hst := run_str (P := Tryz.prog) 38 9 5 Tryz.underlying38 Tryz.underlying5 Tryz.underlying9 hbf
     have hst2 := run_str (P := Tryz.prog) 38 9 5 Tryz.underlying38 Tryz.underlying5 Tryz.underlying9 (HV.out.below ef)
     obtain ⟨af, nf, kf, rfl⟩ := hbf.isSlice
     obtain ⟨Z, hZ⟩ : ∃ Z, Ent.enc ⟨x, k, [], f, g, h⟩ = Z := ⟨_, rfl⟩
     rw [hZ] at hst
     clear hbf
     by_cases hzl : Z = l
     · have hyes := HYES.out t rfl (by rw [HP.out]; exact hrr) (by rw [HP.out, hZ]; exact hzl)
       rw [HP.out] at hyes
       subst hyes
       subst hzl
       clear hrr hZ
       obtain ⟨d0, d1, d2, d3, d4, d5⟩ := xf.out.cells
       go_wp2_with fail
       have hs := rf.out.set (.slice none 0 0) ⟨x, k, [], f, g, h⟩
       exact bodyPost_ret (v := .tuple #[entV (.slice none 0 0) ⟨x, k, [], f, g, h⟩, .int .i64 0]) (by simp [results, Tryz.results111, go_sem, c0, c1, c2, c3, c4, c5, d0, d1, d2, d3, d4, d5, fr, entV]) rfl
        ⟨_, rfl, ⟨_, rfl, RowI.nil _⟩, Below.trans (B := w.heap.size) ef (hs.2.below (Nat.le_refl _) ef.size)⟩
     · have hno := HELSE.out t rfl (by rw [HP.out, hZ]; exact hzl)
       subst hno
       have hzz : (Z == l) = false := beq_eq_false_iff_ne.2 hzl
       clear hrr hZ
       go_wp2_with fail
       have hs := rf.out.set (.slice none 0 0) Ent.noE
       exact bodyPost_ret (v := .tuple #[entV (.slice none 0 0) Ent.noE, .int .i64 50]) (by simp [results, Tryz.results111, go_sem, c0, c1, c2, c3, c4, c5, fr, Ent.noE, entV]) rfl
        ⟨_, rfl, ⟨_, rfl, RowI.nil _⟩, Below.trans (B := w.heap.size) ef (hs.2.below (Nat.le_refl _) ef.size)⟩
end Go.Proofs.YtldfpklgbedgjaaGreat
