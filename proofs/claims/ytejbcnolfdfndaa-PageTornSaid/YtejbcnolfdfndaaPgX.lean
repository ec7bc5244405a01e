/-
  Layer 8, PageTorn's mathematics: what a crash leaves of two rows of frames; rows of bytes in a row of one's own.
-/
import Derived.Test.YtejbcnolfdfndaaPgW
namespace Go.Proofs.Ytejbcnolfdfndaa
set_option linter.unusedSimpArgs false
set_option linter.unusedVariables false
set_option maxRecDepth 100000
open Go.ChangeShapes Go.WideShapes Go.ChangeAt Go.RowKit

theorem tFrE : ElemOf Try.prog 43 22 (.slice none 0 0) 24 := ⟨Try.underlying43, by kernel_rfl, rfl⟩
/-- Values that are bytes' slices. -/
def RowV (w : World) (xs : List Value) (l : List (List UInt8)) : Prop := xs.length = l.length ∧ ∀ i (h : i < xs.length) (h' : i < l.length), Bytes w xs[i] l[i]
theorem RowV.below {w w' : World} {xs : List Value} {l : List (List UInt8)} (h : RowV w xs l) (hb : Below w.heap.size w w') : RowV w' xs l := ⟨h.1, fun i h1 h2 => (h.2 i h1 h2).below hb⟩
theorem RowV.append {w : World} {xs ys : List Value} {l m : List (List UInt8)} (h : RowV w xs l) (k : RowV w ys m) : RowV w (xs ++ ys) (l ++ m) := by
  refine ⟨by simp [h.1, k.1], fun i h1 h2 => ?_⟩
  by_cases hi : i < xs.length
  · have := h.2 i hi (by have := h.1; omega)
    simp only [List.getElem_append_left hi, List.getElem_append_left (show i < l.length by have := h.1; omega)]
    exact this
  · have hl := h.1
    have := k.2 (i - xs.length) (by simp at h1; omega) (by simp at h2; omega)
    rw [List.getElem_append_right (by omega), List.getElem_append_right (by omega)]
    simp only [hl] at this ⊢
    exact this
theorem RowV.one {w : World} {xs : List Value} {l : List (List UInt8)} (h : RowV w xs l) : ∀ y ∈ xs, y.oneCell' = true := by
  intro y hy
  obtain ⟨i, hi, rfl⟩ := List.mem_iff_getElem.1 hy
  obtain ⟨_, _, _, e⟩ := (h.2 i hi (by have := h.1; omega)).isSlice
  rw [e]
  rfl
theorem Rows.rowV {w : World} {v : Value} {l : List (List UInt8)} (h : Rows w v l) : ∃ xs, Sl w v xs ∧ RowV w xs l := by
  obtain ⟨xs, h1, h2, h3⟩ := h
  exact ⟨xs, h1, h2, h3⟩
theorem row_appended {wr w3 : World} {B p n : Nat} {va vp va' vp' v : Value} {S : Page.St} {x : List UInt8} {xs : List Value} (hA : Appended wr B p va vp S x w3 va' vp') (hs : IsSto wr B p va vp S) (hat : wr.ownsRow B 22 1 v n xs) : w3.ownsRow B 22 1 v n xs := by
  refine rowOwn hat fun g hg => ?_
  obtain ⟨cs, hc⟩ := ownCells hat hg
  refine hA.block g (hat.lt g hg).2 (fun e => ?_) (rowBeside hs.all hc (by decide)) (rowBeside hs.places hc (by decide))
  subst e
  rw [hs.heap] at hc
  injection hc with hc
  injection hc with _ e _
  exact absurd e (by decide)
namespace Page
theorem appended_takeM {ls : List (List UInt8)} {k m : Nat} (hk : k < ls.length) (hr : room ⟨ls.take k, m, false⟩ ls[k] = true) : (⟨ls.take k, m, false⟩ : St).append ls[k] = ⟨ls.take (k + 1), m, false⟩ ∧ (⟨ls.take k, m, false⟩ : St).appendErr ls[k] = 0 := by
  refine ⟨?_, ?_⟩
  · unfold St.append
    rw [if_neg (by simp), if_pos hr, List.take_succ_eq_append_getElem hk]
  · unfold St.appendErr
    rw [if_neg (by simp), if_pos hr]
/-- What a crash leaves of two rows, of which the first one is safe. -/
theorem torn {la lb : List (List UInt8)} {keep : Nat} {n : Nat} (hn : n ≤ lb.length) (h1 : (bytes (lb.take n)).length ≤ keep) (h2 : n < lb.length → keep < (bytes (lb.take (n + 1))).length) : ((⟨la ++ lb, la.length, false⟩ : St).crash (keep : Int)).l.length = la.length + n := by
  have hsyn : (⟨la ++ lb, la.length, false⟩ : St).syn = (bytes la).length := by unfold St.syn; simp
  have hstay : (⟨la ++ lb, la.length, false⟩ : St).stay (keep : Int) = (bytes la).length + min keep (bytes lb).length := by
    unfold St.stay
    rw [hsyn]
    simp only [bytes_append, List.length_append, Int.toNat_natCast]
    congr 2
    omega
  have hw : whole lb (min keep (bytes lb).length) = n := by
    have hle := whole_le lb (min keep (bytes lb).length)
    have a1 := (whole_iff lb (min keep (bytes lb).length) n hn).1 (by have := bytes_take_le lb n; omega)
    rcases Nat.lt_or_ge n (whole lb (min keep (bytes lb).length)) with h | h
    · have hlt : n < lb.length := by omega
      have := (whole_iff lb (min keep (bytes lb).length) (n + 1) (by omega)).2 h
      have := h2 hlt
      omega
    · omega
  show ((la ++ lb).take (whole (la ++ lb) _)).length = _
  rw [hstay, whole_append, hw]
  simp
  omega
theorem left_step {lb : List (List UInt8)} {j : Nat} (hj : j < lb.length) : (bytes (lb.take (j + 1))).length = (bytes (lb.take j)).length + (frame lb[j]).length := by
  rw [List.take_succ_eq_append_getElem hj, bytes_snoc, List.length_append]
theorem small_of {S : St} (h : S.Ok) {x : List UInt8} (hx : x ∈ S.l) : x.length ≤ 70000 := by
  obtain ⟨i, hi, rfl⟩ := List.mem_iff_getElem.1 hx
  have h1 := left_step (lb := S.l) hi
  have h2 := bytes_take_le S.l (i + 1)
  have h3 := h.max
  have h4 := frame_length S.l[i]
  omega
end Page
end Go.Proofs.Ytejbcnolfdfndaa
