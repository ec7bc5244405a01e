/-
  Layer 4: records, rows of records and places, out of what comes in.
-/
import Derived.Test.YtjflbjlpibekhaaRecAlive
import Derived.Test.YtjflbjlpibekhaaVecRaw
import Derived.Test.YtjflbjlpibekhaaPackRaw
import Derived.Test.YtjflbjlpibekhaaRows
import Derived.Test.YtjflbjlpibekhaaChecked
import Derived.SizedLaws
namespace Go.Proofs.Ytjflbjlpibekhaa
set_option linter.unusedSimpArgs false
set_option linter.unusedVariables false
set_option maxRecDepth 100000
open Go.ChangeShapes Go.WideShapes Go.ChangeAt Go.RowKit

section
variable {H : Type} {enc : TypeId × Value → H} {w : World} {base : Nat} {spare : Nat → Bool} {held : Bool}

theorem four_of {α : Type} {l : List α} (h : l.length = 4) : ∃ a b c d, l = [a, b, c, d] := by
  match l, h with
  | [a, b, c, d], _ => exact ⟨a, b, c, d, rfl⟩
theorem three_of {α : Type} {l : List α} (h : l.length = 3) : ∃ a b c, l = [a, b, c] := by
  match l, h with
  | [a, b, c], _ => exact ⟨a, b, c, rfl⟩
theorem two_of {α : Type} {l : List α} (h : l.length = 2) : ∃ a b, l = [a, b] := by
  match l, h with
  | [a, b], _ => exact ⟨a, b, rfl⟩
set_option maxRecDepth 100000 in
theorem id_of_raw {fuel : Nat} {cs : List Value} {x : DataW H × List MemPlace} (h : DataW.trod enc Try.prog w base spare held fuel 23 cs = some x) : ∃ c n : Int, cs = [.int .i64 c, .int .i64 n] := by
  obtain ⟨xs, n, _, rfl, hl, hlen, hf⟩ := DataW.trod_struct Try.underlying23 h
  have hc : Try.prog.cellsOf 23 = 2 := by kernel_rfl
  have hi : Try.prog.cellsOf 3 = 1 := by kernel_rfl
  rw [hc] at hl
  obtain ⟨c0, c1, rfl⟩ := two_of hl
  obtain ⟨y0, y1, rfl⟩ := two_of hlen
  have f0 := hf 0 _ rfl
  have f1 := hf 1 _ rfl
  simp only [hi, List.drop_zero, List.drop_succ_cons, List.take_succ_cons, List.take_zero, List.getElem?_cons_zero, List.getElem?_cons_succ] at f0 f1
  obtain ⟨n0, e0, _, _⟩ := DataW.trod_int Try.underlying3 f0
  obtain ⟨n1, e1, _, _⟩ := DataW.trod_int Try.underlying3 f1
  injection e0 with e0 _
  injection e1 with e1 _
  subst e0 e1
  exact ⟨n0, n1, rfl⟩
set_option maxRecDepth 100000 in
theorem rec_of_raw {fuel : Nat} {cs : List Value} {x : DataW H × List MemPlace} (h : DataW.trod enc Try.prog w base spare held fuel 26 cs = some x) :
    ∃ (t : Value) (r : Rec.R), cs = [.int .i64 r.client, .int .i64 r.number, t, .string ⟨r.data.toArray⟩] ∧ Ints w t r.tags := by
  obtain ⟨xs, n, _, rfl, hl, hlen, hf⟩ := DataW.trod_struct Try.underlying26 h
  have hc : Try.prog.cellsOf 26 = 4 := by kernel_rfl
  have hd : Try.prog.cellsOf 23 = 2 := by kernel_rfl
  have hi : Try.prog.cellsOf 3 = 1 := by kernel_rfl
  have hii : Try.prog.cellsOf 24 = 1 := by kernel_rfl
  have hs : Try.prog.cellsOf 9 = 1 := by kernel_rfl
  rw [hc] at hl
  obtain ⟨c0, c1, c2, c3, rfl⟩ := four_of hl
  obtain ⟨y0, y1, y2, rfl⟩ := three_of hlen
  have f0 := hf 0 _ rfl
  have f1 := hf 1 _ rfl
  have f2 := hf 2 _ rfl
  simp only [hd, hii, hs, List.drop_zero, List.drop_succ_cons, List.take_succ_cons, List.take_zero, List.getElem?_cons_zero, List.getElem?_cons_succ] at f0 f1 f2
  obtain ⟨n0, n1, e0⟩ := id_of_raw f0
  obtain ⟨v, l, e1, hv⟩ := ints_of_raw Try.underlying24 Try.underlying3 hi f1
  obtain ⟨s, e2, _, _⟩ := DataW.trod_string Try.underlying9 f2
  injection e0 with e00 e0
  injection e0 with e01 _
  injection e1 with e1 _
  injection e2 with e2 _
  subst e00 e01 e1 e2
  exact ⟨_, ⟨n0, n1, l, s.data.toList⟩, by simp, hv⟩
theorem rec_arg {r : Reach} {b0 : Nat} {v : Value} {d : DataW H} {p : List MemPlace} (hv : Value.okWide Try.prog w r b0 26 v) (h : DataW.Trod enc Try.prog w base spare held 26 v d p) : ∃ r, IsRec w v r := by
  obtain ⟨cs, rfl, hsz⟩ := okWide_struct Try.underlying26 hv
  obtain ⟨fuel, hf⟩ := h
  obtain ⟨t, r, hcs, ht⟩ := rec_of_raw hf
  obtain ⟨l⟩ := cs
  have e : l = [.int .i64 r.client, .int .i64 r.number, t, .string ⟨r.data.toArray⟩] := hcs
  subst e
  exact ⟨r, t, rfl, ht⟩
set_option maxRecDepth 100000 in
theorem seq_arg {r : Reach} {b0 : Nat} {v : Value} {d : DataW H} {p : List MemPlace} (hv : Value.okWide Try.prog w r b0 45 v) (h : DataW.Trod enc Try.prog w base spare held 45 v d p) : ∃ a : Int × Int, v = seqV a.1 a.2 := by
  obtain ⟨cs, rfl, hsz⟩ := okWide_struct Try.underlying45 hv
  obtain ⟨fuel, hf0⟩ := h
  obtain ⟨xs, n, _, _, hl, hlen, hf⟩ := DataW.trod_struct Try.underlying45 hf0
  have hc : Try.prog.cellsOf 45 = 2 := by kernel_rfl
  have hi : Try.prog.cellsOf 3 = 1 := by kernel_rfl
  obtain ⟨l⟩ := cs
  have hl2 : l.length = 2 := by rw [hc] at hl; exact hl
  obtain ⟨c0, c1, rfl⟩ := two_of hl2
  obtain ⟨y0, y1, rfl⟩ := two_of hlen
  have f0 := hf 0 _ rfl
  have f1 := hf 1 _ rfl
  simp only [Value.cells, hi, List.drop_zero, List.drop_succ_cons, List.take_succ_cons, List.take_zero, List.getElem?_cons_zero, List.getElem?_cons_succ] at f0 f1
  obtain ⟨n0, e0, _, _⟩ := DataW.trod_int Try.underlying3 f0
  obtain ⟨n1, e1, _, _⟩ := DataW.trod_int Try.underlying3 f1
  injection e0 with e0 _
  injection e1 with e1 _
  subst e0 e1
  exact ⟨(n0, n1), rfl⟩
set_option maxRecDepth 100000 in
theorem recs_of_raw {fuel : Nat} {cs : List Value} {x : DataW H × List MemPlace} (h : DataW.trod enc Try.prog w base spare held fuel 39 cs = some x) : ∃ v l, cs = [v] ∧ Recs w v l := by
  have hc : Try.prog.cellsOf 26 = 4 := by kernel_rfl
  rcases DataW.trod_slice Try.underlying39 h with ⟨rfl, _⟩ | ⟨a, len, cap, elems, rest, n, _, rfl, rfl, _, hl, hm, hlen, hel, _, _⟩
  · exact ⟨_, [], rfl, ⟨none, 0, rfl, Nat.le_refl _, by simp [maxLen], fun _ => rfl, fun i hi => absurd hi (by simp)⟩⟩
  · rw [hc] at hel
    have each : ∀ i (hi : i < elems.length), ∃ (r : Rec.R) (t : Value), Ints w t r.tags ∧ ∀ j, j < 4 → w.cell? ((a.add (i * 4)).add j) = [Value.int .i64 r.client, .int .i64 r.number, t, .string ⟨r.data.toArray⟩][j]? := by
      intro i hi
      have h1 := hel i (by omega)
      rw [List.getElem?_eq_getElem hi, Option.bind_eq_some_iff] at h1
      obtain ⟨ds, hds, hy⟩ := h1
      obtain ⟨t, r, rfl, ht⟩ := rec_of_raw hy
      exact ⟨r, t, ht, (World.cells?_some hds).2.2⟩
    obtain ⟨f, hf⟩ : ∃ f : Nat → Rec.R, ∀ i (hi : i < elems.length), ∃ t : Value, Ints w t (f i).tags ∧ ∀ j, j < 4 → w.cell? ((a.add (i * 4)).add j) = [Value.int .i64 (f i).client, .int .i64 (f i).number, t, .string ⟨(f i).data.toArray⟩][j]? := by
      have : ∀ i, ∃ r : Rec.R, ∀ (hi : i < elems.length), ∃ t : Value, Ints w t r.tags ∧ ∀ j, j < 4 → w.cell? ((a.add (i * 4)).add j) = [Value.int .i64 r.client, .int .i64 r.number, t, .string ⟨r.data.toArray⟩][j]? := by
        intro i
        by_cases hi : i < elems.length
        · obtain ⟨p, hp⟩ := each i hi
          exact ⟨p, fun _ => hp⟩
        · exact ⟨⟨0, 0, [], []⟩, fun h => absurd h hi⟩
      exact ⟨fun i => (this i).choose, fun i => (this i).choose_spec⟩
    refine ⟨_, (List.range elems.length).map f, rfl, ⟨some a, cap, by simp [hlen], by simp; omega, hm, fun e => by simp at e, fun i hi => ?_⟩⟩
    have hi' : i < elems.length := by simpa using hi
    obtain ⟨t, ht, hk⟩ := hf i hi'
    have hs : a.spot = none := by
      obtain ⟨t0, _, hk0⟩ := hf 0 (by omega)
      have h0 := hk0 0 (by omega)
      have e0 : (a.add (0 * 4)).add 0 = a := by simp [Addr.add]
      rw [e0] at h0
      unfold World.cell? at h0
      cases hsp : a.spot with
      | none => rfl
      | some s =>
        exfalso
        rw [hsp] at h0
        simp only [List.getElem?_cons_zero] at h0
        split at h0 <;> simp at h0
    obtain ⟨b, off, spot⟩ := a
    simp only at hs
    subst hs
    have k0 := hk 0 (by omega)
    have k1 := hk 1 (by omega)
    have k2 := hk 2 (by omega)
    have k3 := hk 3 (by omega)
    simp only [Addr.add_lit, Nat.add_zero, List.getElem?_cons_zero, List.getElem?_cons_succ] at k0 k1 k2 k3
    simp only [List.getElem_map, List.getElem_range]
    exact ⟨b, off, rfl, t, k0, k1, k2, k3, ht⟩
end
end Go.Proofs.Ytjflbjlpibekhaa
