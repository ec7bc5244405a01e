/-
  Merged: Layer 9: scripts of calls on a segment: as they lie in memory, out of what comes in, and whether they are few.
-/
import Derived.Test.YtfgjhagfpafmoaaGreatBsRec
import Derived.Test.YtfgjhagfpafmoaaGreatPgO
import Derived.Test.YtfgjhagfpafmoaaGreatSgJ

namespace Go.Proofs.YtfgjhagfpafmoaaGreat
set_option linter.unusedSimpArgs false
set_option linter.unusedVariables false
set_option maxRecDepth 100000
open Go.ChangeShapes Go.WideShapes Go.ChangeAt Go.RowKit
/- Layer 9: scripts of calls on a segment: as they lie in memory, out of what comes in, and whether they are few. -/
namespace Seg
def Op.Small (o : Op) : Prop := o.Fits ∧ o.r.data.length ≤ 140737488351232 ∧ o.r.tags.length ≤ 140737488351232
def mass (l : List Op) : Nat := (l.map fun o => o.r.data.length + o.r.tags.length + 10).sum
def few (l : List Op) : Bool := decide (l.length ≤ 60) && decide (mass l ≤ 10000)
theorem mass_take {l : List Op} {k : Nat} (hk : k < l.length) : mass (l.take (k + 1)) = mass (l.take k) + (l[k].r.data.length + l[k].r.tags.length + 10) := by
  unfold mass
  rw [List.take_succ_eq_append_getElem hk, List.map_append, List.sum_append]
  simp
theorem mass_le : ∀ {l : List Op}, (∀ o ∈ l, o.Small) → mass l ≤ l.length * 281474976702474 := by
  intro l
  induction l with
  | nil => intro _; simp [mass]
  | cons o l ih =>
    intro h
    have h1 := ih (fun x hx => h x (List.mem_cons_of_mem _ hx))
    have h2 := (h o (List.mem_cons_self ..)).2
    unfold mass at h1 ⊢
    simp only [List.map_cons, List.sum_cons, List.length_cons]
    omega
theorem mass_take_le {l : List Op} (h : ∀ o ∈ l, o.Small) (k : Nat) : mass (l.take k) ≤ k * 281474976702474 :=
  Nat.le_trans (mass_le fun o ho => h o (List.mem_of_mem_take ho)) (Nat.mul_le_mul_right _ (List.length_take_le _ _))
end Seg

def opV9 (o : Seg.Op) (t : Value) : Value := .agg #[.int .i64 o.kind, .int .i64 o.n, .int .i64 o.r.client, .int .i64 o.r.number, t, .string ⟨o.r.data.toArray⟩, .bool o.is]
def OpHere9 (w : World) (b off : Nat) (o : Seg.Op) : Prop := ∃ t : Value, w.cell? ⟨b, off, none⟩ = some (.int .i64 o.kind) ∧ w.cell? ⟨b, off + 1, none⟩ = some (.int .i64 o.n) ∧ w.cell? ⟨b, off + 2, none⟩ = some (.int .i64 o.r.client) ∧ w.cell? ⟨b, off + 3, none⟩ = some (.int .i64 o.r.number) ∧ w.cell? ⟨b, off + 4, none⟩ = some t ∧ w.cell? ⟨b, off + 5, none⟩ = some (.string ⟨o.r.data.toArray⟩) ∧ w.cell? ⟨b, off + 6, none⟩ = some (.bool o.is) ∧ Ints w t o.r.tags
theorem OpHere9.below {w w' : World} {b off : Nat} {o : Seg.Op} (h : OpHere9 w b off o) (hb : Below w.heap.size w w') : OpHere9 w' b off o := by
  obtain ⟨t, h0, h1, h2, h3, h4, h5, h6, ht⟩ := h
  exact ⟨t, cell_below h0 hb, cell_below h1 hb, cell_below h2 hb, cell_below h3 hb, cell_below h4 hb, cell_below h5 hb, cell_below h6 hb, ht.below hb⟩
def Ops9 (w : World) (v : Value) (l : List Seg.Op) : Prop :=
  ∃ (a : Option Addr) (cap : Nat), v = .slice a l.length cap ∧ l.length ≤ cap ∧ cap ≤ maxLen ∧ (a = none → cap = 0) ∧ ∀ i (h : i < l.length), ∃ b off, a = some ⟨b, off, none⟩ ∧ OpHere9 w b (off + i * 7) l[i]
theorem Ops9.below {w w' : World} {v : Value} {l : List Seg.Op} (h : Ops9 w v l) (hb : Below w.heap.size w w') : Ops9 w' v l := by
  obtain ⟨a, cap, rfl, h1, h2, h4, h3⟩ := h
  refine ⟨a, cap, rfl, h1, h2, h4, fun i hi => ?_⟩
  obtain ⟨b, off, ha, ho⟩ := h3 i hi
  exact ⟨b, off, ha, ho.below hb⟩
theorem Ops9.len {w : World} {a : Option Addr} {n c : Nat} {l : List Seg.Op} (h : Ops9 w (.slice a n c) l) : n = l.length ∧ n ≤ c ∧ c ≤ 9223372036854775807 := by
  obtain ⟨a', c', e, h1, h2, _, _⟩ := h
  injection e with _ e2 e3
  subst e2 e3
  exact ⟨rfl, h1, h2⟩
section
variable {H : Type} {enc : TypeId × Value → H} {w : World} {base : Nat} {spare : Nat → Bool} {held : Bool}
theorem seven_of {α : Type} {l : List α} (h : l.length = 7) : ∃ a b c d e f g, l = [a, b, c, d, e, f, g] := by
  match l, h with
  | [a, b, c, d, e, f, g], _ => exact ⟨a, b, c, d, e, f, g, rfl⟩
/-- How long a record's parts are, by what is given of the sizes. -/
theorem rec_small {fuel : Nat} {cs : List Value} {x : DataW H × List MemPlace} (h : DataW.trod enc Tryz.prog w base spare held fuel 44 cs = some x) (hw : ∀ m ∈ x.1.weights Tryz.prog 44, m ≤ 140737488351232) :
    ∃ (t : Value) (r : Rec.R), cs = [.int .i64 r.client, .int .i64 r.number, t, .string ⟨r.data.toArray⟩] ∧ Ints w t r.tags ∧ r.data.length ≤ 140737488351232 ∧ r.tags.length ≤ 140737488351232 := by
  obtain ⟨xs, n, _, rfl, hl, hlen, hf⟩ := DataW.trod_struct Tryz.underlying44 h
  have hc : Tryz.prog.cellsOf 44 = 4 := by kernel_rfl
  have hd : Tryz.prog.cellsOf 41 = 2 := by kernel_rfl
  have hi : Tryz.prog.cellsOf 3 = 1 := by kernel_rfl
  have hii : Tryz.prog.cellsOf 42 = 1 := by kernel_rfl
  have hs : Tryz.prog.cellsOf 9 = 1 := by kernel_rfl
  rw [hc] at hl
  obtain ⟨c0, c1, c2, c3, rfl⟩ := four_of hl
  obtain ⟨y0, y1, y2, rfl⟩ := three_of hlen
  have f0 := hf 0 _ rfl
  have f1 := hf 1 _ rfl
  have f2 := hf 2 _ rfl
  simp only [hd, hii, hs, List.drop_zero, List.drop_succ_cons, List.take_succ_cons, List.take_zero, List.getElem?_cons_zero, List.getElem?_cons_succ] at f0 f1 f2
  obtain ⟨n0, n1, e0⟩ := id_of_raw f0
  obtain ⟨v, l, e1, hv⟩ := ints_of_raw Tryz.underlying42 Tryz.underlying3 hi f1
  obtain ⟨s, e2, hx2, _⟩ := DataW.trod_string Tryz.underlying9 f2
  injection e0 with e00 e0
  injection e0 with e01 _
  injection e1 with e1 _
  injection e2 with e2 _
  subst e00 e01 e1 e2
  refine ⟨_, ⟨n0, n1, l, s.data.toList⟩, by simp, hv, ?_, ?_⟩
  · refine hw _ ?_
    simp only [DataW.weights, Tryz.underlying44]
    refine DataW.weights_mem_each (j := 2) (t := 9) (d := y2.1) rfl rfl _ ?_
    rw [hx2]
    simp [DataW.weights]
  · obtain ⟨av, cv, rfl, _⟩ := hv.open
    rcases len_of_raw Tryz.underlying42 f1 with h0 | ⟨es, sp, e6, e7⟩
    · show l.length ≤ _
      omega
    · have hm := hw ((es.length + sp.length) * Tryz.prog.bytesOf 3) (by
        simp only [DataW.weights, Tryz.underlying44]
        refine DataW.weights_mem_each (j := 1) (t := 42) (d := y1.1) rfl rfl _ ?_
        rw [e6]
        simp [DataW.weights, Tryz.underlying42])
      have hu1 : Tryz.prog.bytesOf 3 = 8 := by kernel_rfl
      rw [hu1] at hm
      show l.length ≤ _
      omega
theorem op9_of_raw {fuel : Nat} {cs : List Value} {x : DataW H × List MemPlace} (h : DataW.trod enc Tryz.prog w base spare held fuel 46 cs = some x) (hw : ∀ m ∈ x.1.weights Tryz.prog 46, m ≤ 140737488351232) :
    ∃ (t : Value) (o : Seg.Op), cs = [.int .i64 o.kind, .int .i64 o.n, .int .i64 o.r.client, .int .i64 o.r.number, t, .string ⟨o.r.data.toArray⟩, .bool o.is] ∧ Ints w t o.r.tags ∧ o.Small := by
  obtain ⟨xs, n, _, rfl, hl, hlen, hf⟩ := DataW.trod_struct Tryz.underlying46 h
  have hc : Tryz.prog.cellsOf 46 = 7 := by kernel_rfl
  have hi : Tryz.prog.cellsOf 3 = 1 := by kernel_rfl
  have hu : Tryz.prog.cellsOf 44 = 4 := by kernel_rfl
  have hb : Tryz.prog.cellsOf 4 = 1 := by kernel_rfl
  rw [hc] at hl
  obtain ⟨c0, c1, c2, c3, c4, c5, c6, rfl⟩ := seven_of hl
  obtain ⟨y0, y1, y2, y3, rfl⟩ := four_of hlen
  have f0 := hf 0 _ rfl
  have f1 := hf 1 _ rfl
  have f2 := hf 2 _ rfl
  have f3 := hf 3 _ rfl
  simp only [hi, hu, hb, List.drop_zero, List.drop_succ_cons, List.take_succ_cons, List.take_zero, List.getElem?_cons_zero, List.getElem?_cons_succ] at f0 f1 f2 f3
  obtain ⟨n0, e0, _, _⟩ := DataW.trod_int Tryz.underlying3 f0
  obtain ⟨n1, e1, _, hw1⟩ := DataW.trod_int Tryz.underlying3 f1
  obtain ⟨v, r, e2, hv, hd1, hd2⟩ := rec_small f2 (fun m hm => hw m (by
    simp only [DataW.weights, Tryz.underlying46]
    exact DataW.weights_mem_each (j := 2) (t := 44) (d := y2.1) rfl rfl _ hm))
  obtain ⟨b3, e3, _⟩ := DataW.trod_bool Tryz.underlying4 f3
  injection e0 with e0 _
  injection e1 with e1 _
  injection e2 with e20 e2
  injection e2 with e21 e2
  injection e2 with e22 e2
  injection e2 with e23 _
  injection e3 with e3 _
  subst e0 e1 e20 e21 e22 e23 e3
  exact ⟨_, ⟨n0, n1, r, b3⟩, rfl, hv, bounds_i64 hw1, hd1, hd2⟩
theorem ops9_of_raw {fuel : Nat} {cs : List Value} {x : DataW H × List MemPlace} (h : DataW.trod enc Tryz.prog w base spare held fuel 23 cs = some x) (hw : ∀ m ∈ x.1.weights Tryz.prog 23, m ≤ 140737488351232) :
    ∃ v l, cs = [v] ∧ Ops9 w v l ∧ ∀ o ∈ l, o.Small := by
  have hc : Tryz.prog.cellsOf 46 = 7 := by kernel_rfl
  rcases DataW.trod_slice Tryz.underlying23 h with ⟨rfl, _⟩ | ⟨a, len, cap, elems, rest, n, _, rfl, rfl, _, hl, hm, hlen, hel, _, _⟩
  · exact ⟨_, [], rfl, ⟨none, 0, rfl, Nat.le_refl _, by simp [maxLen], fun _ => rfl, fun i hi => absurd hi (by simp)⟩, fun o ho => absurd ho (by simp)⟩
  · rw [hc] at hel
    have each : ∀ i (hi : i < elems.length), ∃ (o : Seg.Op) (t : Value), Ints w t o.r.tags ∧ o.Small ∧ ∀ j, j < 7 → w.cell? ((a.add (i * 7)).add j) = [Value.int .i64 o.kind, .int .i64 o.n, .int .i64 o.r.client, .int .i64 o.r.number, t, .string ⟨o.r.data.toArray⟩, .bool o.is][j]? := by
      intro i hi
      have h1 := hel i (by omega)
      rw [List.getElem?_eq_getElem hi, Option.bind_eq_some_iff] at h1
      obtain ⟨ds, hds, hy⟩ := h1
      obtain ⟨t, o, rfl, ht, hf⟩ := op9_of_raw hy (fun m hm => hw m (by
        have := weights_all_mem elems i hi m hm
        simp only [DataW.weights, Tryz.underlying23, List.mem_cons, List.mem_append]
        exact .inr (.inl this)))
      exact ⟨o, t, ht, hf, (World.cells?_some hds).2.2⟩
    obtain ⟨f, hf⟩ : ∃ f : Nat → Seg.Op, ∀ i (hi : i < elems.length), (∃ t : Value, Ints w t (f i).r.tags ∧ ∀ j, j < 7 → w.cell? ((a.add (i * 7)).add j) = [Value.int .i64 (f i).kind, .int .i64 (f i).n, .int .i64 (f i).r.client, .int .i64 (f i).r.number, t, .string ⟨(f i).r.data.toArray⟩, .bool (f i).is][j]?) ∧ (f i).Small := by
      have : ∀ i, ∃ o : Seg.Op, ∀ (hi : i < elems.length), (∃ t : Value, Ints w t o.r.tags ∧ ∀ j, j < 7 → w.cell? ((a.add (i * 7)).add j) = [Value.int .i64 o.kind, .int .i64 o.n, .int .i64 o.r.client, .int .i64 o.r.number, t, .string ⟨o.r.data.toArray⟩, .bool o.is][j]?) ∧ o.Small := by
        intro i
        by_cases hi : i < elems.length
        · obtain ⟨o, t, h1, h2, h3⟩ := each i hi
          exact ⟨o, fun _ => ⟨⟨t, h1, h3⟩, h2⟩⟩
        · exact ⟨⟨0, 0, Seg.zeroR, false⟩, fun h => absurd h hi⟩
      exact ⟨fun i => (this i).choose, fun i => (this i).choose_spec⟩
    refine ⟨_, (List.range elems.length).map f, rfl, ⟨some a, cap, by simp [hlen], by simp; omega, hm, fun e => by simp at e, fun i hi => ?_⟩, fun o ho => ?_⟩
    · have hi' : i < elems.length := by simpa using hi
      obtain ⟨t, ht, hk⟩ := (hf i hi').1
      have hs : a.spot = none := by
        obtain ⟨t0, _, hk0⟩ := (hf 0 (by omega)).1
        have h0 := hk0 0 (by omega)
        have e0 : (a.add (0 * 7)).add 0 = a := by simp [Addr.add]
        rw [e0] at h0
        unfold World.cell? at h0
        cases hsp : a.spot with
        | none => rfl
        | some s =>
          exfalso
          rw [hsp] at h0
          simp only [List.getElem?_cons_zero] at h0
          split at h0 <;> simp at h0
      obtain ⟨b, off, spot⟩ := a
      simp only at hs
      subst hs
      have k0 := hk 0 (by omega)
      have k1 := hk 1 (by omega)
      have k2 := hk 2 (by omega)
      have k3 := hk 3 (by omega)
      have k4 := hk 4 (by omega)
      have k5 := hk 5 (by omega)
      have k6 := hk 6 (by omega)
      simp only [Addr.add_lit, Nat.add_zero, List.getElem?_cons_zero, List.getElem?_cons_succ] at k0 k1 k2 k3 k4 k5 k6
      simp only [List.getElem_map, List.getElem_range]
      exact ⟨b, off, rfl, t, k0, k1, k2, k3, k4, k5, k6, ht⟩
    · obtain ⟨i, hi, rfl⟩ := List.mem_map.1 ho
      exact (hf i (List.mem_range.1 hi)).2
end

set_option maxHeartbeats 8000000 in
theorem few9_any (v : Value) (l : List Seg.Op) (w : World) (hv : Ops9 w v l) (hf : ∀ o ∈ l, o.Small) :
    Calls Tryz.prog 8 #[v] w fun e w' => e = .returned (.bool (Seg.few l)) ∧ Ext w w' := by
  have HV := Lib.hid hv
  have HF := Lib.hid hf
  obtain ⟨a, cap, rfl, hcap, hmax, _, _⟩ := hv
  unfold maxLen at hmax
  obtain ⟨n, hn⟩ : ∃ n, l.length = n := ⟨_, rfl⟩
  have HN := Lib.hid hn
  rw [hn] at HV hcap ⊢
  clear hf hn
  by_cases h60 : n ≤ 60
  · go_enter Tryz.func8, Tryz.ntmps8
    go_wp2_with fail
    go_loopw [3, 8] (fun s i wr => ∃ (k M : Nat), k ≤ n ∧ s = .int .i64 M ∧ i = .int .i64 k ∧ Hid (Seg.mass (l.take k) = M) ∧ Ext w wr) (fun _ i _ => n - (intOf i).toNat)
    case atStart => exact ⟨0, 0, by omega, rfl, rfl, Lib.hid (by rw [List.take_zero]; rfl), Ext.refl _⟩
    case round =>
      obtain ⟨k, M, hk, rfl, rfl, hM, hE⟩ := hrel
      by_cases hlt : k < n
      · have hkl : k < l.length := by rw [HN.out]; exact hlt
        obtain ⟨a', cap', e', _, _, _, hc⟩ := HV.out.below hE
        obtain ⟨b, off, rfl, t, p0, p1, p2, p3, p4, p5, p6, ht⟩ := hc k hkl
        injection e' with e1 e2 e3
        subst e1
        obtain ⟨at', ct, rfl, htc, htm, _⟩ := ht.open
        have hfk := (HF.out l[k] (List.getElem_mem _)).2
        have hms := Seg.mass_take hkl
        rw [hM.out] at hms
        have hMl := Seg.mass_take_le HF.out k
        rw [hM.out] at hMl
        have hMl2 : M ≤ 16888498602148440 := Nat.le_trans hMl (Nat.le_trans (Nat.mul_le_mul_right _ (show k ≤ 60 by omega)) (by decide))
        obtain ⟨o, ho⟩ : ∃ o, l[k] = o := ⟨_, rfl⟩
        rw [ho] at p0 p1 p2 p3 p4 p5 p6 hfk hms htc
        obtain ⟨o0, o1, ⟨r0, r1, r2, r3⟩, o3⟩ := o
        simp only at p0 p1 p2 p3 p4 p5 p6 hfk hms htc
        obtain ⟨nt, hnt⟩ : ∃ nt, r2.length = nt := ⟨_, rfl⟩
        obtain ⟨d, hd⟩ : ∃ d : ByteArray, (⟨r3.toArray⟩ : ByteArray) = d := ⟨_, rfl⟩
        have hds : d.size = r3.length := by rw [← hd]; rfl
        rw [hnt] at p4 hfk hms htc
        rw [hd] at p5
        rw [← hds] at hfk hms
        obtain ⟨hf1, hf2⟩ := hfk
        have HMS := Lib.hid hms
        clear hc e2 e3 ht hnt hms hMl ho hd hds
        go_wp2_with fail
        exact ⟨⟨k + 1, M + (d.size + nt + 10), by omega, by simp, by simp, Lib.hid HMS.out, hE.trans (Ext.alloc _ _)⟩, by simp [intOf]; omega⟩
      · obtain rfl : k = n := by omega
        have hfull : l.take k = l := List.take_of_length_le (by rw [HN.out]; exact Nat.le_refl _)
        rw [hfull] at hM
        clear hfull
        by_cases h20 : M ≤ 10000
        · go_wp2_with fail
          go_ret
          refine ⟨?_, hE⟩
          unfold Seg.few
          rw [HN.out, hM.out, decide_eq_true h60, decide_eq_true h20]
          show Ending.returned (Value.bool (decide ((M : Int) ≤ 10000))) = _
          rw [decide_eq_true (by omega)]
          rfl
        · go_wp2_with fail
          go_ret
          refine ⟨?_, hE⟩
          unfold Seg.few
          rw [HN.out, hM.out, decide_eq_true h60, decide_eq_false h20]
          show Ending.returned (Value.bool (decide ((M : Int) ≤ 10000))) = _
          rw [decide_eq_false (by omega)]
          rfl
  · go_enter Tryz.func8, Tryz.ntmps8
    go_wp2_with fail
    go_loopw [3, 8] (fun s i wr => ∃ (k : Nat) (x : Int), k ≤ n ∧ s = .int .i64 x ∧ i = .int .i64 k ∧ Ext w wr) (fun _ i _ => n - (intOf i).toNat)
    case atStart => exact ⟨0, 0, by omega, rfl, rfl, Ext.refl _⟩
    case round =>
      obtain ⟨k, x, hk, rfl, rfl, hE⟩ := hrel
      by_cases hlt : k < n
      · have hkl : k < l.length := by rw [HN.out]; exact hlt
        obtain ⟨a', cap', e', _, _, _, hc⟩ := HV.out.below hE
        obtain ⟨b, off, rfl, t, p0, p1, p2, p3, p4, p5, p6, ht⟩ := hc k hkl
        injection e' with e1 e2 e3
        subst e1
        obtain ⟨at', ct, rfl, htc, htm, _⟩ := ht.open
        have hfk := (HF.out l[k] (List.getElem_mem _)).2
        obtain ⟨o, ho⟩ : ∃ o, l[k] = o := ⟨_, rfl⟩
        rw [ho] at p0 p1 p2 p3 p4 p5 p6 hfk htc
        obtain ⟨o0, o1, ⟨r0, r1, r2, r3⟩, o3⟩ := o
        simp only at p0 p1 p2 p3 p4 p5 p6 hfk htc
        obtain ⟨nt, hnt⟩ : ∃ nt, r2.length = nt := ⟨_, rfl⟩
        obtain ⟨d, hd⟩ : ∃ d : ByteArray, (⟨r3.toArray⟩ : ByteArray) = d := ⟨_, rfl⟩
        have hds : d.size = r3.length := by rw [← hd]; rfl
        rw [hnt] at p4 hfk htc
        rw [hd] at p5
        rw [← hds] at hfk
        obtain ⟨hf1, hf2⟩ := hfk
        clear hc e2 e3 ht hnt ho hd hds
        go_wp2_with fail
        exact ⟨⟨k + 1, _, by omega, rfl, by simp, hE.trans (Ext.alloc _ _)⟩, by simp [intOf]; omega⟩
      · obtain rfl : k = n := by omega
        go_wp2_with fail
        go_ret
        refine ⟨?_, hE⟩
        unfold Seg.few
        rw [HN.out, decide_eq_false h60]
        rfl
end Go.Proofs.YtfgjhagfpafmoaaGreat
