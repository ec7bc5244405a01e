/-
  Merged: Layer 7: a message out of what comes in.
-/
import Derived.Test.YtldfpklgbedgjaaGreatByEnt
import Derived.Test.YtldfpklgbedgjaaGreatByRec
import Derived.Test.YtldfpklgbedgjaaGreatByTerm
import Derived.Test.YtldfpklgbedgjaaGreatMsgA

namespace Go.Proofs.YtldfpklgbedgjaaGreat
set_option linter.unusedSimpArgs false
set_option linter.unusedVariables false
set_option maxRecDepth 100000
open Go.ChangeShapes Go.WideShapes Go.ChangeAt Go.RowKit
/- Layer 7: a message out of what comes in. -/
section
variable {H : Type} {enc : TypeId × Value → H} {w : World} {base : Nat} {spare : Nat → Bool} {held : Bool}

theorem of22 {α : Type} {l : List α} (h : l.length = 22) : ∃ c0 c1 c2 c3 c4 c5 c6 c7 c8 c9 c10 c11 c12 c13 c14 c15 c16 c17 c18 c19 c20 c21, l = [c0, c1, c2, c3, c4, c5, c6, c7, c8, c9, c10, c11, c12, c13, c14, c15, c16, c17, c18, c19, c20, c21] := by
  match l, h with
  | [c0, c1, c2, c3, c4, c5, c6, c7, c8, c9, c10, c11, c12, c13, c14, c15, c16, c17, c18, c19, c20, c21], _ => exact ⟨c0, c1, c2, c3, c4, c5, c6, c7, c8, c9, c10, c11, c12, c13, c14, c15, c16, c17, c18, c19, c20, c21, rfl⟩
theorem of12 {α : Type} {l : List α} (h : l.length = 12) : ∃ y0 y1 y2 y3 y4 y5 y6 y7 y8 y9 y10 y11, l = [y0, y1, y2, y3, y4, y5, y6, y7, y8, y9, y10, y11] := by
  match l, h with
  | [y0, y1, y2, y3, y4, y5, y6, y7, y8, y9, y10, y11], _ => exact ⟨y0, y1, y2, y3, y4, y5, y6, y7, y8, y9, y10, y11, rfl⟩
theorem msgFull {fuel : Nat} {cs : List Value} {x : DataW H × List MemPlace} (h : DataW.trod enc Tryz.prog w base spare held fuel 35 cs = some x) :
    ∃ (rt et sv dv : Value) (m : Msg.M), cs = (msgCells m rt et sv dv).toList ∧ Ints w rt m.reco.tags ∧ Ints w et m.ent.cut ∧ Ints w sv m.conf.seqs ∧ IRows w dv m.conf.shards := by
  obtain ⟨xs, n, _, rfl, hl, hlen, hf⟩ := DataW.trod_struct Tryz.underlying35 h
  have hc : Tryz.prog.cellsOf 35 = 22 := by kernel_rfl
  have hi : Tryz.prog.cellsOf 3 = 1 := by kernel_rfl
  have hb : Tryz.prog.cellsOf 4 = 1 := by kernel_rfl
  have hr : Tryz.prog.cellsOf 26 = 4 := by kernel_rfl
  have he : Tryz.prog.cellsOf 30 = 6 := by kernel_rfl
  have hg : Tryz.prog.cellsOf 33 = 3 := by kernel_rfl
  rw [hc] at hl
  obtain ⟨c0, c1, c2, c3, c4, c5, c6, c7, c8, c9, c10, c11, c12, c13, c14, c15, c16, c17, c18, c19, c20, c21, rfl⟩ := of22 hl
  obtain ⟨y0, y1, y2, y3, y4, y5, y6, y7, y8, y9, y10, y11, rfl⟩ := of12 hlen
  have f0 := hf 0 _ rfl
  have f1 := hf 1 _ rfl
  have f2 := hf 2 _ rfl
  have f3 := hf 3 _ rfl
  have f4 := hf 4 _ rfl
  have f5 := hf 5 _ rfl
  have f6 := hf 6 _ rfl
  have f7 := hf 7 _ rfl
  have f8 := hf 8 _ rfl
  have f9 := hf 9 _ rfl
  have f10 := hf 10 _ rfl
  have f11 := hf 11 _ rfl
  simp only [hi, hb, hr, he, hg, List.drop_zero, List.drop_succ_cons, List.take_succ_cons, List.take_zero, List.getElem?_cons_zero, List.getElem?_cons_succ] at f0 f1 f2 f3 f4 f5 f6 f7 f8 f9 f10 f11
  obtain ⟨n0, e0, _, _⟩ := DataW.trod_int Tryz.underlying3 f0
  obtain ⟨n1, e1, _, _⟩ := DataW.trod_int Tryz.underlying3 f1
  obtain ⟨n2, e2, _, _⟩ := DataW.trod_int Tryz.underlying3 f2
  obtain ⟨n3, e3, _, _⟩ := DataW.trod_int Tryz.underlying3 f3
  obtain ⟨n4, e4, _, _⟩ := DataW.trod_int Tryz.underlying3 f4
  obtain ⟨n5, e5, _, _⟩ := DataW.trod_int Tryz.underlying3 f5
  obtain ⟨n9, e9, _, _⟩ := DataW.trod_int Tryz.underlying3 f9
  obtain ⟨n10, e10, _, _⟩ := DataW.trod_int Tryz.underlying3 f10
  obtain ⟨n6, e6, _⟩ := DataW.trod_bool Tryz.underlying4 f6
  obtain ⟨rt, r, e7, ht⟩ := rec_of_raw f7
  obtain ⟨et, e, e8, hE⟩ := ent_of_raw f8
  obtain ⟨sv, dv, c, e11, h1, h2, _⟩ := confFull f11
  injection e0 with e0 _
  injection e1 with e1 _
  injection e2 with e2 _
  injection e3 with e3 _
  injection e4 with e4 _
  injection e5 with e5 _
  injection e6 with e6 _
  injection e9 with e9 _
  injection e10 with e10 _
  injection e7 with r0 e7
  injection e7 with r1 e7
  injection e7 with r2 e7
  injection e7 with r3 _
  injection e8 with t0 e8
  injection e8 with t1 e8
  injection e8 with t2 e8
  injection e8 with t3 e8
  injection e8 with t4 e8
  injection e8 with t5 _
  injection e11 with g0 e11
  injection e11 with g1 e11
  injection e11 with g2 _
  subst e0 e1 e2 e3 e4 e5 e6 e9 e10 r0 r1 r2 r3 t0 t1 t2 t3 t4 t5 g0 g1 g2
  exact ⟨_, _, _, _, ⟨n0, n1, n2, n3, n4, n5, n6, r, e, n9, n10, c⟩, rfl, ht, hE, h1, h2⟩
theorem msg_arg {r : Reach} {b0 : Nat} {v : Value} {d : DataW H} {p : List MemPlace} (hv : Value.okWide Tryz.prog w r b0 35 v) (h : DataW.Trod enc Tryz.prog w base spare held 35 v d p) : ∃ m, IsMsg w v m := by
  obtain ⟨cs, rfl, hsz⟩ := okWide_struct Tryz.underlying35 hv
  obtain ⟨fuel, hf⟩ := h
  obtain ⟨rt, et, sv, dv, m, hcs, h1, h2, h3, h4⟩ := msgFull hf
  obtain ⟨l⟩ := cs
  have e1 : l = (msgCells m rt et sv dv).toList := hcs
  subst e1
  exact ⟨m, rt, et, sv, dv, rfl, h1, h2, h3, h4⟩
end
end Go.Proofs.YtldfpklgbedgjaaGreat
