/-
  Merged: Layer 11: a seat, a last message, two rows of picks, out of what comes in.
-/
import Derived.OpenShut
import Derived.Test.YtckdofhcifdpmaaGreatBsMsg
import Derived.Test.YtckdofhcifdpmaaGreatBsRpN

namespace Go.Proofs.YtckdofhcifdpmaaGreat
set_option linter.unusedSimpArgs false
set_option linter.unusedVariables false
set_option maxRecDepth 100000
open Go.ChangeShapes Go.WideShapes Go.ChangeAt Go.RowKit
/- Layer 11: a seat, a last message, two rows of picks, out of what comes in. -/
section
variable {H : Type} {enc : TypeId × Value → H} {w : World} {base : Nat} {spare : Nat → Bool} {held : Bool}

theorem two11 {α : Type} {l : List α} (h : l.length = 2) : ∃ a b, l = [a, b] := by
  match l, h with
  | [a, b], _ => exact ⟨a, b, rfl⟩
theorem four11 {α : Type} {l : List α} (h : l.length = 4) : ∃ a b c d, l = [a, b, c, d] := by
  match l, h with
  | [a, b, c, d], _ => exact ⟨a, b, c, d, rfl⟩
theorem of23 {α : Type} {l : List α} (h : l.length = 23) : ∃ cm cu, cm.length = 22 ∧ l = cm ++ [cu] := by
  have h2 : (l.take 22).length = 22 := by rw [List.length_take]; omega
  have h3 : (l.drop 22).length = 1 := by rw [List.length_drop]; omega
  obtain ⟨cu, hcu⟩ := List.length_eq_one_iff.1 h3
  refine ⟨l.take 22, cu, h2, ?_⟩
  rw [← hcu, List.take_append_drop]
theorem seatFull {fuel : Nat} {cs : List Value} {x : DataW H × List MemPlace} (h : DataW.trod enc Tryz.prog w base spare held fuel 27 cs = some x) :
    ∃ (id : Int) (c : Term.C) (s d : Value), cs = [.int .i64 id, .int .i64 c.term, s, d] ∧ Ints w s c.seqs ∧ IRows w d c.shards := by
  obtain ⟨xs, n, _, rfl, hl, hlen, hf⟩ := DataW.trod_struct Tryz.underlying27 h
  have hc : Tryz.prog.cellsOf 27 = 4 := by kernel_rfl
  have hi : Tryz.prog.cellsOf 3 = 1 := by kernel_rfl
  have hg : Tryz.prog.cellsOf 25 = 3 := by kernel_rfl
  rw [hc] at hl
  obtain ⟨c0, c1, c2, c3, rfl⟩ := four11 hl
  obtain ⟨y0, y1, rfl⟩ := two11 hlen
  have f0 := hf 0 _ rfl
  have f1 := hf 1 _ rfl
  simp only [hi, hg, List.drop_zero, List.drop_succ_cons, List.take_succ_cons, List.take_zero, List.getElem?_cons_zero, List.getElem?_cons_succ] at f0 f1
  obtain ⟨n0, e0, _, _⟩ := DataW.trod_int Tryz.underlying3 f0
  obtain ⟨sv, dv, c, e1, h1, h2, _⟩ := confFull f1
  injection e0 with e0 _
  injection e1 with g0 e1
  injection e1 with g1 e1
  injection e1 with g2 _
  subst e0 g0 g1 g2
  exact ⟨n0, c, _, _, rfl, h1, h2⟩
theorem seat_arg11 {r : Reach} {b0 : Nat} {v : Value} {d : DataW H} {p : List MemPlace} (hv : Value.okWide Tryz.prog w r b0 27 v) (h : DataW.Trod enc Tryz.prog w base spare held 27 v d p) :
    ∃ (id : Int) (c : Term.C) (s d : Value), v = .agg #[.int .i64 id, .int .i64 c.term, s, d] ∧ Ints w s c.seqs ∧ IRows w d c.shards := by
  obtain ⟨cs, rfl, hsz⟩ := okWide_struct Tryz.underlying27 hv
  obtain ⟨fuel, hf⟩ := h
  obtain ⟨id, c, sv, dv, hcs, h1, h2⟩ := seatFull hf
  obtain ⟨l⟩ := cs
  have e1 : l = [.int .i64 id, .int .i64 c.term, sv, dv] := hcs
  subst e1
  exact ⟨id, c, sv, dv, rfl, h1, h2⟩
def lastCells11 (m : Msg.M) (keep : Int) (rt et sv dv : Value) : Array Value := #[.int .i64 m.kind, .int .i64 m.src, .int .i64 m.dst, .int .i64 m.term, .int .i64 m.shard, .int .i64 m.number, .bool m.is, .int .i64 m.reco.client, .int .i64 m.reco.number, rt, .string ⟨m.reco.data.toArray⟩, .int .i64 m.ent.number, .int .i64 m.ent.kind, et, .int .i64 m.ent.tag, .int .i64 m.ent.term, .int .i64 m.ent.pos, .int .i64 m.ballot, .int .i64 m.old, .int .i64 m.conf.term, sv, dv, .int .i64 keep]
theorem lastCells11_split (m : Msg.M) (keep : Int) (rt et sv dv : Value) : (lastCells11 m keep rt et sv dv).toList = (msgCells m rt et sv dv).toList ++ [.int .i64 keep] := rfl
theorem last_arg11 {r : Reach} {b0 : Nat} {v : Value} {d : DataW H} {p : List MemPlace} (hv : Value.okWide Tryz.prog w r b0 75 v) (h : DataW.Trod enc Tryz.prog w base spare held 75 v d p) :
    ∃ (m : Msg.M) (keep : Int) (rt et sv dv : Value), v = .agg (lastCells11 m keep rt et sv dv) ∧ IsMsg w (.agg (msgCells m rt et sv dv)) m ∧ Wf64 keep := by
  obtain ⟨cs, rfl, hsz⟩ := okWide_struct Tryz.underlying75 hv
  obtain ⟨fuel, hf⟩ := h
  obtain ⟨xs, n, _, _, hl, hlen, hf⟩ := DataW.trod_struct Tryz.underlying75 hf
  have hc : Tryz.prog.cellsOf 75 = 23 := by kernel_rfl
  have hi : Tryz.prog.cellsOf 3 = 1 := by kernel_rfl
  have hm : Tryz.prog.cellsOf 56 = 22 := by kernel_rfl
  obtain ⟨l⟩ := cs
  have hl' : l.length = 23 := by rw [← hc]; exact hl
  obtain ⟨cm, cu, h22, rfl⟩ := of23 hl'
  obtain ⟨y0, y1, rfl⟩ := two11 hlen
  have f0 : DataW.trod enc Tryz.prog w base spare held n 56 (List.take (Tryz.prog.cellsOf 56) (List.drop 0 (cm ++ [cu]))) = some y0 := hf 0 _ rfl
  have f1 : DataW.trod enc Tryz.prog w base spare held n 3 (List.take (Tryz.prog.cellsOf 3) (List.drop 22 (cm ++ [cu]))) = some y1 := hf 1 _ rfl
  have q0 : ((cm ++ [cu]).drop 0).take 22 = cm := List.take_left' h22
  have q1 : ((cm ++ [cu]).drop 22).take 1 = [cu] := by
    rw [List.drop_left' h22]
    rfl
  rw [hm, q0] at f0
  rw [hi, q1] at f1
  obtain ⟨rt, et, sv, dv, m, e0, j1, j2, j3, j4⟩ := msgFull f0
  obtain ⟨n1, e1, _, hw1⟩ := DataW.trod_int Tryz.underlying3 f1
  injection e1 with e1 _
  subst e0 e1
  exact ⟨m, n1, rt, et, sv, dv, rfl, ⟨rt, et, sv, dv, rfl, j1, j2, j3, j4⟩, hw1⟩
end
end Go.Proofs.YtckdofhcifdpmaaGreat
