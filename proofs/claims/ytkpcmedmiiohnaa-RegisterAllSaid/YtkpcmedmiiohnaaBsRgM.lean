/-
  Merged: Layer 14: a register within a statement.
-/
import Derived.Test.YtkpcmedmiiohnaaBsRgL

namespace Go.Proofs.Ytkpcmedmiiohnaa
set_option linter.unusedSimpArgs false
set_option linter.unusedVariables false
set_option maxRecDepth 100000
open Go.RowKit
/- Layer 14: a register within a statement. -/
namespace Reg
def Small (R : List Row) : Prop := ∀ x ∈ R, x.tail.length * 64 ≤ 140737488355328
theorem Inst.small {R R' : List Row} {c : Term.C} {l : List Ent.E} {code : Int} (h : Inst R c l code R') (hs : Small R) (hl : l.length * 64 ≤ 140737488355328) : Small R' := by
  rcases h.grows with rfl | ⟨_, _, _, pre, a, rfl, _, rfl⟩
  · exact hs
  · intro x hx
    simp only [List.mem_append, List.mem_cons, List.not_mem_nil, or_false] at hx
    rcases hx with hx | rfl | rfl
    · exact hs x (List.mem_append_left _ hx)
    · exact hl
    · simp
end Reg
theorem GivesRow14.some {R : List Reg.Row} {t : Int} {w w' : World} {e : Ending} {x : Reg.Row} (h : GivesRow14 R t w e w') (hx : Reg.look R t = some x) : Ext w w' ∧ ∃ a1 n1 c1 a2 n2 c2 a3 n3 c3, e = .returned (.tuple #[.agg #[.int .i64 x.c.term, .slice a1 n1 c1, .slice a2 n2 c2, .slice a3 n3 c3, .bool (decide (t < Reg.current R))], .int .i64 0]) ∧
    OwnI w' w.heap.size (.slice a1 n1 c1) x.c.seqs ∧ OwnRR w' w.heap.size (.slice a2 n2 c2) x.c.shards ∧ OwnT w' w.heap.size (.slice a3 n3 c3) x.tail := by
  obtain ⟨hE, ⟨hn, _⟩ | ⟨y, s, d, tl, hy, he, h1, h2, h3⟩⟩ := h
  · rw [hx] at hn
    cases hn
  · rw [hx] at hy
    injection hy with hy
    subst hy
    obtain ⟨a1, n1, c1, rfl⟩ := ownSlice h1
    obtain ⟨a2, n2, c2, rfl⟩ := h2.slice
    obtain ⟨a3, n3, c3, rfl⟩ := h3.shape
    exact ⟨hE, a1, n1, c1, a2, n2, c2, a3, n3, c3, he, h1, h2, h3⟩
/-- A register in a statement's world. -/
structure Seat14 (W : World) (B p : Nat) (R : List Reg.Row) (w : World) : Prop where
  reg : IsReg w B p R
  ext : Ext W w
  le : W.heap.size ≤ B
  lt : B ≤ w.heap.size
  small : Reg.Small R
theorem Seat14.later {W w w' : World} {B p : Nat} {R : List Reg.Row} (h : Seat14 W B p R w) (hE : Ext w w') : Seat14 W B p R w' := ⟨h.reg.ext hE, h.ext.trans hE, h.le, Nat.le_trans h.lt hE.size, h.small⟩
theorem Seat14.install {W w : World} {B p : Nat} {R : List Reg.Row} (h : Seat14 W B p R w) (s d tl : Value) (c : Term.C) (l : List Ent.E) (hs : Ints W s c.seqs) (hd : IRows W d c.shards) (ht : Ents w tl l) (hl : l.length * 64 ≤ 140737488355328) (hterm : Wf64 c.term) :
    Calls Try.prog 12 #[.pointer (some ⟨p, 0, none⟩), .agg #[.int .i64 c.term, s, d], tl] w fun e w' => ∃ code R', e = .returned (.int .i64 code) ∧ Reg.Inst R c l code R' ∧ Seat14 W B p R' w' ∧ Keeps14 w w' ∧ Below B w w' := by
  have hcf : ∀ w', Below B w w' → IsConf w' (.agg #[.int .i64 c.term, s, d]) c := fun w' hb => by
    have hE : Ext W w' := Below.trans (B := W.heap.size) h.ext (hb.mono h.le)
    exact ⟨s, d, rfl, hs.below hE, hd.below hE⟩
  refine (install14_any _ tl c l h.reg (hcf w (Below.refl _ _)) ht h.lt hl (fun w' hb _ => hcf w' hb) ?_).mono ?_
  · unfold Wf64 at hterm
    simp [Lit.wf, IntKind.min, IntKind.max, IntKind.signed, IntKind.bits] at hterm
    omega
  rintro e w' ⟨code, R', he, hin, hreg, hbl, hkp⟩
  exact ⟨code, R', he, hin, ⟨hreg, Below.trans (B := W.heap.size) h.ext (hbl.mono h.le), h.le, Nat.le_trans h.lt hbl.size, hin.small h.small hl⟩, hkp, hbl⟩
theorem Seat14.row {W w : World} {B p : Nat} {R : List Reg.Row} (h : Seat14 W B p R w) (t : Int) : Calls Try.prog 18 #[.pointer (some ⟨p, 0, none⟩), .int .i64 t] w (GivesRow14 R t w) :=
  row14_any t h.reg fun x hx => ⟨h.small x hx, Reg.cut_small (h.reg.ok.chain x hx)⟩
theorem Keeps14.at {w w' : World} {k : Nat} {cs : Array Value} {T : TypeId} (h : Keeps14 w w') (hk : w.heap[k]? = some (.cells cs T (0, 0))) (h1 : T ≠ 68) (h2 : T ≠ 71) : w'.heap[k]? = some (.cells cs T (0, 0)) := (h.block k cs T (0, 0) hk h1 h2).trans hk
end Go.Proofs.Ytkpcmedmiiohnaa
