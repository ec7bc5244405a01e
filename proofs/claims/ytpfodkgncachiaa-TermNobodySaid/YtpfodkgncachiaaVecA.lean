/-
  Layer 3, the program: what asks whether rows of numbers are vectors.
-/
import Derived.Test.YtpfodkgncachiaaVecMath
import Derived.Test.YtpfodkgncachiaaPackWrite
import Derived.Test.YtpfodkgncachiaaPackRead
namespace Go.Proofs.Ytpfodkgncachiaa
open Go.RowKit

theorem tI : ElemOf Try.prog 22 3 (.int .i64 0) 8 := ⟨Try.underlying22, by kernel_rfl, rfl⟩
theorem i64s_one (l : List Int) : ∀ y ∈ i64s l, y.oneCell' = true := by
  intro y hy
  obtain ⟨_, _, rfl⟩ := List.mem_map.1 hy
  rfl
@[simp] theorem i64s_append (l m : List Int) : i64s (l ++ m) = i64s l ++ i64s m := by simp [i64s]
theorem Ints.isSlice {w : World} {v : Value} {l : List Int} (h : Ints w v l) : ∃ a n c, v = .slice a n c := by
  obtain ⟨a, cap, rfl, _⟩ := h.open
  exact ⟨_, _, _, rfl⟩
theorem Ints.len {w : World} {a : Option Addr} {n c : Nat} {l : List Int} (h : Ints w (.slice a n c) l) : n = l.length ∧ n ≤ c ∧ c ≤ 9223372036854775807 := by
  obtain ⟨_, _, e, h1, h2, _⟩ := h.open
  injection e with e1 e2 e3
  subst e3
  unfold maxLen at h2
  omega
theorem Ints.inj {w : World} {v : Value} {l m : List Int} (h : Ints w v l) (k : Ints w v m) : l = m := by
  obtain ⟨a, cap, rfl, h1, h2, _, h3⟩ := h.open
  obtain ⟨a', cap', e, k1, k2, _, k3⟩ := k.open
  injection e with e1 e2 e3
  subst e1 e3
  refine List.ext_getElem e2 fun i hi hi' => ?_
  obtain ⟨b, off, rfl, hc⟩ := h3 i hi
  obtain ⟨b', off', e', hc'⟩ := k3 i hi'
  injection e' with e'; injection e' with e4 e5
  subst e4 e5
  rw [hc] at hc'
  injection hc' with hc'; injection hc' with _ hc'
theorem ints_none (w : World) : Ints w (.slice none 0 0) [] := ⟨none, 0, rfl, Nat.le_refl _, by simp [maxLen], fun _ => rfl, fun i hi => absurd hi (by simp [i64s])⟩

/-- A row of numbers of the call's own. -/
def OwnI (w : World) (base : Nat) (v : Value) (l : List Int) : Prop := w.ownsRow base 3 1 v l.length (i64s l)
theorem OwnI.ints {w : World} {base : Nat} {v : Value} {l : List Int} (h : OwnI w base v l) : Ints w v l := Sl.ofOwn h
theorem OwnI.nil (w : World) (base : Nat) : OwnI w base (.slice none 0 0) [] := World.ownsRow_nil _ _ _ _
/-- A call that hands back an own row of numbers. -/
def GivesOwnI (base : Nat) (w : World) (l : List Int) (e : Ending) (w' : World) : Prop := ∃ u, e = .returned u ∧ OwnI w' base u l ∧ Below base w w'
/-- A call that hands back numbers and a word, and leaves all as it was. -/
def GivesInts (w : World) (l : List Int) (is : Bool) (e : Ending) (w' : World) : Prop := ∃ u, e = .returned (.tuple #[u, .bool is]) ∧ Ints w' u l ∧ Ext w w'

/-- These, or none. -/
def orNone : Bool → List Int → List Int
  | true, l => l
  | false, _ => []
@[simp] theorem orNone_true (l : List Int) : orNone true l = l := rfl
@[simp] theorem orNone_false (l : List Int) : orNone false l = [] := rfl

/-- How many zeros. -/
def zeros (n : Int) : List Int := if 1 ≤ n ∧ n ≤ 8 then List.replicate n.toNat 0 else []
theorem made_zeros (m : Nat) : (madeCells (Value.int .i64 0).cells (m * 1)).toList = i64s (List.replicate m 0) := by
  rw [Nat.mul_one, show (Value.int .i64 0).cells = #[Value.int .i64 0] from rfl, toList_madeCells_one]
  simp [i64s]
end Go.Proofs.Ytpfodkgncachiaa
