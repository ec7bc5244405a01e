/-
  Layer 2, the document's own answers: each call's contract.
-/
import Derived.Test.YtpfodkgncachiaaPackTake
import Derived.Test.YtpfodkgncachiaaRegion
namespace Go.Proofs.Ytpfodkgncachiaa
set_option linter.unusedSimpArgs false
set_option linter.unusedVariables false
open Go.RowKit

theorem run_one8 (w : World) (x : Int) : (Instr.buildSlice 39 1 #[(0, .int .u8 x)]).run Try.prog w = .ok (.slice (some ⟨w.heap.size, 0, none⟩) 1 1) (w.alloc (.cells #[.int .u8 x] 5)) := by kernel_rfl
theorem mk_append (x y : List UInt8) : (ByteArray.mk x.toArray ++ ByteArray.mk y.toArray) = ByteArray.mk (x ++ y).toArray := ByteArray.mk_append_mk x y
/-- A text, by value. -/
def txt (l : List UInt8) : Value := .string ⟨l.toArray⟩

/-- A reader of the document's, by value. -/
def refVal (l : List UInt8) (e : Int) : Value := .agg #[.string ⟨l.toArray⟩, .int .i64 e]

/-- The place of the last byte of a number. -/
def lastOf (l : List UInt8) : Int := if Pack.lead l < l.length ∧ Pack.lead l < 9 then (Pack.lead l : Nat) else -1

/-- The two readers are alike. -/
structure Sim (l : List UInt8) (s : Pack.St) : Prop where
  live : s.err = 0 → l = s.left
  dead : s.err ≠ 0 → s.left = []
theorem sim_num {s : Pack.St} (h : s.err ≠ 0 → s.left = []) (most : Int) : (s.num most).1.err ≠ 0 → (s.num most).1.left = [] ∧ (s.num most).2 = 0 := by
  intro he
  by_cases h0 : s.err = 0
  · unfold Pack.St.num at he ⊢
    split
    · exact ⟨rfl, rfl⟩
    · rename_i h1
      rw [if_neg h1] at he
      split
      · exact ⟨rfl, rfl⟩
      · rename_i h2
        rw [if_neg h2] at he
        split
        · exact ⟨rfl, rfl⟩
        · rename_i h3
          rw [if_neg h3] at he
          exact absurd h0 he
  · have := h h0
    obtain ⟨l, e⟩ := s
    simp only at this h0
    subst this
    rw [Pack.num_dead e most h0]
    exact ⟨rfl, rfl⟩

/-- A number of the document's is just the bytes that were taken, if these are as short as can be, and it is not too great. -/
theorem one_taken (l : List UInt8) (k : Nat) (hk : k < l.length) (hlead : Pack.lead l = k) (most : Int) :
    (oneNum ((Pack.val (l.take (k + 1)) : Nat) : Int) ≠ l.take (k + 1) ∨ most < ((Pack.val (l.take (k + 1)) : Nat) : Int)) ↔ Pack.wrong (l.take (k + 1)) most := by
  subst hlead
  have e := Pack.take_last hk
  have hb := Pack.lead_small l hk
  have hall : ∀ x ∈ l.take (Pack.lead l), ¬ x.toNat < 128 := fun x hx => Pack.mem_lead hk hx
  have hlen : (l.take (Pack.lead l + 1)).length = Pack.lead l + 1 := by rw [List.length_take, Nat.min_eq_left hk]
  have hlast : (l.take (Pack.lead l + 1)).getLast? = some l[Pack.lead l] := by rw [e]; exact List.getLast?_concat
  unfold Pack.wrong
  rw [hlast, hlen, Option.some.injEq]
  have hone : oneNum ((Pack.val (l.take (Pack.lead l + 1)) : Nat) : Int) = if Pack.val (l.take (Pack.lead l + 1)) ≤ 4611686018427387904 then Pack.num (Pack.val (l.take (Pack.lead l + 1))) else [] := by
    unfold oneNum okNum
    by_cases h : Pack.val (l.take (Pack.lead l + 1)) ≤ 4611686018427387904
    · rw [if_pos h, decide_eq_true (by omega)]; simp
    · rw [if_neg h, decide_eq_false (by omega)]; simp
  rw [hone]
  by_cases h62 : Pack.val (l.take (Pack.lead l + 1)) ≤ 4611686018427387904
  · rw [if_pos h62]
    by_cases hz : 2 ≤ Pack.lead l + 1 ∧ l[Pack.lead l] = 0
    · constructor
      · intro _; exact .inl hz
      · intro _
        left
        intro hh
        obtain ⟨l', b', e', _, _, h3⟩ := Pack.num_form (Pack.val (l.take (Pack.lead l + 1)))
        rw [hh, e] at e'
        have hl2 := congrArg List.getLast? e'
        rw [List.getLast?_concat, List.getLast?_concat] at hl2
        injection hl2 with hl2
        have hl3 := congrArg List.length e'
        simp at hl3
        rcases h3 with rfl | h3
        · simp at hl3; omega
        · exact h3 (by rw [← hl2]; exact hz.2)
    · have : Pack.num (Pack.val (l.take (Pack.lead l + 1))) = l.take (Pack.lead l + 1) := by
        conv => lhs; rw [e]
        rw [Pack.num_val _ _ hb hall, ← e]
        by_cases h0 : Pack.lead l = 0
        · left; rw [h0]; rfl
        · right; intro h; exact hz ⟨by omega, h⟩
      rw [this]
      constructor
      · rintro (h | h)
        · exact absurd rfl h
        · exact .inr (.inr h)
      · rintro (h | h | h)
        · exact absurd h hz
        · omega
        · exact .inr h
  · rw [if_neg h62]
    constructor
    · intro _; exact .inr (.inl (by omega))
    · intro _
      left
      intro h
      have := congrArg List.length h
      rw [hlen] at this
      simp at this
end Go.Proofs.Ytpfodkgncachiaa
