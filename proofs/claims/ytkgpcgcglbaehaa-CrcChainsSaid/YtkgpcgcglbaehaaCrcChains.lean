/-
  CrcChains: the sum of many parts is that of each, one behind the other, by More: for every input the statement's function returns true, and leaves what came in as it was.
-/
import Derived.Test.YtkgpcgcglbaehaaCrcT
namespace Go.Proofs.Ytkgpcgcglbaehaa
open Go.ChangeShapes Go.WideShapes Go.ChangeAt Go.RowKit

theorem Rows.len {w : World} {a : Option Addr} {n c : Nat} {ls : List (List UInt8)} (h : Rows w (.slice a n c) ls) : n = ls.length ∧ n ≤ c ∧ c ≤ 9223372036854775807 := by
  obtain ⟨_, _, e, h1, h2, _⟩ := h.open
  injection e with e1 e2 e3
  subst e3
  unfold maxLen at h2
  omega
theorem belowOne {p B : Nat} {a b : World} (h : LT [p] a b) (hB : B ≤ a.heap.size) (hp : B ≤ p) : Below B a b :=
  h.below hB (by intro q hq; simp only [List.mem_cons, List.not_mem_nil, or_false] at hq; omega)

set_option maxRecDepth 100000 in
set_option maxHeartbeats 4000000 in
theorem crcChains_walk (a : Option Addr) (n c : Nat) (ls : List (List UInt8)) (W : World) (h0 : Rows W (.slice a n c) ls) :
    Calls Try.prog 8 #[.slice a n c] W fun e W' => e = .returned (.bool true) ∧ Below W.heap.size W W' := by
  obtain ⟨hn, hnc, hc⟩ := h0.len
  by_cases hbad : 50 < n
  · clear hn
    go_enter Try.func8, Try.ntmps8
    go_wp2_with fail
    refine (newT _).mono ?_
    rintro e w1 ⟨rfl, hb1, ht1⟩
    go_wp2_with fail
    refine (alive_any _).mono ?_
    rintro e w3 ⟨rfl, hb3⟩
    go_wp2_with fail
    go_ret
    exact ⟨rfl, (hb1.trans hb3).below⟩
  · have hln : ls.length ≤ 50 := by omega
    have HN := Lib.hid hn
    clear hn
    go_enter Try.func8, Try.ntmps8
    go_wp2_with fail
    refine (newT _).mono ?_
    rintro e w1 ⟨rfl, hb1, ht1⟩
    have hmem : W.heap.size ∈ [W.heap.size] := by simp
    have hA1 : RT [W.heap.size] w1 (.slice a n c) ls := ⟨h0.below hb1, TBs.one ht1⟩
    have hL1 : LT [W.heap.size] W w1 := LT.ext hb1
    go_wp2_with fail
    refine (sumT hmem (v := .slice none 0 0) (ls := []) ⟨Rows.nil _, TBs.one ht1⟩).mono ?_
    rintro e w2 ⟨rfl, hl2⟩
    rw [List.flatten_nil, Crc.sum_nil]
    have hA2 := hA1.later hl2
    have hL2 := hL1.trans hl2
    clear hl2 hA1 hL1
    go_wp2
    go_loopw [4, 6, 24] (fun x _ i wr => ∃ k m : Nat, k ≤ n ∧ m < 4294967296 ∧ i = .int .i64 k ∧ x = .int .u32 m ∧ Hid (m = Crc.sum (ls.take k).flatten) ∧ LT [W.heap.size] w2 wr) (fun _ _ i _ => n - (intOf i).toNat)
    case atStart => exact ⟨0, 0, by omega, by omega, rfl, rfl, by unfold Hid; rw [List.take_zero, List.flatten_nil, Crc.sum_nil], LT.refl _ _⟩
    case round =>
      obtain ⟨k, m, hk, hm, rfl, rfl, hr, hlr⟩ := hrel
      have hAr := hA2.later hlr
      have hLr := hL2.trans hlr
      by_cases hlt : k < n
      · have hkl : k < ls.length := by have := HN.out; omega
        obtain ⟨a', cap', e', _, _, hrows⟩ := hAr.1.open
        obtain ⟨b, off, x, hab, hcell, hx⟩ := hrows k hkl
        injection e' with e1 e2 e3
        subst e1
        subst hab
        obtain ⟨ax, nx, cx, rfl⟩ := hx.isSlice
        obtain ⟨hxn, hxc, hxm⟩ := hx.len
        have hxT : BT [W.heap.size] wr (.slice ax nx cx) ls[k] := ⟨hx, hAr.2⟩
        clear hrows e2 e3
        by_cases hbig : 5000 < nx
        · clear hxn
          go_wp2_with fail
          refine (alive_any _).mono ?_
          rintro e w3 ⟨rfl, hb3⟩
          go_wp2_with fail
          go_ret
          exact ⟨rfl, belowOne (hLr.trans (LT.ext hb3)) (Nat.le_refl _) (Nat.le_refl _)⟩
        · clear hxn
          have hmm := Crc.more_lt m ls[k]
          go_wp2_with fail
          refine (moreT hmem hm hxT).mono ?_
          rintro e w3 ⟨rfl, hl3⟩
          go_wp2_with fail
          go_roundw
          case rel => exact ⟨k + 1, Crc.more m ls[k], by omega, hmm, by go_num, rfl, by unfold Hid; rw [take_succ_getD ls k hkl, List.flatten_append, hr.out]; simp [Crc.sum, Crc.more_more], hlr.trans hl3⟩
          case measure => simp [intOf]; omega
      · have hs : Hid (m = Crc.sum ls.flatten) := by
          have := hr.out; rw [List.take_of_length_le (by have := HN.out; omega)] at this; exact this
        clear hr
        go_wp2_with fail
        refine (alive_any _).mono ?_
        rintro e w3 ⟨rfl, hb3⟩
        have hA3 := hAr.later (LT.ext hb3)
        go_wp2_with fail
        refine (sumT hmem hA3).mono ?_
        rintro e w4 ⟨rfl, hl4⟩
        rw [← hs.out]
        go_wp2_with fail
        go_ret
        exact ⟨rfl, belowOne ((hLr.trans (LT.ext hb3)).trans hl4) (Nat.le_refl _) (Nat.le_refl _)⟩

namespace crcChains
theorem own : ownKnob Try.prog.godebug = none := by kernel_rfl
theorem laidOut : laidOutB Try.prog = true := by kernel_rfl
set_option linter.unusedVariables false in
set_option maxRecDepth 100000 in
theorem lifted (os : Os) (started : os.Started) (H : Type) (enc : TypeId × Value → H) :
    ReturnsInHanded {} Try.checked os 8 .any (Rows.crcChainsSpec.pre6 enc Try.prog Try.f8 Rows.crcChainsRow.domain false) (Rows.crcChainsSpec.post enc Try.prog Try.f8 false true false false) := by
  refine returnsInHanded_of_change (C := Try.checked) own started (by kernel_rfl) Try.func8
    (ChangeSpec.witness6 (enc := enc) (C := Try.checked) false ⟨#[], #[.slice none 0 0], []⟩ 8 (by kernel_rfl) (by kernel_rfl) (by kernel_rfl) (by kernel_rfl)) ?_
  intro W base args ds gs before hval0 hW hcnd _
  have hval : ∀ (j : Nat) t v, Try.f8.params[j]? = some t → args[j]? = some v → Value.okWide Try.prog W .any base t v := hval0
  have hW' := hW
  obtain ⟨p, q, hA0, hV, rfl, hfz, hnd⟩ := hW
  have hA : DataW.TrodAll enc Try.prog W 0 (fun _ => true) true Try.f8.params.toList args.toList ds p := hA0
  rw [Try.params8] at hA hval
  obtain ⟨v0, vs0, d0, ds0, p0, q0, hargs, rfl, rfl, h0, r0⟩ := trodAll_cons hA
  obtain ⟨rfl, rfl, rfl⟩ := trodAll_nil r0
  obtain rfl : args = #[v0] := by cases args; simp_all
  obtain ⟨rfl, rfl⟩ := trodVars_none hV
  have k0 := h0
  have lt0 : ∀ x ∈ p0, x.block < W.heap.size := by obtain ⟨m, hm⟩ := k0; exact DataW.trod_lt m _ _ _ hm
  obtain ⟨a0, len0, cap0, rfl⟩ := okWide_slice Try.underlying38 (hval 0 38 v0 rfl rfl)
  obtain ⟨l0, w0⟩ : ∃ l, Rows W (.slice a0 len0 cap0) l := by
    obtain ⟨fuel, hf⟩ := h0
    obtain ⟨v, l, hcs, hb⟩ := rows_of_raw Try.underlying38 (by kernel_rfl) Try.underlying22 Try.underlying5 (by kernel_rfl) hf
    simp [Value.cells] at hcs
    subst hcs
    exact ⟨l, hb⟩
  clear hA0 hval0
  refine (crcChains_walk a0 len0 cap0 l0 W w0).mono fun e W' ⟨he, bel⟩ => ?_
  subst he
  exact ⟨_, rfl, _, _, _, [], _, [], hW', trodAll_mk1 (shut_bool Try.underlying4 _), (trodAll_cons_mk (Below.trod laidOut (by kernel_rfl) (of_decide_eq_true (by kernel_rfl)) k0 bel lt0) trodAll_mk0), rfl, bel.frame _, fun h => by cases h⟩
theorem over : Rows.crcChainsRow.holds Try.pinned (OpenSpec.ofChange Rows.crcChainsSpec) :=
  OpenClaim.holds_of_wide 8 Try.f8 rfl rfl rfl rfl rfl rfl rfl ⟨rfl, rfl, rfl, rfl, rfl⟩ rfl rfl rfl rfl rfl (by kernel_rfl) Try.func8 (by kernel_rfl)
    (of_decide_eq_true (by kernel_rfl)) (by unfold Func.isWrapper; first | (rw [if_pos (by decide +kernel)]; kernel_rfl) | (rw [if_neg (by decide +kernel)]; exact ⟨rfl, rfl⟩))
    (fun os started H enc _ => lifted os started H enc)
theorem proved : Rows.CrcChainsSaid := over
end crcChains
end Go.Proofs.Ytkgpcgcglbaehaa
