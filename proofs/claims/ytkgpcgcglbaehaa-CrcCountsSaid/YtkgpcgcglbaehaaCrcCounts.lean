/-
  CrcCounts: each sum that is made is counted, once: for every input the statement's function returns true, and leaves what came in as it was.
-/
import Derived.Test.YtkgpcgcglbaehaaCrcT
namespace Go.Proofs.Ytkgpcgcglbaehaa
open Go.ChangeShapes Go.WideShapes Go.ChangeAt Go.RowKit

theorem Rows.len' {w : World} {a : Option Addr} {n c : Nat} {ls : List (List UInt8)} (h : Rows w (.slice a n c) ls) : n = ls.length ∧ n ≤ c ∧ c ≤ 9223372036854775807 := by
  obtain ⟨_, _, e, h1, h2, _⟩ := h.open
  injection e with e1 e2 e3
  subst e3
  unfold maxLen at h2
  omega
theorem Tab.cast {w : World} {p d : Nat} {c c' : Int} (h : Tab w p d c) (e : c = c') : Tab w p d c' := e ▸ h

set_option maxRecDepth 100000 in
set_option maxHeartbeats 4000000 in
theorem crcCounts_walk (a : Option Addr) (n c : Nat) (ls : List (List UInt8)) (W : World) (h0 : Rows W (.slice a n c) ls) :
    Calls Try.prog 7 #[.slice a n c] W fun e W' => e = .returned (.bool true) ∧ Below W.heap.size W W' := by
  obtain ⟨hn, hnc, hc⟩ := h0.len'
  by_cases hbad : 100 < n
  · clear hn
    go_enter Try.func7, Try.ntmps7
    go_wp2_with fail
    refine (newT _).mono ?_
    rintro e w1 ⟨rfl, hb1, ht1⟩
    go_wp2_with fail
    refine (alive_any _).mono ?_
    rintro e w3 ⟨rfl, hb3⟩
    go_wp2_with fail
    go_ret
    exact ⟨rfl, (hb1.trans hb3).below⟩
  · have hln : n ≤ 100 := by omega
    have HN := Lib.hid hn
    clear hn hbad
    go_enter Try.func7, Try.ntmps7
    go_wp2_with fail
    refine (new_any _).mono ?_
    rintro e w1 ⟨rfl, ht1, hb1⟩
    have hA1 : Rows w1 (.slice a n c) ls := h0.below hb1
    go_wp2
    go_loopw [2, 4, 6, 22] (fun _ x _ i wr => ∃ k m d : Nat, k ≤ n ∧ m ≤ 4 * k ∧ i = .int .i64 k ∧ x = .int .i64 m ∧ Hid (d = 0 ∨ d = 1) ∧ Tab wr W.heap.size d (m : Int) ∧ But W.heap.size w1 wr) (fun _ _ _ i _ => n - (intOf i).toNat)
    case atStart => exact ⟨0, 0, 0, by omega, by omega, rfl, rfl, Or.inl rfl, ht1, But.refl _ _⟩
    case round =>
      obtain ⟨k, m, d, hk, hm, rfl, rfl, hd, htr, hbr⟩ := hrel
      have hAr := hA1.but ht1 hbr
      have hWr : But W.heap.size W wr := (Ext.but hb1 _).trans hbr
      by_cases hlt : k < n
      · have hkl : k < ls.length := by have := HN.out; omega
        obtain ⟨a', cap', e', _, _, hrows⟩ := hAr.open
        obtain ⟨b, off, x, hab, hcell, hx⟩ := hrows k hkl
        injection e' with e1 e2 e3
        subst e1
        subst hab
        obtain ⟨ax, nx, cx, rfl⟩ := hx.isSlice
        obtain ⟨hxn, hxc, hxm⟩ := hx.len
        clear hrows e2 e3
        by_cases hbig : 20000 < nx
        · clear hxn
          go_wp2_with fail
          refine (alive_any _).mono ?_
          rintro e w3 ⟨rfl, hb3⟩
          go_wp2_with fail
          go_ret
          exact ⟨rfl, (hWr.trans (Ext.but hb3 _)).below (Nat.le_refl _) (Nat.le_refl _)⟩
        · have hxl : (ls[k]).length ≤ 20000 := by omega
          have HX := Lib.hid hxn
          clear hxn
          have hpw := htr.lt
          have hrow2 : Rows (wr.alloc (.cells #[.slice ax nx cx, .slice ax nx cx] 22)) (.slice (some ⟨wr.heap.size, 0, none⟩) 2 2) [ls[k], ls[k]] :=
            Rows.mk [.slice ax nx cx, .slice ax nx cx] [ls[k], ls[k]] _ 2 rfl rfl (by simp [maxLen]) (fun i hi hi' => by
              have hi4 : i < 2 := by simpa using hi
              match i, hi4 with
              | 0, _ => exact hx
              | 1, _ => exact hx)
          go_wp2_with fail
          refine (sum_any W.heap.size d m _ [ls[k], ls[k]] _ (htr.ext (Ext.alloc _ _)) hd.out hrow2).mono ?_
          rintro e w2 ⟨rfl, hb2, d2, hd2, ht2⟩
          have ht2' := ht2.cast (bump_nat m (by omega))
          have hx2 := (hx.below (Ext.alloc wr (.cells #[.slice ax nx cx, .slice ax nx cx] 22))).but (htr.ext (Ext.alloc _ _)) hb2
          have hW2 := (hWr.alloc (.cells #[.slice ax nx cx, .slice ax nx cx] 22)).trans hb2
          have hb02 := (hbr.alloc (.cells #[.slice ax nx cx, .slice ax nx cx] 22)).trans hb2
          clear hb2 ht2 hrow2
          go_wp2_with fail
          refine (more_any W.heap.size d2 _ 1 _ ls[k] _ ht2' hd2 (by omega) hx2).mono ?_
          rintro e w3 ⟨rfl, hb3, ht3⟩
          have ht3' := ht3.cast (bump_nat (m + 1) (by omega))
          have hx3 := hx2.but ht2' hb3
          have hW3 := hW2.trans hb3
          have hb03 := hb02.trans hb3
          clear hb3 ht3 hx2 hb02 hW2
          go_wp2_with fail
          refine (put_any W.heap.size 1 _ _ ls[k] _ ht3' (Or.inr rfl) hx3 (by omega)).mono ?_
          rintro e w4 ⟨v4, d4, rfl, hv4, hb4, hd4, ht4⟩
          have ht4' := ht4.cast (bump_nat (m + 1 + 1) (by omega))
          have hx4 := hx3.but ht3' hb4
          have hW4 := hW3.trans hb4
          have hb04 := hb03.trans hb4
          clear hb4 ht4 hx3 hb03 hW3
          go_wp2_with fail
          refine (cut_any W.heap.size d4 _ _ ls[k] _ ht4' hd4 hx4 (by omega)).mono ?_
          rintro e w5 ⟨⟨d5, hd5, ht5⟩, hb5, hr5⟩
          have hW5 := hW4.trans hb5
          have hb05 := hb04.trans hb5
          have he : ∃ v u, e = .returned (.tuple #[v, u]) := by
            cases hcc : Crc.cutOf ls[k] with
            | none => rw [hcc] at hr5; exact ⟨_, _, hr5⟩
            | some l' => rw [hcc] at hr5; obtain ⟨u, hu, _⟩ := hr5; exact ⟨_, _, hu⟩
          obtain ⟨v5, u5, rfl⟩ := he
          clear hr5 hb5 hx4 hb04 hW4
          by_cases h4 : nx < 4
          · have hm5 : Tab w5 W.heap.size d5 ((m + 3 : Nat) : Int) := by
              have := ht5; rw [if_pos (by have := HX.out; omega)] at this
              exact this.cast (by omega)
            clear ht5
            go_wp2_with fail
            refine (count_any W.heap.size d5 _ _ hm5).mono ?_
            rintro e w6 ⟨rfl, rfl⟩
            go_wp2_with fail
            go_roundw
            case rel => exact ⟨k + 1, m + 3, d5, by omega, by omega, by go_num, by go_num, hd5, hm5, hb05⟩
            case measure => simp [intOf]; omega
          · have hm5 : Tab w5 W.heap.size d5 ((m + 3 + 1 : Nat) : Int) := by
              have := ht5; rw [if_neg (by have := HX.out; omega)] at this
              exact this.cast ((congrArg bump (show _ = ((m + 3 : Nat) : Int) by omega)).trans (bump_nat (m + 3) (by omega)))
            clear ht5
            go_wp2_with fail
            refine (count_any W.heap.size d5 _ _ hm5).mono ?_
            rintro e w6 ⟨rfl, rfl⟩
            go_wp2_with fail
            go_roundw
            case rel => exact ⟨k + 1, m + 3 + 1, d5, by omega, by omega, by go_num, by go_num, hd5, hm5, hb05⟩
            case measure => simp [intOf]; omega
      · go_wp2_with fail
        refine (alive_any _).mono ?_
        rintro e w3 ⟨rfl, hb3⟩
        go_wp2_with fail
        go_ret
        exact ⟨rfl, (hWr.trans (Ext.but hb3 _)).below (Nat.le_refl _) (Nat.le_refl _)⟩

namespace crcCounts
theorem own : ownKnob Try.prog.godebug = none := by kernel_rfl
theorem laidOut : laidOutB Try.prog = true := by kernel_rfl
set_option linter.unusedVariables false in
set_option maxRecDepth 100000 in
theorem lifted (os : Os) (started : os.Started) (H : Type) (enc : TypeId × Value → H) :
    ReturnsInHanded {} Try.checked os 7 .any (Rows.crcCountsSpec.pre6 enc Try.prog Try.f7 Rows.crcCountsRow.domain false) (Rows.crcCountsSpec.post enc Try.prog Try.f7 false true false false) := by
  refine returnsInHanded_of_change (C := Try.checked) own started (by kernel_rfl) Try.func7
    (ChangeSpec.witness6 (enc := enc) (C := Try.checked) false ⟨#[], #[.slice none 0 0], []⟩ 8 (by kernel_rfl) (by kernel_rfl) (by kernel_rfl) (by kernel_rfl)) ?_
  intro W base args ds gs before hval0 hW hcnd _
  have hval : ∀ (j : Nat) t v, Try.f7.params[j]? = some t → args[j]? = some v → Value.okWide Try.prog W .any base t v := hval0
  have hW' := hW
  obtain ⟨p, q, hA0, hV, rfl, hfz, hnd⟩ := hW
  have hA : DataW.TrodAll enc Try.prog W 0 (fun _ => true) true Try.f7.params.toList args.toList ds p := hA0
  rw [Try.params7] at hA hval
  obtain ⟨v0, vs0, d0, ds0, p0, q0, hargs, rfl, rfl, h0, r0⟩ := trodAll_cons hA
  obtain ⟨rfl, rfl, rfl⟩ := trodAll_nil r0
  obtain rfl : args = #[v0] := by cases args; simp_all
  obtain ⟨rfl, rfl⟩ := trodVars_none hV
  have k0 := h0
  have lt0 : ∀ x ∈ p0, x.block < W.heap.size := by obtain ⟨m, hm⟩ := k0; exact DataW.trod_lt m _ _ _ hm
  obtain ⟨a0, len0, cap0, rfl⟩ := okWide_slice Try.underlying38 (hval 0 38 v0 rfl rfl)
  obtain ⟨l0, w0⟩ : ∃ l, Rows W (.slice a0 len0 cap0) l := by
    obtain ⟨fuel, hf⟩ := h0
    obtain ⟨v, l, hcs, hb⟩ := rows_of_raw Try.underlying38 (by kernel_rfl) Try.underlying22 Try.underlying5 (by kernel_rfl) hf
    simp [Value.cells] at hcs
    subst hcs
    exact ⟨l, hb⟩
  clear hA0 hval0
  refine (crcCounts_walk a0 len0 cap0 l0 W w0).mono fun e W' ⟨he, bel⟩ => ?_
  subst he
  exact ⟨_, rfl, _, _, _, [], _, [], hW', trodAll_mk1 (shut_bool Try.underlying4 _), (trodAll_cons_mk (Below.trod laidOut (by kernel_rfl) (of_decide_eq_true (by kernel_rfl)) k0 bel lt0) trodAll_mk0), rfl, bel.frame _, fun h => by cases h⟩
theorem over : Rows.crcCountsRow.holds Try.pinned (OpenSpec.ofChange Rows.crcCountsSpec) :=
  OpenClaim.holds_of_wide 7 Try.f7 rfl rfl rfl rfl rfl rfl rfl ⟨rfl, rfl, rfl, rfl, rfl⟩ rfl rfl rfl rfl rfl (by kernel_rfl) Try.func7 (by kernel_rfl)
    (of_decide_eq_true (by kernel_rfl)) (by unfold Func.isWrapper; first | (rw [if_pos (by decide +kernel)]; kernel_rfl) | (rw [if_neg (by decide +kernel)]; exact ⟨rfl, rfl⟩))
    (fun os started H enc _ => lifted os started H enc)
theorem proved : Rows.CrcCountsSaid := over
end crcCounts
end Go.Proofs.Ytkgpcgcglbaehaa
