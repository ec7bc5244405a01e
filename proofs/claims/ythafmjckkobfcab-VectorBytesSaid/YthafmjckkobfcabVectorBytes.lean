/-
  VectorBytes: any vector is written, and any bytes are read, as the document says, or refused; what was written is read as it was: for every input the statement's function returns true, and leaves what came in as it was.
-/
import Derived.Test.YthafmjckkobfcabVecAlive
import Derived.Test.YthafmjckkobfcabVecRaw
import Derived.Test.YthafmjckkobfcabVecG
import Derived.Test.YthafmjckkobfcabPackRaw
import Derived.Test.YthafmjckkobfcabRows
import Derived.Test.YthafmjckkobfcabChecked
import Derived.SizedLaws
namespace Go.Proofs.Ythafmjckkobfcab
open Go.ChangeShapes Go.WideShapes Go.ChangeAt Go.RowKit

theorem nums_cons (n : Int) (ns : List Int) : nums (n :: ns) = Pack.num n.toNat ++ nums ns := by simp [nums]
/-- What was written is read, number by number. -/
theorem reads_back (ns : List Int) (h : ∀ x ∈ ns, 0 ≤ x ∧ x ≤ 1099511627776) : ∀ k, k ≤ ns.length → readsTo ⟨nums ns, 0⟩ k = (⟨nums (ns.drop k), 0⟩, ns.take k) := by
  intro k
  induction k with
  | zero => intro _; simp [readsTo]
  | succ k ih =>
    intro hk
    have hlt : k < ns.length := by omega
    have hx := h _ (List.getElem_mem hlt)
    have hd : ns.drop k = ns[k] :: ns.drop (k + 1) := by rw [List.drop_eq_getElem_cons hlt]
    unfold readsTo
    rw [ih (by omega), hd, nums_cons]
    have hr := Pack.read_num ns[k].toNat (nums (ns.drop (k + 1))) 0 1099511627776 (by omega) (by omega)
    rw [hr, take_succ_getD ns k hlt]
    simp only
    rw [show ((ns[k].toNat : Nat) : Int) = ns[k] from by omega]
theorem dec_enc {v : List Int} (h : Vec.right v = true) : decOk (Vec.enc v) = true ∧ (decS (Vec.enc v)).2 = v := by
  obtain ⟨h1, h2, h3⟩ := Vec.right_ok h
  have hn : Pack.St.num ⟨Vec.enc v, 0⟩ 8 = (⟨nums v, 0⟩, v.length) := Pack.read_num v.length (nums v) 0 8 (by omega) (by omega)
  have hN : decN (Vec.enc v) = v.length := by unfold decN; rw [hn]
  have hS : decS (Vec.enc v) = (⟨nums (v.drop v.length), 0⟩, v.take v.length) := by
    unfold decS
    rw [hN, hn]
    exact reads_back v h1 v.length (Nat.le_refl _)
  rw [List.drop_length, List.take_length] at hS
  refine ⟨?_, by rw [hS]⟩
  unfold decOk
  rw [hN, hS, decide_eq_true h2]
  rfl
theorem enc_len {v : List Int} (h : Vec.right v = true) : (Vec.enc v).length ≤ 81 := by
  obtain ⟨h1, h2, h3⟩ := Vec.right_ok h
  have h6 := nums_le v (right_okNum h)
  have h7 := Pack.num_nine (n := v.length) (by omega)
  unfold Vec.enc
  rw [List.length_append]
  omega

set_option maxRecDepth 100000 in
set_option maxHeartbeats 8000000 in
theorem vectorBytes_walk (v u : Value) (ns : List Int) (l : List UInt8) (W : World) (hv : Ints W v ns) (hu : Bytes W u l) (hl : l.length ≤ 140737488355328) :
    Calls Try.prog 8 #[v, u] W fun e W' => e = .returned (.bool true) ∧ Below W.heap.size W W' := by
  have HV := Lib.hid hv
  have HU := Lib.hid hu
  clear hv hu
  have same1 : ∀ l : List Int, (l == l) = true := fun l => by simp
  obtain ⟨E, hE⟩ : ∃ E, bytesOr (Vec.right ns) (Vec.enc ns) = E := ⟨_, rfl⟩
  obtain ⟨D, hD⟩ : ∃ D, orNone (decOk l) (decS l).2 = D := ⟨_, rfl⟩
  have HE := Lib.hid hE
  have HD := Lib.hid hD
  have hEl : E.length ≤ 81 := by
    rw [← hE]
    cases hr : Vec.right ns with
    | false => simp
    | true => exact enc_len hr
  clear hE hD
  have hfe : (formErr (Vec.right ns) == formErr (Vec.right ns)) = true := by simp
  have hfd : (formErr (decOk l) == formErr (decOk l)) = true := by simp
  go_enter Try.func8, Try.ntmps8
  go_wp2_with fail
  refine (encode_any _ ns _ HV.out).mono ?_
  rw [HE.out]
  rintro e w1 ⟨v1, rfl, hb1, e1⟩
  go_wp2_with fail
  refine (refEncode_any _ ns _ (HV.out.below e1)).mono ?_
  rw [HE.out]
  rintro e w2 ⟨v2, rfl, hb2, hE2⟩
  have e2 : Ext W w2 := e1.trans hE2
  go_wp2_with fail
  refine (decode_any _ l _ (HU.out.below e2) hl).mono ?_
  unfold GivesDec
  rw [HD.out]
  rintro e w3 ⟨v3, rfl, hi3, hE3⟩
  have e3 : Ext W w3 := e2.trans hE3
  go_wp2_with fail
  refine (refDecode_any _ l _ (HU.out.below e3) hl).mono ?_
  unfold GivesDec
  rw [HD.out]
  rintro e w4 ⟨v4, rfl, hi4, hE4⟩
  have e4 : Ext W w4 := e3.trans hE4
  have hc1 := run_str (P := Try.prog) 22 9 5 Try.underlying22 Try.underlying5 Try.underlying9 (((hb1.below hE2).below hE3).below hE4)
  have hc2 := run_str (P := Try.prog) 22 9 5 Try.underlying22 Try.underlying5 Try.underlying9 ((hb2.below hE3).below hE4)
  go_wp2_with fail
  refine (equal3_any _ _ _ _ _ (hi3.below hE4) hi4).mono ?_
  rintro e w5 ⟨rfl, hE5⟩
  rw [same1]
  have e5 : Ext W w5 := e4.trans hE5
  go_wp2_with fail
  refine (decode_any _ E _ ((((hb1.below hE2).below hE3).below hE4).below hE5) (by omega)).mono ?_
  unfold GivesDec
  rintro e w6 ⟨v6, rfl, hi6, hE6⟩
  have e6 : Ext W w6 := e5.trans hE6
  cases hr : Vec.right ns with
  | false =>
    simp only [formErr_false]
    clear hfe hfd hc1 hc2 hr
    go_wp2_with fail
    refine (vecAlive_any _).mono ?_
    rintro e w7 ⟨rfl, hE7⟩
    go_wp2_with fail
    go_ret
    exact ⟨rfl, e6.trans hE7⟩
  | true =>
    have hE0 : E = Vec.enc ns := by rw [← HE.out, hr]; rfl
    have hdec := dec_enc hr
    rw [← hE0] at hdec
    rw [hdec.1, hdec.2, orNone_true] at hi6
    rw [hdec.1]
    simp only [formErr_true]
    clear hfe hfd hc1 hc2 hr hE0 hdec
    go_wp2_with fail
    refine (vecAlive_any _).mono ?_
    rintro e w7 ⟨rfl, hE7⟩
    have e7 : Ext W w7 := e6.trans hE7
    go_wp2_with fail
    refine (equal3_any _ _ _ _ _ (hi6.below hE7) (HV.out.below e7)).mono ?_
    rintro e w8 ⟨rfl, hE8⟩
    rw [same1]
    go_wp2_with fail
    go_ret
    exact ⟨rfl, e7.trans hE8⟩

namespace vectorBytes
theorem own : ownKnob Try.prog.godebug = none := by kernel_rfl
theorem laidOut : laidOutB Try.prog = true := by kernel_rfl
set_option linter.unusedVariables false in
set_option maxRecDepth 100000 in
theorem lifted (os : Os) (started : os.Started) (H : Type) (enc : TypeId × Value → H) :
    ReturnsInHanded {} Try.checked os 8 .any (Rows.vectorBytesSpec.pre6 enc Try.prog Try.f8 Rows.vectorBytesRow.domain false) (Rows.vectorBytesSpec.post enc Try.prog Try.f8 false true false false) := by
  refine returnsInHanded_of_change_sized (C := Try.checked) own started (by kernel_rfl) Try.func8
    (ChangeSpec.witness6 (enc := enc) (C := Try.checked) false ⟨#[], #[.slice none 0 0, .slice none 0 0], []⟩ 8 (by kernel_rfl) (by kernel_rfl) (by kernel_rfl) (by kernel_rfl)) ?_
  intro W base args ds gs before hval0 hW hcnd hsz _
  have hval : ∀ (j : Nat) t v, Try.f8.params[j]? = some t → args[j]? = some v → Value.okWide Try.prog W .any base t v := hval0
  have hW' := hW
  obtain ⟨p, q, hA0, hV, rfl, hfz, hnd⟩ := hW'
  have hA : DataW.TrodAll enc Try.prog W 0 (fun _ => true) true Try.f8.params.toList args.toList ds p := hA0
  rw [Try.params8] at hA hval
  obtain ⟨v0, vs0, d0, ds0, p0, q0, hargs, rfl, rfl, h0, r0⟩ := trodAll_cons hA
  obtain ⟨v1, vs1, d1, ds1, p1, q1, rfl, rfl, rfl, h1, r1⟩ := trodAll_cons r0
  obtain ⟨rfl, rfl, rfl⟩ := trodAll_nil r1
  obtain rfl : args = #[v0, v1] := by cases args; simp_all
  obtain ⟨rfl, rfl⟩ := trodVars_none hV
  have k0 := h0
  have lt0 : ∀ x ∈ p0, x.block < W.heap.size := by obtain ⟨m, hm⟩ := k0; exact DataW.trod_lt m _ _ _ hm
  obtain ⟨a0, len0, cap0, rfl⟩ := okWide_slice Try.underlying32 (hval 0 32 v0 rfl rfl)
  obtain ⟨l0, w0⟩ : ∃ l, Ints W (.slice a0 len0 cap0) l := by
    obtain ⟨fuel, hf⟩ := h0
    obtain ⟨v, l, hcs, hb⟩ := ints_of_raw Try.underlying32 Try.underlying3 (by kernel_rfl) hf
    simp [Value.cells] at hcs
    subst hcs
    exact ⟨l, hb⟩
  have k1 := h1
  have lt1 : ∀ x ∈ p1, x.block < W.heap.size := by obtain ⟨m, hm⟩ := k1; exact DataW.trod_lt m _ _ _ hm
  obtain ⟨a1, len1, cap1, rfl⟩ := okWide_slice Try.underlying22 (hval 1 22 v1 rfl rfl)
  obtain ⟨l1, w1⟩ : ∃ l, Bytes W (.slice a1 len1 cap1) l := by
    obtain ⟨fuel, hf⟩ := h1
    obtain ⟨v, l, hcs, hb⟩ := bytes_of_raw Try.underlying22 Try.underlying5 (by kernel_rfl) hf
    simp [Value.cells] at hcs
    subst hcs
    exact ⟨l, hb⟩
  have sz1 : len1 * 1 ≤ 140737488351232 := by obtain ⟨fuel, hf⟩ := h1; exact reach_of_raw (P := Try.prog) (x := (d1, p1)) (j := 1) hsz (by rw [Try.params8]; rfl) rfl Try.underlying22 (by kernel_rfl) hf
  clear hA0 hval0
  refine (vectorBytes_walk _ _ l0 l1 W w0 w1 (by have := w1.len; omega)).mono fun e W' ⟨he, bel⟩ => ?_
  subst he
  exact ⟨_, rfl, _, _, _, [], _, [], hW, trodAll_mk1 (shut_bool Try.underlying4 _), (trodAll_cons_mk (Below.trod laidOut (by kernel_rfl) (of_decide_eq_true (by kernel_rfl)) k0 bel lt0) (trodAll_cons_mk (Below.trod laidOut (by kernel_rfl) (of_decide_eq_true (by kernel_rfl)) k1 bel lt1) trodAll_mk0)), rfl, bel.frame _, fun h => by cases h⟩
theorem over : Rows.vectorBytesRow.holds Try.pinned (OpenSpec.ofChange Rows.vectorBytesSpec) :=
  OpenClaim.holds_of_wide 8 Try.f8 rfl rfl rfl rfl rfl rfl rfl ⟨rfl, rfl, rfl, rfl, rfl⟩ rfl rfl rfl rfl rfl (by kernel_rfl) Try.func8 (by kernel_rfl)
    (of_decide_eq_true (by kernel_rfl)) (by unfold Func.isWrapper; first | (rw [if_pos (by decide +kernel)]; kernel_rfl) | (rw [if_neg (by decide +kernel)]; exact ⟨rfl, rfl⟩))
    (fun os started H enc _ => lifted os started H enc)
theorem proved : Rows.VectorBytesSaid := over
end vectorBytes
end Go.Proofs.Ythafmjckkobfcab
