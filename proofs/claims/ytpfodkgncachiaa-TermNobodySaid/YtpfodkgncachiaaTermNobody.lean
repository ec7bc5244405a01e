/-
  TermNobody: where nobody is gone the next term is as this one, but for its number: for every input the statement's function returns true, and leaves what came in as it was.
-/
import Derived.Test.YtpfodkgncachiaaTrmRaw
namespace Go.Proofs.Ytpfodkgncachiaa
set_option maxRecDepth 100000
set_option linter.unusedSimpArgs false
set_option linter.unusedVariables false
open Go.ChangeShapes Go.WideShapes Go.ChangeAt Go.RowKit

theorem allNodes {c : Term.C} (h : Term.right c = true) : ∀ y ∈ Term.all c, 0 ≤ y ∧ y ≤ 15 := by
  obtain ⟨h1, h2, h3, h4, h5⟩ := Term.right_ok h
  intro y hy
  rcases List.mem_append.1 hy with hy | hy
  · exact (Term.unlike_ok h5).1 y hy
  · obtain ⟨l, hl, hy⟩ := List.mem_flatten.1 hy
    exact (Term.unlike_ok (Term.shard_ok (h3 l hl)).2.2).1 y hy
theorem nobodyNext {c : Term.C} {gone : List Int} (h : Term.right c = true) (hg : ∀ x ∈ gone, x < 0 ∨ 15 < x) : Term.next c gone = ⟨c.term + 1, c.seqs, c.shards⟩ :=
  Term.next_none h fun x hx hy => by
    have h1 := allNodes h x hx
    have h2 := hg x hy
    omega
theorem intsLit6 (w : World) (x y z : Int) : Ints (w.alloc (.cells #[.int .i64 x, .int .i64 y, .int .i64 z] 3)) (.slice (some ⟨w.heap.size, 0, none⟩) 3 3) [x, y, z] :=
  Sl.made w (i64s [x, y, z]) 3 3 (by simp) (by simp [maxLen]) (fr := (0, 0))

set_option maxHeartbeats 16000000 in
theorem termNobody_walk (v : Value) (c : Term.C) (n : Int) (W : World) (hv : IsConf W v c) :
    Calls Try.prog 4 #[v, .int .i64 n] W fun e W' => e = .returned (.bool true) ∧ Below W.heap.size W W' := by
  have HV := Lib.hid hv
  have hbx := box_confR
  obtain ⟨s, d, rfl, hs, hd⟩ := hv
  obtain ⟨a1, p1, rfl, _⟩ := hs.open
  obtain ⟨b1, q1, rfl, _⟩ := hd.open
  have HS := Lib.hid hs
  have HD := Lib.hid hd
  clear hs hd
  unfold confV at *
  have hN1 := fun (gv : Value) (gone : List Int) (w : World) h1 h2 => next6_any (.agg #[.int .i64 c.term, .slice a1 c.seqs.length p1, .slice b1 c.shards.length q1]) gv c gone w h1 h2
  unfold GivesNext6 at hN1
  have HNX := Lib.hid hN1
  have HFEW := Lib.hid (fun (w : World) h => fewSome6_any (.agg #[.int .i64 c.term, .slice a1 c.seqs.length p1, .slice b1 c.shards.length q1]) c w h)
  have HTERM := Lib.hid (fun (h : Term.right c = true) => (Term.right_ok h).1)
  have HNB := Lib.hid (fun (gone : List Int) (h : Term.right c = true) (hg : ∀ x ∈ gone, x < 0 ∨ 15 < x) => nobodyNext h hg)
  obtain ⟨C, hC⟩ : ∃ C : Term.C, (⟨c.term + 1, c.seqs, c.shards⟩ : Term.C) = C := ⟨_, rfl⟩
  rw [hC] at HNB
  have HC := Lib.hid hC
  have HZ := Lib.hid (fun (w : World) (h : Ext W w) => show IsConf w (.agg #[.int .i64 (c.term + 1), .slice a1 c.seqs.length p1, .slice b1 c.shards.length q1]) C from hC ▸ ⟨_, _, rfl, HS.out.below h, HD.out.below h⟩)
  obtain ⟨t, ht⟩ : ∃ t, c.term = t := ⟨_, rfl⟩
  obtain ⟨nS, hS⟩ : ∃ nS, c.seqs.length = nS := ⟨_, rfl⟩
  obtain ⟨nD, hD⟩ : ∃ nD, c.shards.length = nD := ⟨_, rfl⟩
  rw [ht, hS, hD] at HV HNX HFEW HZ ⊢
  rw [ht] at HTERM
  clear ht hS hD hC hN1 HS HD
  have hE0 : Ext W (W.alloc (.cells #[.int .i64 t, .slice a1 nS p1, .slice b1 nD q1] 25)) := Ext.alloc _ _
  have HA0 := Lib.hid (ConfAt.new 25 W t (.slice a1 nS p1) (.slice b1 nD q1))
  go_enter Try.func4, Try.ntmps4
  obtain ⟨y0, y1, y2⟩ := HA0.out.cells
  go_wp2_with fail
  obtain ⟨q, hq⟩ : ∃ q, W.heap.size = q := ⟨_, rfl⟩
  rw [hq] at HA0 ⊢
  obtain ⟨w0, hw0⟩ : ∃ w0, W.alloc (.cells #[.int .i64 t, .slice a1 nS p1, .slice b1 nD q1] 25) = w0 := ⟨_, rfl⟩
  rw [hw0] at hE0 HA0 ⊢
  clear hw0 y0 y1 y2
  refine (HNX.out _ [] _ (HV.out.below hE0) (ints0 _)).mono ?_
  rintro e w1 ⟨u1, rfl, hi1, hE1⟩
  have e1 := hE0.trans hE1
  have HI1 := Lib.hid hi1
  obtain ⟨ok, hok⟩ : ∃ ok, Term.nextOk c [] = ok := ⟨_, rfl⟩
  rw [hok] at HI1 ⊢
  obtain ⟨N, hN⟩ : ∃ N, orNoC ok (Term.next c []) = N := ⟨_, rfl⟩
  rw [hN] at HI1
  obtain ⟨a2, n2, p2, b2, m2, q2, rfl⟩ := HI1.out.shape
  have HOK := Lib.hid hok
  have HN := Lib.hid hN
  obtain ⟨x, hx⟩ : ∃ x, N.term = x := ⟨_, rfl⟩
  rw [hx] at HI1 ⊢
  have HX := Lib.hid hx
  clear hi1 hok hN hx
  have hE2 := Ext.alloc w1 (.cells #[.int .i64 x, .slice a2 n2 p2, .slice b2 m2 q2] 26)
  have X2 := Lib.hid (ConfAt.new 26 w1 x (.slice a2 n2 p2) (.slice b2 m2 q2))
  have A2 := Lib.hid ((HA0.out.ext hE1).ext hE2)
  have e2 := e1.trans hE2
  have HI2 := Lib.hid (HI1.out.below hE2)
  obtain ⟨y0, y1, y2⟩ := A2.out.cells
  go_wp2_with fail
  clear y0 y1 y2
  obtain ⟨p, hp⟩ : ∃ p, w1.heap.size = p := ⟨_, rfl⟩
  rw [hp] at X2 ⊢
  obtain ⟨w2, hw2⟩ : ∃ w2, w1.alloc (.cells #[.int .i64 x, .slice a2 n2 p2, .slice b2 m2 q2] 26) = w2 := ⟨_, rfl⟩
  rw [hw2] at X2 A2 e2 HI2 ⊢
  clear hw2 hp hE2
  refine (HFEW.out _ (HV.out.below e2)).mono ?_
  unfold SomeBool
  rintro e w3 ⟨⟨fb, rfl⟩, hE3⟩
  have e3 := e2.trans hE3
  have X3 := Lib.hid (X2.out.ext hE3)
  have A3 := Lib.hid (A2.out.ext hE3)
  have HI3 := Lib.hid (HI2.out.below hE3)
  cases ok with
  | false =>
    have hx0 : x = 0 := by rw [← HX.out, ← HN.out]; rfl
    subst hx0
    cases fb with
    | false =>
      go_wp2_with fail
      refine (termAlive_any _).mono ?_
      rintro e w4 ⟨rfl, hE4⟩
      obtain ⟨y0, y1, y2⟩ := (X3.out.ext hE4).cells
      go_wp2_with fail
      go_ret
      exact ⟨rfl, e3.trans hE4⟩
    | true =>
      go_wp2_with fail
      refine (termAlive_any _).mono ?_
      rintro e w4 ⟨rfl, hE4⟩
      obtain ⟨y0, y1, y2⟩ := (X3.out.ext hE4).cells
      go_wp2_with fail
      go_ret
      exact ⟨rfl, e3.trans hE4⟩
  | true =>
    cases fb with
    | false =>
      go_wp2_with fail
      refine (termAlive_any _).mono ?_
      rintro e w4 ⟨rfl, hE4⟩
      go_wp2_with fail
      go_ret
      exact ⟨rfl, e3.trans hE4⟩
    | true =>
      have hrc : Term.right c = true ∧ Term.right (Term.next c []) = true := by
        have h := HOK.out
        unfold Term.nextOk at h
        rwa [Bool.and_eq_true] at h
      have HRC := Lib.hid hrc.1
      have HNC := Lib.hid (show N = C from by
        rw [← HN.out]
        exact HNB.out [] hrc.1 (by simp))
      have HRN := Lib.hid (show Term.right C = true from by rw [← HNB.out [] hrc.1 (by simp)]; exact hrc.2)
      have ht64 := HTERM.out hrc.1
      have HW := Lib.hid (show wrap64 (t + 1) = t + 1 from IntWalk.wrap64_in (t + 1) (by omega))
      clear hrc
      obtain ⟨n', hn'⟩ : ∃ n', wrap64 (n + 100) = n' := ⟨_, rfl⟩
      have HWN := Lib.hid hn'
      clear hn'
      have hE4 := Ext.alloc w3 (.cells #[.int .i64 99, .int .i64 (-1), .int .i64 n'] 3)
      have L4 := Lib.hid (intsLit6 w3 99 (-1) n')
      have A4 := Lib.hid (A3.out.ext hE4)
      have X4 := Lib.hid (X3.out.ext hE4)
      have HI4 := Lib.hid (HI3.out.below hE4)
      have e4 := e3.trans hE4
      obtain ⟨y0, y1, y2⟩ := A3.out.cells
      obtain ⟨z0, z1, z2⟩ := A4.out.cells
      go_wp2_with fail
      rw [HWN.out]
      clear y0 y1 y2 z0 z1 z2
      obtain ⟨w4, hw4⟩ : ∃ w4, w3.alloc (.cells #[.int .i64 99, .int .i64 (-1), .int .i64 n'] 3) = w4 := ⟨_, rfl⟩
      rw [hw4] at L4 A4 X4 HI4 e4 ⊢
      clear hw4 hE4
      refine (HNX.out _ [99, -1, n'] _ (HV.out.below e4) L4.out).mono ?_
      rintro e w5 ⟨u5, rfl, hi5, hE5⟩
      obtain ⟨ok5, hok5⟩ : ∃ ok, Term.nextOk c [99, -1, n'] = ok := ⟨_, rfl⟩
      obtain ⟨N5, hN5⟩ : ∃ N, orNoC (Term.nextOk c [99, -1, n']) (Term.next c [99, -1, n']) = N := ⟨_, rfl⟩
      rw [hN5] at hi5
      rw [hok5]
      have HI5 := Lib.hid hi5
      obtain ⟨a5, n5, p5, b5, m5, q5, rfl⟩ := hi5.shape
      have HALL := Lib.hid (fun (h : 16 ≤ n') => show ok5 = true ∧ N5 = C from by
        have h1 : Term.next c [99, -1, n'] = C := HNB.out _ HRC.out (by intro y hy; simp only [List.mem_cons, List.not_mem_nil, or_false] at hy; omega)
        have h2 : Term.nextOk c [99, -1, n'] = true := by unfold Term.nextOk; rw [h1, HRC.out, HRN.out]; rfl
        exact ⟨hok5.symm.trans h2, by rw [← hN5, h2, h1]; rfl⟩)
      obtain ⟨y, hy⟩ : ∃ y, N5.term = y := ⟨_, rfl⟩
      rw [hy] at HI5 ⊢
      clear hi5 hok5 hN5 hy
      have hE6 := Ext.alloc w5 (.cells #[.int .i64 y, .slice a5 n5 p5, .slice b5 m5 q5] 26)
      have Y6 := Lib.hid (ConfAt.new 26 w5 y (.slice a5 n5 p5) (.slice b5 m5 q5))
      have A6 := Lib.hid ((A4.out.ext hE5).ext hE6)
      have X6 := Lib.hid ((X4.out.ext hE5).ext hE6)
      have e6 := (e4.trans hE5).trans hE6
      have HI6 := Lib.hid ((HI4.out.below hE5).below hE6)
      have HJ6 := Lib.hid (HI5.out.below hE6)
      by_cases r1 : n < -100
      · skip
        go_wp2_with fail
        refine (termAlive_any _).mono ?_
        rintro e w7 ⟨rfl, hE7⟩
        go_wp2_with fail
        go_ret
        exact ⟨rfl, e6.trans hE7⟩
      · by_cases r2 : 1000 < n
        · skip
          go_wp2_with fail
          refine (termAlive_any _).mono ?_
          rintro e w7 ⟨rfl, hE7⟩
          go_wp2_with fail
          go_ret
          exact ⟨rfl, e6.trans hE7⟩
        · have hwn : wrap64 (n + 100) = n + 100 := IntWalk.wrap64_in _ (by omega)
          by_cases r3 : n + 100 < 16
          · skip
            go_wp2_with fail
            refine (termAlive_any _).mono ?_
            rintro e w7 ⟨rfl, hE7⟩
            go_wp2_with fail
            go_ret
            exact ⟨rfl, e6.trans hE7⟩
          · have hall := HALL.out (by rw [← HWN.out, hwn]; omega)
            obtain ⟨h5, hN5⟩ := hall
            subst h5
            have HNC5 := Lib.hid hN5
            clear hN5 HALL
            obtain ⟨c0, c1, c2⟩ := A6.out.cells
            go_wp2_with fail
            clear c0 c1 c2
            obtain ⟨r, hr⟩ : ∃ r, w5.heap.size = r := ⟨_, rfl⟩
            rw [hr] at Y6 ⊢
            obtain ⟨w6, hw6⟩ : ∃ w6, w5.alloc (.cells #[.int .i64 y, .slice a5 n5 p5, .slice b5 m5 q5] 26) = w6 := ⟨_, rfl⟩
            have hs6 : w6.heap.size = r + 1 := by rw [← hw6, ← hr]; simp
            rw [hw6] at Y6 A6 X6 e6 HI6 HJ6 ⊢
            clear hw6 hr hE6
            have hE7 := Ext.alloc w6 (.cells #[.int .i64 (t + 1), .slice a1 nS p1, .slice b1 nD q1] 26)
            have Z7 := Lib.hid (ConfAt.new 26 w6 (t + 1) (.slice a1 nS p1) (.slice b1 nD q1))
            rw [hs6] at Z7
            clear hs6
            refine (termAlive_any _).mono ?_
            rintro e w8 ⟨rfl, hE8⟩
            have E8 := hE7.trans hE8
            have X8 := Lib.hid (X6.out.ext E8)
            have Y8 := Lib.hid (Y6.out.ext E8)
            have Z8 := Lib.hid (Z7.out.ext hE8)
            have e8 := e6.trans E8
            have HI8 := Lib.hid (HI6.out.below E8)
            have HJ8 := Lib.hid (HJ6.out.below E8)
            have HZ8 := Lib.hid (HZ.out _ e8)
            obtain ⟨x0, x1, x2⟩ := X8.out.cells
            obtain ⟨z0, z1, z2⟩ := Z8.out.cells
            go_wp2_with fail
            clear x0 x1 x2 z0 z1 z2
            refine (same6_any _ _ N C _ HI8.out HZ8.out).mono ?_
            rw [HNC.out, Term.alike_self]
            rintro e w9 ⟨rfl, hE9⟩
            obtain ⟨x0, x1, x2⟩ := (X8.out.ext hE9).cells
            obtain ⟨y0, y1, y2⟩ := (Y8.out.ext hE9).cells
            go_wp2_with fail
            clear x0 x1 x2 y0 y1 y2
            refine (same6_any _ _ N N5 _ (HI8.out.below hE9) (HJ8.out.below hE9)).mono ?_
            rw [HNC.out, HNC5.out, Term.alike_self]
            rintro e w10 ⟨rfl, hE10⟩
            go_wp2_with fail
            go_ret
            exact ⟨rfl, (e8.trans hE9).trans hE10⟩

namespace termNobody
theorem own : ownKnob Try.prog.godebug = none := by kernel_rfl
theorem laidOut : laidOutB Try.prog = true := by kernel_rfl
set_option linter.unusedVariables false in
set_option maxRecDepth 100000 in
theorem lifted (os : Os) (started : os.Started) (H : Type) (enc : TypeId × Value → H) :
    ReturnsInHanded {} Try.checked os 4 .any (Rows.termNobodySpec.pre6 enc Try.prog Try.f4 Rows.termNobodyRow.domain false) (Rows.termNobodySpec.post enc Try.prog Try.f4 false true false false) := by
  refine returnsInHanded_of_change_sized (C := Try.checked) own started (by kernel_rfl) Try.func4
    (ChangeSpec.witness6 (enc := enc) (C := Try.checked) false ⟨#[], #[.agg #[.int .i64 0, .slice none 0 0, .slice none 0 0], .int .i64 0], []⟩ 8 (by kernel_rfl) (by kernel_rfl) (by kernel_rfl) (by kernel_rfl)) ?_
  intro W base args ds gs before hval0 hW hcnd hsz _
  have hval : ∀ (j : Nat) t v, Try.f4.params[j]? = some t → args[j]? = some v → Value.okWide Try.prog W .any base t v := hval0
  have hW' := hW
  obtain ⟨p, q, hA0, hV, rfl, hfz, hnd⟩ := hW'
  have hA : DataW.TrodAll enc Try.prog W 0 (fun _ => true) true Try.f4.params.toList args.toList ds p := hA0
  rw [Try.params4] at hA hval
  obtain ⟨v0, vs0, d0, ds0, p0, q0, hargs, rfl, rfl, h0, r0⟩ := trodAll_cons hA
  obtain ⟨v1, vs1, d1, ds1, p1, q1, rfl, rfl, rfl, h1, r1⟩ := trodAll_cons r0
  obtain ⟨rfl, rfl, rfl⟩ := trodAll_nil r1
  obtain rfl : args = #[v0, v1] := by cases args; simp_all
  obtain ⟨rfl, rfl⟩ := trodVars_none hV
  have k0 := h0
  have lt0 : ∀ x ∈ p0, x.block < W.heap.size := by obtain ⟨m, hm⟩ := k0; exact DataW.trod_lt m _ _ _ hm
  obtain ⟨l0, w0⟩ := conf_arg (hval 0 25 v0 rfl rfl) h0
  have k1 := h1
  have lt1 : ∀ x ∈ p1, x.block < W.heap.size := by obtain ⟨m, hm⟩ := k1; exact DataW.trod_lt m _ _ _ hm
  obtain ⟨a1, rfl, _, _, w1⟩ := open_int Try.underlying3 (hval 1 3 v1 rfl rfl) h1
  clear hA0 hval0
  refine (termNobody_walk _ l0 a1 W w0).mono fun e W' ⟨he, bel⟩ => ?_
  subst he
  exact ⟨_, rfl, _, _, _, [], _, [], hW, trodAll_mk1 (shut_bool Try.underlying4 _), (trodAll_cons_mk (Below.trod laidOut (by kernel_rfl) (of_decide_eq_true (by kernel_rfl)) k0 bel lt0) (trodAll_cons_mk (Below.trod laidOut (by kernel_rfl) (of_decide_eq_true (by kernel_rfl)) k1 bel lt1) trodAll_mk0)), rfl, bel.frame _, fun h => by cases h⟩
theorem over : Rows.termNobodyRow.holds Try.pinned (OpenSpec.ofChange Rows.termNobodySpec) :=
  OpenClaim.holds_of_wide 4 Try.f4 rfl rfl rfl rfl rfl rfl rfl ⟨rfl, rfl, rfl, rfl, rfl⟩ rfl rfl rfl rfl rfl (by kernel_rfl) Try.func4 (by kernel_rfl)
    (of_decide_eq_true (by kernel_rfl)) (by unfold Func.isWrapper; first | (rw [if_pos (by decide +kernel)]; kernel_rfl) | (rw [if_neg (by decide +kernel)]; exact ⟨rfl, rfl⟩))
    (fun os started H enc _ => lifted os started H enc)
theorem proved : Rows.TermNobodySaid := over
end termNobody
end Go.Proofs.Ytpfodkgncachiaa
