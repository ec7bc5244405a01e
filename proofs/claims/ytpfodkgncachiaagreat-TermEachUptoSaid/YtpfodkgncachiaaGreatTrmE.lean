/-
  Layer 6: configurations as bytes: the document's own answer.
-/
import Derived.Test.YtpfodkgncachiaaGreatTrmC
import Derived.Test.YtpfodkgncachiaaGreatTrmD
namespace Go.Proofs.YtpfodkgncachiaaGreat
set_option linter.unusedSimpArgs false
set_option linter.unusedVariables false
set_option maxRecDepth 100000
open Go.RowKit

theorem numsTake {ns : List Int} (h : ∀ x ∈ ns, 0 ≤ x ∧ x ≤ 15) (hn : ns.length ≤ 100) (k : Nat) : (Pack.num ns.length ++ Rec.numsOf (ns.take k)).length ≤ 909 := by
  have h2 : ∀ x ∈ ns.take k, 0 ≤ x ∧ x ≤ 15 := fun x hx => h x (List.mem_of_mem_take hx)
  have hl : (ns.take k).length ≤ 100 := by rw [List.length_take]; omega
  have h1 := Term.row_le h2 hl
  unfold Term.row at h1
  rw [List.length_append] at h1 ⊢
  have := Pack.num_nine (n := ns.length) (by omega)
  have := nums_le (ns.take k) (okRow h2)
  have e : Rec.numsOf (ns.take k) = nums (ns.take k) := rfl
  rw [e]
  omega

set_option maxHeartbeats 4000000 in
theorem refRow6_any (v : Value) (ns : List Int) (w : World) (hv : Ints w v ns) (hn : ns.length ≤ 100) (hok : ∀ x ∈ ns, 0 ≤ x ∧ x ≤ 15) :
    Calls Tryz.prog 36 #[v] w fun e w' => e = .returned (.string ⟨(Term.row ns).toArray⟩) ∧ Ext w w' := by
  have HV := Lib.hid hv
  obtain ⟨a, cap, rfl, hcap, hmax, _, _⟩ := hv.open
  unfold maxLen at hmax
  have HOK := Lib.hid hok
  have HON := Lib.hid (oneNumOf (n := (ns.length : Int)) (by omega))
  have HST := Lib.hid (fun k => numsTake hok hn k)
  clear hv hok
  go_enter Tryz.func36, Tryz.ntmps36
  go_wp2_with fail
  refine (numRef_any _ _).mono ?_
  rw [HON.out]
  rintro e w1 ⟨rfl, hE1⟩
  go_wp2_with fail
  go_loopw [3, 4] (fun o i wr => ∃ k : Nat, k ≤ ns.length ∧ i = .int .i64 k ∧ Hid (o = .string ⟨(Pack.num ns.length ++ Rec.numsOf (ns.take k)).toArray⟩) ∧ Ext w wr) (fun _ i _ => ns.length - (intOf i).toNat)
  case atStart => exact ⟨0, by omega, rfl, by simp [Hid, Rec.numsOf], hE1⟩
  case round =>
    obtain ⟨k, hk, rfl, ho, hE⟩ := hrel
    have ho' := ho.out
    have hlO := HST.out k
    by_cases hlt : k < ns.length
    · obtain ⟨a', cap', e', _, _, _, hc⟩ := (HV.out.below hE).open
      obtain ⟨b, off, rfl, hcell⟩ := hc k hlt
      injection e' with e1 e2 e3
      subst e1
      clear hc e2 e3
      have hx := HOK.out _ (List.getElem_mem hlt)
      have HN := Lib.hid (oneNumOf (n := ns[k]) (by omega))
      have hln := Pack.num_nine (n := ns[k].toNat) (by omega)
      have HTK := Lib.hid (show Pack.num ns.length ++ Rec.numsOf (ns.take (k + 1)) = (Pack.num ns.length ++ Rec.numsOf (ns.take k)) ++ Pack.num ns[k].toNat by rw [take_succ_getD ns k hlt, Rec.numsOf_snoc, List.append_assoc])
      obtain ⟨O, hO⟩ : ∃ O, Pack.num ns.length ++ Rec.numsOf (ns.take k) = O := ⟨_, rfl⟩
      rw [hO] at ho' hlO HTK
      obtain ⟨B, hB⟩ : ∃ B, Pack.num ns[k].toNat = B := ⟨_, rfl⟩
      rw [hB] at HTK HN hln
      subst ho'
      have hsO := str_len O
      have hsB := str_len B
      obtain ⟨T, hT⟩ : ∃ T, O ++ B = T := ⟨_, rfl⟩
      have hadd := mk_append O B
      rw [hT] at hadd HTK
      clear ho hO hB hT
      go_wp2_with fail
      refine (numRef_any _ _).mono ?_
      rw [HN.out]
      rintro e w2 ⟨rfl, hE2⟩
      go_wp2_with fail
      go_roundw
      case rel => exact ⟨k + 1, by omega, by go_num, by show _ = _; rw [HTK.out], hE.trans hE2⟩
      case measure => simp [intOf]; omega
    · have HK := Lib.hid (show ns.take k = ns from List.take_of_length_le (by omega))
      rw [HK.out] at ho'
      subst ho'
      clear ho hlO
      go_wp2_with fail
      go_ret
      exact ⟨rfl, hE⟩

set_option maxHeartbeats 8000000 in
theorem refEncode6_any (v : Value) (c : Term.C) (w : World) (hv : IsConf w v c) : Calls Tryz.prog 12 #[v] w (GivesEnc6 w c) := by
  have hbx := box_confR
  have hr5 := fun w1 hv => refRight6_any v c w1 hv
  have HV := Lib.hid hv
  obtain ⟨s, d, rfl, hs, hd⟩ := hv
  obtain ⟨t, S, D⟩ := c
  unfold confV at *
  simp only at hs hd hr5 ⊢
  have HS := Lib.hid hs
  have HD := Lib.hid hd
  obtain ⟨a, cap, rfl, hcap, hmax, _, _⟩ := hs.open
  obtain ⟨a2, cap2, rfl, hcap2, hmax2, _⟩ := hd.open
  unfold maxLen at hmax hmax2
  clear hs hd
  have hE0 : Ext w (w.alloc (.cells #[.int .i64 t, .slice a S.length cap, .slice a2 D.length cap2] 25)) := Ext.alloc _ _
  have HA0 := Lib.hid (ConfAt.new 25 w t (.slice a S.length cap) (.slice a2 D.length cap2))
  unfold GivesEnc6
  cases hr : Term.right ⟨t, S, D⟩ with
  | false =>
    have HR := Lib.hid hr
    clear hr
    go_enter Tryz.func12, Tryz.ntmps12
    go_wp2_with fail
    refine (hr5 _ (HV.out.below hE0)).mono ?_
    rw [HR.out]
    rintro e w1 ⟨rfl, hE1⟩
    go_wp2_with fail
    go_ret2
    exact ⟨_, rfl, bytes_none _, hE0.trans hE1⟩
  | true =>
    have HR := Lib.hid hr
    obtain ⟨q1, q2, q3, q4, q5⟩ := Term.right_ok hr
    simp only at q1 q2 q3 q4 q5
    have HQ3 := Lib.hid q3
    obtain ⟨s1, s2⟩ := rowSmall q5 (by omega)
    have HS1 := Lib.hid s1
    have hSl : S.length ≤ 7 := by omega
    have HLE := Lib.hid (Term.enc_le hr)
    obtain ⟨A, hA⟩ : ∃ A, Pack.num t.toNat = A := ⟨_, rfl⟩
    obtain ⟨B, hB⟩ : ∃ B, Term.row S = B := ⟨_, rfl⟩
    obtain ⟨C, hC⟩ : ∃ C, Pack.num D.length = C := ⟨_, rfl⟩
    obtain ⟨X, hX⟩ : ∃ X, A ++ B = X := ⟨_, rfl⟩
    obtain ⟨Y, hY⟩ : ∃ Y, X ++ C = Y := ⟨_, rfl⟩
    have o1 : oneNum t = A := by rw [← hA]; exact oneNumOf (by omega)
    have o3 : oneNum (D.length : Int) = C := by rw [← hC]; exact oneNumOf (by omega)
    have n1 : A.length ≤ 9 := by rw [← hA]; exact Pack.num_nine (by omega)
    have n2 : B.length ≤ 72 := by rw [← hB]; exact s2
    have n3 : C.length ≤ 9 := by rw [← hC]; exact Pack.num_nine (by omega)
    have nX : X.length ≤ 81 := by rw [← hX, List.length_append]; omega
    have nY : Y.length ≤ 90 := by rw [← hY, List.length_append]; omega
    have HO1 := Lib.hid o1
    have HO3 := Lib.hid o3
    have HROW := Lib.hid (fun (wy : World) (h : Ext w wy) => hB ▸ refRow6_any _ S wy (HS.out.below h) (by omega) s1)
    have HTX := Lib.hid (show Term.text ⟨t, S, D⟩ = Y ++ Term.rowsOf D by unfold Term.text; simp only; rw [hA, hB, hC, ← hY, ← hX]; simp)
    have HX := Lib.hid hX
    have HY := Lib.hid hY
    have hsA := str_len A
    have hsB := str_len B
    have hsC := str_len C
    have hsX := str_len X
    have hsY := str_len Y
    clear o1 o3 hA hB hC hX hY hr s1 s2 q3 q4 q5
    go_enter Tryz.func12, Tryz.ntmps12
    go_wp2_with fail
    refine (hr5 _ (HV.out.below hE0)).mono ?_
    rw [HR.out]
    rintro e w1 ⟨rfl, hE1⟩
    have a1 := Lib.hid (HA0.out.ext hE1)
    have e1 := hE0.trans hE1
    go_wp2_with fail
    generalize hqq : w.heap.size = q at *
    have HQQ := Lib.hid hqq
    clear hqq
    refine wp_region_facts (by kernel_rfl) Ext (fun iop v w => match iop with
        | 0 => v = .pointer (some ⟨q, 0, none⟩)
        | 1 => v = .int .i64 t
        | 2 => v = .string ⟨A.toArray⟩
        | 3 => v = .pointer (some ⟨q, 1, none⟩)
        | 4 => v = .slice a S.length cap
        | 5 => v = .string ⟨B.toArray⟩
        | 6 => v = .string ⟨X.toArray⟩
        | 7 => v = .pointer (some ⟨q, 2, none⟩)
        | 8 => v = .slice a2 D.length cap2
        | 9 => v = .int .i64 (D.length : Int)
        | 10 => v = .string ⟨C.toArray⟩
        | 11 => v = .string ⟨Y.toArray⟩
        | _ => v = .string ⟨Y.toArray⟩
        ) (by kernel_rfl) (fun _ _ _ h k => Ext.trans h k) (fun a => Ext.refl a) (Ext.drew _) ?_ ?_ ?_
    · intro iop v wa wb hF hL
      cases iop with
      | zero => exact hF
      | succ iop =>
        cases iop with
        | zero => exact hF
        | succ iop =>
          cases iop with
          | zero => exact hF
          | succ iop =>
            cases iop with
            | zero => exact hF
            | succ iop =>
              cases iop with
              | zero => exact hF
              | succ iop =>
                cases iop with
                | zero => exact hF
                | succ iop =>
                  cases iop with
                  | zero => exact hF
                  | succ iop =>
                    cases iop with
                    | zero => exact hF
                    | succ iop =>
                      cases iop with
                      | zero => exact hF
                      | succ iop =>
                        cases iop with
                        | zero => exact hF
                        | succ iop =>
                          cases iop with
                          | zero => exact hF
                          | succ iop =>
                            cases iop with
                            | zero => exact hF
                            | succ iop =>
                              exact hF
    · refine Obls.cons ?_ (Obls.cons ?_ (Obls.cons ?_ (Obls.cons ?_ (Obls.cons ?_ (Obls.cons ?_ (Obls.cons ?_ (Obls.cons ?_ (Obls.cons ?_ (Obls.cons ?_ (Obls.cons ?_ (Obls.cons ?_ (Obls.cons ?_ (Obls.nil)))))))))))))
      · intro ev wy hp hl hk hd
        have e1 : ev (.tmp 1) = .pointer (some ⟨q, 0, none⟩) := hk 1 (by decide)
        clear hk
        clear hd
        exact Yield.op (v := .pointer (some ⟨q, 0, none⟩)) (w' := wy) (by simp [execOp, go_sem, e1]) ⟨Ext.refl _, rfl⟩
      · intro ev wy hp hl hk hd
        have e9 : ev (.tmp 9) = .pointer (some ⟨q, 0, none⟩) := hk 9 (by decide)
        clear hk
        clear hd
        exact Yield.load rfl e9 (ldInt (a1.out.ext hl).cells.1) ⟨Ext.refl _, rfl⟩
      · intro ev wy hp hl hk hd
        have e10 : ev (.tmp 10) = .int .i64 t := hk 10 (by decide)
        clear hk
        clear hd
        refine Yield.call rfl hp Tryz.func35 rfl (by kernel_rfl) ?_
        simp only [List.map_toArray, List.map_cons, List.map_nil, e10]
        exact ((HO1.out ▸ numRef_any t wy)).mono fun _ _ ⟨he, hb⟩ => ⟨_, he, hb, by first | rfl | simp⟩
      · intro ev wy hp hl hk hd
        have e1 : ev (.tmp 1) = .pointer (some ⟨q, 0, none⟩) := hk 1 (by decide)
        clear hk
        clear hd
        exact Yield.op (v := .pointer (some ⟨q, 1, none⟩)) (w' := wy) (by simp [execOp, go_sem, e1]) ⟨Ext.refl _, rfl⟩
      · intro ev wy hp hl hk hd
        have e12 : ev (.tmp 12) = .pointer (some ⟨q, 1, none⟩) := hk 12 (by decide)
        clear hk
        clear hd
        exact Yield.load rfl e12 (ldInts (a1.out.ext hl).cells.2.1) ⟨Ext.refl _, rfl⟩
      · intro ev wy hp hl hk hd
        have e13 : ev (.tmp 13) = .slice a S.length cap := hk 13 (by decide)
        clear hk
        clear hd
        refine Yield.call rfl hp Tryz.func36 rfl (by kernel_rfl) ?_
        simp only [List.map_toArray, List.map_cons, List.map_nil, e13]
        exact ((HROW.out wy (e1.trans hl))).mono fun _ _ ⟨he, hb⟩ => ⟨_, he, hb, by first | rfl | simp⟩
      · intro ev wy hp hl hk hd
        have e11 : ev (.tmp 11) = .string ⟨A.toArray⟩ := hk 11 (by decide)
        have e14 : ev (.tmp 14) = .string ⟨B.toArray⟩ := hk 14 (by decide)
        clear hk
        clear hd
        exact Yield.op (w' := wy) (by simp [execOp, go_sem, e11, e14]; rw [if_neg (by omega), mk_append, HX.out]) ⟨Ext.refl _, rfl⟩
      · intro ev wy hp hl hk hd
        have e1 : ev (.tmp 1) = .pointer (some ⟨q, 0, none⟩) := hk 1 (by decide)
        clear hk
        clear hd
        exact Yield.op (v := .pointer (some ⟨q, 2, none⟩)) (w' := wy) (by simp [execOp, go_sem, e1]) ⟨Ext.refl _, rfl⟩
      · intro ev wy hp hl hk hd
        have e16 : ev (.tmp 16) = .pointer (some ⟨q, 2, none⟩) := hk 16 (by decide)
        clear hk
        clear hd
        exact Yield.load rfl e16 (by simp [go_sem, (a1.out.ext hl).cells.2.2]) ⟨Ext.refl _, rfl⟩
      · intro ev wy hp hl hk hd
        have e17 : ev (.tmp 17) = .slice a2 D.length cap2 := hk 17 (by decide)
        clear hk
        clear hd
        exact Yield.op (v := .int .i64 (D.length : Int)) (w' := wy) (by simp [execOp, go_sem, e17]) ⟨Ext.refl _, rfl⟩
      · intro ev wy hp hl hk hd
        have e18 : ev (.tmp 18) = .int .i64 (D.length : Int) := hk 18 (by decide)
        clear hk
        clear hd
        refine Yield.call rfl hp Tryz.func35 rfl (by kernel_rfl) ?_
        simp only [List.map_toArray, List.map_cons, List.map_nil, e18]
        exact ((HO3.out ▸ numRef_any (D.length : Int) wy)).mono fun _ _ ⟨he, hb⟩ => ⟨_, he, hb, by first | rfl | simp⟩
      · intro ev wy hp hl hk hd
        have e15 : ev (.tmp 15) = .string ⟨X.toArray⟩ := hk 15 (by decide)
        have e19 : ev (.tmp 19) = .string ⟨C.toArray⟩ := hk 19 (by decide)
        clear hk
        clear hd
        exact Yield.op (w' := wy) (by simp [execOp, go_sem, e15, e19]; rw [if_neg (by omega), mk_append, HY.out]) ⟨Ext.refl _, rfl⟩
      · intro ev wy hp hl hk hd
        have e20 : ev (.tmp 20) = .string ⟨Y.toArray⟩ := hk 20 (by decide)
        clear hk
        clear hd
        exact Yield.as rfl ⟨Ext.refl _, e20⟩
    · intro vals wz hz hv
      have g9 : vals 0 = .pointer (some ⟨q, 0, none⟩) := hv 0 (by decide)
      have g10 : vals 1 = .int .i64 t := hv 1 (by decide)
      have g11 : vals 2 = .string ⟨A.toArray⟩ := hv 2 (by decide)
      have g12 : vals 3 = .pointer (some ⟨q, 1, none⟩) := hv 3 (by decide)
      have g13 : vals 4 = .slice a S.length cap := hv 4 (by decide)
      have g14 : vals 5 = .string ⟨B.toArray⟩ := hv 5 (by decide)
      have g15 : vals 6 = .string ⟨X.toArray⟩ := hv 6 (by decide)
      have g16 : vals 7 = .pointer (some ⟨q, 2, none⟩) := hv 7 (by decide)
      have g17 : vals 8 = .slice a2 D.length cap2 := hv 8 (by decide)
      have g18 : vals 9 = .int .i64 (D.length : Int) := hv 9 (by decide)
      have g19 : vals 10 = .string ⟨C.toArray⟩ := hv 10 (by decide)
      have g20 : vals 11 = .string ⟨Y.toArray⟩ := hv 11 (by decide)
      have g4 : vals 12 = .string ⟨Y.toArray⟩ := hv 12 (by decide)
      clear hv
      simp only [putAll, Act.put, List.setIfInBounds_toArray, List.set_cons_zero, List.set_cons_succ, g9, g10, g11, g12, g13, g14, g15, g16, g17, g18, g19, g20, g4]
      clear g9
      clear g10
      clear g11
      clear g12
      clear g13
      clear g14
      clear g15
      clear g16
      clear g17
      clear g18
      clear g19
      clear g20
      clear g4
      obtain ⟨wv, hwv⟩ : ∃ wv, wv = wz := ⟨_, rfl⟩
      rw [← hwv] at hz ⊢
      clear hwv
      have a2 := Lib.hid (a1.out.ext hz)
      have e2 := e1.trans hz
      have HY0 := Lib.hid (show Y = Y ++ Term.rowsOf (D.take 0) by simp [Term.rowsOf])
      clear hz hE0 hE1 e1 HA0 a1 HV hr5 HROW
      go_wp2_with fail
      go_loopw [4, 5] (fun o i wr => ∃ k : Nat, k ≤ D.length ∧ i = .int .i64 k ∧ Hid (o = .string ⟨(Y ++ Term.rowsOf (D.take k)).toArray⟩) ∧ Ext wv wr) (fun _ i _ => D.length - (intOf i).toNat)
      case atStart => exact ⟨0, by omega, rfl, by show _ = _; rw [← HY0.out], Ext.refl _⟩
      case round =>
        obtain ⟨k, hk, rfl, ho, hE⟩ := hrel
        have ho' := ho.out
        obtain ⟨c0, c1, c2⟩ := (a2.out.ext hE).cells
        have hLk : (Term.rowsOf (D.take k)).length ≤ 288 := by
          have := Term.rowsOf_le (D.take k) (fun l hl => HQ3.out l (List.mem_of_mem_take hl))
          rw [List.length_take] at this
          omega
        by_cases hlt : k < D.length
        · obtain ⟨a', cap', e', _, _, hc⟩ := ((HD.out.below e2).below hE).open
          obtain ⟨b, off, x, rfl, hcell, hx⟩ := hc k hlt
          injection e' with e3 e4 e5
          subst e3
          clear hc e4 e5
          have HX2 := Lib.hid hx
          obtain ⟨ax, cx, rfl, hcx, hmx, _⟩ := hx.open
          unfold maxLen at hmx
          clear hx
          obtain ⟨p1, p2, p3⟩ := Term.shard_ok (HQ3.out _ (List.getElem_mem hlt))
          obtain ⟨p4, p5⟩ := rowSmall p3 (by omega)
          have HP := Lib.hid p4
          have HTK := Lib.hid (show Y ++ Term.rowsOf (D.take (k + 1)) = (Y ++ Term.rowsOf (D.take k)) ++ Term.row D[k] by rw [take_succ_getD D k hlt, Term.rowsOf_snoc, List.append_assoc])
          obtain ⟨O, hO⟩ : ∃ O, Y ++ Term.rowsOf (D.take k) = O := ⟨_, rfl⟩
          obtain ⟨R, hR⟩ : ∃ R, Term.row D[k] = R := ⟨_, rfl⟩
          have hlO : O.length ≤ 378 := by rw [← hO, List.length_append]; omega
          rw [hO] at ho' HTK
          rw [hR] at HTK p5
          have hsO := str_len O
          have hsR := str_len R
          obtain ⟨T, hT⟩ : ∃ T, O ++ R = T := ⟨_, rfl⟩
          have hadd := mk_append O R
          rw [hT] at hadd HTK
          have HRR := Lib.hid hR
          subst ho'
          clear ho hO hR hT hLk p3 p4
          go_wp2_with fail
          refine (refRow6_any _ D[k] _ HX2.out (by omega) HP.out).mono ?_
          rw [HRR.out]
          rintro e w3 ⟨rfl, hE3⟩
          go_wp2_with fail
          go_roundw
          case rel => exact ⟨k + 1, by omega, by go_num, by show _ = _; rw [HTK.out], hE.trans hE3⟩
          case measure => simp [intOf]; omega
        · have HK := Lib.hid (show D.take k = D from List.take_of_length_le (by omega))
          rw [HK.out] at ho' hLk
          obtain ⟨O, hO⟩ : ∃ O, Y ++ Term.rowsOf D = O := ⟨_, rfl⟩
          have hlO : O.length ≤ 378 := by rw [← hO, List.length_append]; omega
          rw [hO] at ho'
          have HT2 := Lib.hid (show Term.text ⟨t, S, D⟩ = O by rw [HTX.out, hO])
          subst ho'
          clear ho hO hLk
          have hcv := runConv wr O
          have hby := Lib.hid (bytesOfConv wr O 5 (by unfold maxLen; omega))
          have hsO := str_len O
          go_wp2_with fail
          refine (put_ref _ O _ hby.out (by omega)).mono ?_
          rintro e w5 ⟨v5, rfl, hb5, hE5⟩
          have e5 := ((e2.trans hE).trans (extConv _ _ _)).trans hE5
          go_wp2_with fail
          go_ret2
          refine ⟨_, rfl, ?_, e5⟩
          show Bytes w5 v5 (Term.enc _)
          unfold Term.enc
          rw [HT2.out]
          exact hb5
end Go.Proofs.YtpfodkgncachiaaGreat
