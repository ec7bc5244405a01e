/-
  Layer 5: entries as bytes: the document's own answer.
-/
import Derived.Test.YtboopfbflfimlaaEntD
namespace Go.Proofs.Ytboopfbflfimlaa
set_option linter.unusedSimpArgs false
set_option linter.unusedVariables false
set_option maxRecDepth 100000
open Go.RowKit

set_option maxHeartbeats 4000000 in
theorem refEncode5_any (v : Value) (e : Ent.E) (w : World) (hv : IsEnt w v e) : Calls Try.prog 12 #[v] w (GivesEnc5 w e) := by
  have hbx := box_entR
  have hr5 := fun w1 hv => refRight5_any v e w1 hv
  have HV := Lib.hid hv
  obtain ⟨u, rfl, hu⟩ := hv
  obtain ⟨n, k, c, t, m, p⟩ := e
  unfold entV at *
  simp only at hu hr5 ⊢
  obtain ⟨a, cap, rfl, hcap, hmax, _, _⟩ := hu.open
  unfold maxLen at hmax
  have HU := Lib.hid hu
  clear hu
  have hE0 : Ext w (w.alloc (.cells #[.int .i64 n, .int .i64 k, .slice a c.length cap, .int .i64 t, .int .i64 m, .int .i64 p] 26)) := Ext.alloc _ _
  have HA0 := Lib.hid (EntAt.new 26 w (.slice a c.length cap) ⟨n, k, c, t, m, p⟩)
  unfold GivesEnc5
  cases hr : Ent.right ⟨n, k, c, t, m, p⟩ with
  | false =>
    have HR := Lib.hid hr
    clear hr
    go_enter Try.func12, Try.ntmps12
    go_wp2_with fail
    refine (hr5 _ (HV.out.below hE0)).mono ?_
    rw [HR.out]
    rintro e w1 ⟨rfl, hE1⟩
    go_wp2_with fail
    go_ret2
    exact ⟨_, rfl, bytes_none _, hE0.trans hE1⟩
  | true =>
    have HR := Lib.hid hr
    obtain ⟨q1, q2⟩ := Ent.right_ok hr
    simp only at q1 q2
    have hk : 0 ≤ k ∧ k ≤ 2 := by rcases q2 with ⟨h, _⟩ | ⟨h, _⟩ <;> omega
    have o1 : oneNum n = Pack.num n.toNat := oneNumOf (by omega)
    have o2 : oneNum k = Pack.num k.toNat := oneNumOf (by omega)
    have n1 := Pack.num_nine (n := n.toNat) (by omega)
    have n2 := Pack.num_nine (n := k.toNat) (by omega)
    have hq := Lib.hid (show Ent.text ⟨n, k, c, t, m, p⟩ = (Pack.num n.toNat ++ Pack.num k.toNat) ++ Ent.body ⟨n, k, c, t, m, p⟩ by unfold Ent.text; simp)
    obtain ⟨A, hA⟩ : ∃ A, Pack.num n.toNat = A := ⟨_, rfl⟩
    obtain ⟨B, hB⟩ : ∃ B, Pack.num k.toNat = B := ⟨_, rfl⟩
    rw [hA, hB] at hq
    rw [hA] at o1 n1
    rw [hB] at o2 n2
    have HO1 := Lib.hid o1
    have HO2 := Lib.hid o2
    have hsA := str_len A
    have hsB := str_len B
    obtain ⟨AB, hAB⟩ : ∃ AB, A ++ B = AB := ⟨_, rfl⟩
    have hsAB := str_len AB
    have hlAB : AB.length ≤ 18 := by rw [← hAB, List.length_append]; omega
    rw [hAB] at hq
    have HAB := Lib.hid hAB
    have HTL := Lib.hid (Ent.text_le hr)
    clear o1 o2 hA hB hAB hr
    go_enter Try.func12, Try.ntmps12
    go_wp2_with fail
    refine (hr5 _ (HV.out.below hE0)).mono ?_
    rw [HR.out]
    rintro e w1 ⟨rfl, hE1⟩
    have a1 := Lib.hid (HA0.out.ext hE1)
    have e1 := hE0.trans hE1
    go_wp2_with fail
    generalize hqq : w.heap.size = q at *
    have HQQ := Lib.hid hqq
    clear hqq
    refine wp_region_facts (by kernel_rfl) Ext (fun iop v w => match iop with
        | 0 => v = .pointer (some ⟨q, 0, none⟩)
        | 1 => v = .int .i64 n
        | 2 => v = .string ⟨A.toArray⟩
        | 3 => v = .pointer (some ⟨q, 1, none⟩)
        | 4 => v = .int .i64 k
        | 5 => v = .string ⟨B.toArray⟩
        | 6 => v = .string ⟨AB.toArray⟩
        | _ => v = .string ⟨AB.toArray⟩
        ) (by kernel_rfl) (fun _ _ _ h k => Ext.trans h k) (fun a => Ext.refl a) (Ext.drew _) ?_ ?_ ?_
    · intro iop v wa wb hF hL
      cases iop with
      | zero => exact hF
      | succ iop =>
        cases iop with
        | zero => exact hF
        | succ iop =>
          cases iop with
          | zero => exact hF
          | succ iop =>
            cases iop with
            | zero => exact hF
            | succ iop =>
              cases iop with
              | zero => exact hF
              | succ iop =>
                cases iop with
                | zero => exact hF
                | succ iop =>
                  cases iop with
                  | zero => exact hF
                  | succ iop =>
                    exact hF
    · refine Obls.cons ?_ (Obls.cons ?_ (Obls.cons ?_ (Obls.cons ?_ (Obls.cons ?_ (Obls.cons ?_ (Obls.cons ?_ (Obls.cons ?_ (Obls.nil))))))))
      · intro ev wy hp hl hk hd
        have e1 : ev (.tmp 1) = .pointer (some ⟨q, 0, none⟩) := hk 1 (by decide)
        clear hk
        clear hd
        exact Yield.op (v := .pointer (some ⟨q, 0, none⟩)) (w' := wy) (by simp [execOp, go_sem, e1]) ⟨Ext.refl _, rfl⟩
      · intro ev wy hp hl hk hd
        have e10 : ev (.tmp 10) = .pointer (some ⟨q, 0, none⟩) := hk 10 (by decide)
        clear hk
        clear hd
        exact Yield.load rfl e10 (ldInt (a1.out.ext hl).cells.1) ⟨Ext.refl _, rfl⟩
      · intro ev wy hp hl hk hd
        have e11 : ev (.tmp 11) = .int .i64 n := hk 11 (by decide)
        clear hk
        clear hd
        refine Yield.call rfl hp Try.func33 rfl (by kernel_rfl) ?_
        simp only [List.map_toArray, List.map_cons, List.map_nil, e11]
        exact ((HO1.out ▸ numRef_any n wy)).mono fun _ _ ⟨he, hb⟩ => ⟨_, he, hb, by first | rfl | simp⟩
      · intro ev wy hp hl hk hd
        have e1 : ev (.tmp 1) = .pointer (some ⟨q, 0, none⟩) := hk 1 (by decide)
        clear hk
        clear hd
        exact Yield.op (v := .pointer (some ⟨q, 1, none⟩)) (w' := wy) (by simp [execOp, go_sem, e1]) ⟨Ext.refl _, rfl⟩
      · intro ev wy hp hl hk hd
        have e13 : ev (.tmp 13) = .pointer (some ⟨q, 1, none⟩) := hk 13 (by decide)
        clear hk
        clear hd
        exact Yield.load rfl e13 (ldInt (a1.out.ext hl).cells.2.1) ⟨Ext.refl _, rfl⟩
      · intro ev wy hp hl hk hd
        have e14 : ev (.tmp 14) = .int .i64 k := hk 14 (by decide)
        clear hk
        clear hd
        refine Yield.call rfl hp Try.func33 rfl (by kernel_rfl) ?_
        simp only [List.map_toArray, List.map_cons, List.map_nil, e14]
        exact ((HO2.out ▸ numRef_any k wy)).mono fun _ _ ⟨he, hb⟩ => ⟨_, he, hb, by first | rfl | simp⟩
      · intro ev wy hp hl hk hd
        have e12 : ev (.tmp 12) = .string ⟨A.toArray⟩ := hk 12 (by decide)
        have e15 : ev (.tmp 15) = .string ⟨B.toArray⟩ := hk 15 (by decide)
        clear hk
        clear hd
        exact Yield.op (w' := wy) (by simp [execOp, go_sem, e12, e15]; rw [if_neg (by omega), mk_append, HAB.out]) ⟨Ext.refl _, rfl⟩
      · intro ev wy hp hl hk hd
        have e16 : ev (.tmp 16) = .string ⟨AB.toArray⟩ := hk 16 (by decide)
        clear hk
        clear hd
        exact Yield.as rfl ⟨Ext.refl _, e16⟩
    · intro vals wz hz hv
      have g10 : vals 0 = .pointer (some ⟨q, 0, none⟩) := hv 0 (by decide)
      have g11 : vals 1 = .int .i64 n := hv 1 (by decide)
      have g12 : vals 2 = .string ⟨A.toArray⟩ := hv 2 (by decide)
      have g13 : vals 3 = .pointer (some ⟨q, 1, none⟩) := hv 3 (by decide)
      have g14 : vals 4 = .int .i64 k := hv 4 (by decide)
      have g15 : vals 5 = .string ⟨B.toArray⟩ := hv 5 (by decide)
      have g16 : vals 6 = .string ⟨AB.toArray⟩ := hv 6 (by decide)
      have g4 : vals 7 = .string ⟨AB.toArray⟩ := hv 7 (by decide)
      clear hv
      simp only [putAll, Act.put, List.setIfInBounds_toArray, List.set_cons_zero, List.set_cons_succ, g10, g11, g12, g13, g14, g15, g16, g4]
      clear g10
      clear g11
      clear g12
      clear g13
      clear g14
      clear g15
      clear g16
      clear g4
      obtain ⟨wv, hwv⟩ : ∃ wv, wv = wz := ⟨_, rfl⟩
      rw [← hwv] at hz ⊢
      clear hwv
      have a2 := Lib.hid (a1.out.ext hz)
      have e2 := e1.trans hz
      clear hz hE0 hE1 e1 HA0 a1 HV hr5
      rcases q2 with ⟨rfl, v1, rfl, rfl, rfl⟩ | ⟨rfl, rfl, t1, t2, t3⟩
      · have HVL := Lib.hid (Ent.vecBytes_le v1)
        have HV1 := Lib.hid v1
        obtain ⟨c0, c1, c2, c3, c4, c5⟩ := a2.out.cells
        rw [Ent.body_one (show (1 : Int) = 1 from rfl)] at hq
        clear v1
        go_wp2_with fail
        refine (refEncode_any _ c _ (HU.out.below e2)).mono ?_
        unfold GivesEnc
        rw [HV1.out, bytesOr_true]
        rintro e w3 ⟨v3, rfl, hb3, hE3⟩
        have e3 := e2.trans hE3
        have hst := run_str (P := Try.prog) 27 9 5 Try.underlying27 Try.underlying5 Try.underlying9 hb3
        obtain ⟨a3, n3, k3, rfl⟩ := hb3.isSlice
        clear c0 c1 c2 c3 c4 c5
        rw [← Ent.vecBytes_enc] at hst
        have hql := Lib.hid (show (Pack.num (Ent.vecBytes c).length ++ Ent.vecBytes c).length ≤ 90 by
          rw [List.length_append]
          have := Pack.num_nine (n := (Ent.vecBytes c).length) (by have := HVL.out; omega)
          have := HVL.out
          omega)
        have htx := fun wy => textRef_any (Ent.vecBytes c) wy (by have := HVL.out; omega)
        (try simp only at hq)
        obtain ⟨VB, hVB⟩ : ∃ VB, Pack.num (Ent.vecBytes c).length ++ Ent.vecBytes c = VB := ⟨_, rfl⟩
        rw [hVB] at hq hql htx
        have HTX := Lib.hid htx
        have hlV := hql.out
        obtain ⟨T, hT⟩ : ∃ T, AB ++ VB = T := ⟨_, rfl⟩
        have hlT : T.length ≤ 108 := by rw [← hT, List.length_append]; omega
        rw [hT] at hq
        have hadd := mk_append AB VB
        rw [hT] at hadd
        have hsV := str_len VB
        clear hVB htx hT
        go_wp2_with fail
        refine (HTX.out _).mono ?_
        rintro e w4 ⟨rfl, hE4⟩
        have e4 := e3.trans hE4
        have hcv := run_conv w4 T
        have hby := Lib.hid (bytes_of_str w4 T 5 (by unfold maxLen; omega))
        go_wp2_with fail
        refine (put_ref _ T _ hby.out (by omega)).mono ?_
        rintro e w5 ⟨v5, rfl, hb5, hE5⟩
        have e5 := (e4.trans (ext_bytesWorld _ _ _)).trans hE5
        go_wp2_with fail
        go_ret2
        refine ⟨_, rfl, ?_, e5⟩
        show Bytes w5 v5 (Ent.enc _)
        unfold Ent.enc
        rw [hq.out]
        exact hb5
      · have o3 : oneNum t = Pack.num t.toNat := oneNumOf (by omega)
        have o4 : oneNum m = Pack.num m.toNat := oneNumOf (by omega)
        have o5 : oneNum p = Pack.num p.toNat := oneNumOf (by omega)
        have n3 := Pack.num_nine (n := t.toNat) (by omega)
        have n4 := Pack.num_nine (n := m.toNat) (by omega)
        have n5 := Pack.num_nine (n := p.toNat) (by omega)
        rw [Ent.body_two (show (2 : Int) ≠ 1 by decide)] at hq
        (try simp only at hq)
        obtain ⟨C, hC⟩ : ∃ C, Pack.num t.toNat = C := ⟨_, rfl⟩
        obtain ⟨D, hD⟩ : ∃ D, Pack.num m.toNat = D := ⟨_, rfl⟩
        obtain ⟨F, hF⟩ : ∃ F, Pack.num p.toNat = F := ⟨_, rfl⟩
        rw [hC] at o3 n3
        rw [hD] at o4 n4
        rw [hF] at o5 n5
        rw [hC, hD, hF] at hq
        have HO3 := Lib.hid o3
        have HO4 := Lib.hid o4
        have HO5 := Lib.hid o5
        obtain ⟨X, hX⟩ : ∃ X, AB ++ C = X := ⟨_, rfl⟩
        obtain ⟨Y, hY⟩ : ∃ Y, X ++ D = Y := ⟨_, rfl⟩
        obtain ⟨Z, hZ⟩ : ∃ Z, Y ++ F = Z := ⟨_, rfl⟩
        have hlX : X.length ≤ 27 := by rw [← hX, List.length_append]; omega
        have hlY : Y.length ≤ 36 := by rw [← hY, List.length_append]; omega
        have hlZ : Z.length ≤ 45 := by rw [← hZ, List.length_append]; omega
        have hfin := Lib.hid (show Ent.text ⟨n, 2, [], t, m, p⟩ = Z by rw [hq.out, ← hZ, ← hY, ← hX]; simp)
        have HX := Lib.hid hX
        have HY := Lib.hid hY
        have HZ := Lib.hid hZ
        have hsC := str_len C
        have hsD := str_len D
        have hsF := str_len F
        have hsX := str_len X
        have hsY := str_len Y
        have c1 := (a2.out).cells.2.1
        clear o3 o4 o5 hC hD hF hX hY hZ hq
        go_wp2_with fail
        clear c1
        refine wp_region_facts (by kernel_rfl) Ext (fun iop v w => match iop with
            | 0 => v = .string ⟨AB.toArray⟩
            | 1 => v = .pointer (some ⟨q, 3, none⟩)
            | 2 => v = .int .i64 t
            | 3 => v = .string ⟨C.toArray⟩
            | 4 => v = .string ⟨X.toArray⟩
            | 5 => v = .pointer (some ⟨q, 4, none⟩)
            | 6 => v = .pointer (some ⟨q, 4, none⟩)
            | 7 => v = .int .i64 m
            | 8 => v = .string ⟨D.toArray⟩
            | 9 => v = .string ⟨Y.toArray⟩
            | 10 => v = .pointer (some ⟨q, 4, none⟩)
            | 11 => v = .pointer (some ⟨q, 5, none⟩)
            | 12 => v = .int .i64 p
            | 13 => v = .string ⟨F.toArray⟩
            | 14 => v = .string ⟨Z.toArray⟩
            | _ => v = .string ⟨Z.toArray⟩
            ) (by kernel_rfl) (fun _ _ _ h k => Ext.trans h k) (fun a => Ext.refl a) (Ext.drew _) ?_ ?_ ?_
        · intro iop v wa wb hF hL
          cases iop with
          | zero => exact hF
          | succ iop =>
            cases iop with
            | zero => exact hF
            | succ iop =>
              cases iop with
              | zero => exact hF
              | succ iop =>
                cases iop with
                | zero => exact hF
                | succ iop =>
                  cases iop with
                  | zero => exact hF
                  | succ iop =>
                    cases iop with
                    | zero => exact hF
                    | succ iop =>
                      cases iop with
                      | zero => exact hF
                      | succ iop =>
                        cases iop with
                        | zero => exact hF
                        | succ iop =>
                          cases iop with
                          | zero => exact hF
                          | succ iop =>
                            cases iop with
                            | zero => exact hF
                            | succ iop =>
                              cases iop with
                              | zero => exact hF
                              | succ iop =>
                                cases iop with
                                | zero => exact hF
                                | succ iop =>
                                  cases iop with
                                  | zero => exact hF
                                  | succ iop =>
                                    cases iop with
                                    | zero => exact hF
                                    | succ iop =>
                                      cases iop with
                                      | zero => exact hF
                                      | succ iop =>
                                        exact hF
        · refine Obls.cons ?_ (Obls.cons ?_ (Obls.cons ?_ (Obls.cons ?_ (Obls.cons ?_ (Obls.cons ?_ (Obls.cons ?_ (Obls.cons ?_ (Obls.cons ?_ (Obls.cons ?_ (Obls.cons ?_ (Obls.cons ?_ (Obls.cons ?_ (Obls.cons ?_ (Obls.cons ?_ (Obls.cons ?_ (Obls.nil))))))))))))))))
          · intro ev wy hp hl hk hd
            have e4 : ev (.tmp 4) = .string ⟨AB.toArray⟩ := hk 4 (by decide)
            clear hk
            clear hd
            exact Yield.mv rfl ⟨Ext.refl _, e4⟩
          · intro ev wy hp hl hk hd
            have e1 : ev (.tmp 1) = .pointer (some ⟨q, 0, none⟩) := hk 1 (by decide)
            clear hk
            clear hd
            exact Yield.op (v := .pointer (some ⟨q, 3, none⟩)) (w' := wy) (by simp [execOp, go_sem, e1]) ⟨Ext.refl _, rfl⟩
          · intro ev wy hp hl hk hd
            have e32 : ev (.tmp 32) = .pointer (some ⟨q, 3, none⟩) := hk 32 (by decide)
            clear hk
            clear hd
            exact Yield.load rfl e32 (ldInt (a2.out.ext hl).cells.2.2.2.1) ⟨Ext.refl _, rfl⟩
          · intro ev wy hp hl hk hd
            have e33 : ev (.tmp 33) = .int .i64 t := hk 33 (by decide)
            clear hk
            clear hd
            refine Yield.call rfl hp Try.func33 rfl (by kernel_rfl) ?_
            simp only [List.map_toArray, List.map_cons, List.map_nil, e33]
            exact ((HO3.out ▸ numRef_any t wy)).mono fun _ _ ⟨he, hb⟩ => ⟨_, he, hb, by first | rfl | simp⟩
          · intro ev wy hp hl hk hd
            have e31 : ev (.tmp 31) = .string ⟨AB.toArray⟩ := hk 31 (by decide)
            have e34 : ev (.tmp 34) = .string ⟨C.toArray⟩ := hk 34 (by decide)
            clear hk
            clear hd
            exact Yield.op (w' := wy) (by simp [execOp, go_sem, e31, e34]; rw [if_neg (by omega), mk_append, HX.out]) ⟨Ext.refl _, rfl⟩
          · intro ev wy hp hl hk hd
            have e1 : ev (.tmp 1) = .pointer (some ⟨q, 0, none⟩) := hk 1 (by decide)
            clear hk
            clear hd
            exact Yield.op (v := .pointer (some ⟨q, 4, none⟩)) (w' := wy) (by simp [execOp, go_sem, e1]) ⟨Ext.refl _, rfl⟩
          · intro ev wy hp hl hk hd
            have e36 : ev (.tmp 36) = .pointer (some ⟨q, 4, none⟩) := hk 36 (by decide)
            clear hk
            clear hd
            exact Yield.op (v := .pointer (some ⟨q, 4, none⟩)) (w' := wy) (by simp [execOp, go_sem, e36]) ⟨Ext.refl _, rfl⟩
          · intro ev wy hp hl hk hd
            have e37 : ev (.tmp 37) = .pointer (some ⟨q, 4, none⟩) := hk 37 (by decide)
            clear hk
            clear hd
            exact Yield.load rfl e37 (ldInt (a2.out.ext hl).cells.2.2.2.2.1) ⟨Ext.refl _, rfl⟩
          · intro ev wy hp hl hk hd
            have e38 : ev (.tmp 38) = .int .i64 m := hk 38 (by decide)
            clear hk
            clear hd
            refine Yield.call rfl hp Try.func33 rfl (by kernel_rfl) ?_
            simp only [List.map_toArray, List.map_cons, List.map_nil, e38]
            exact ((HO4.out ▸ numRef_any m wy)).mono fun _ _ ⟨he, hb⟩ => ⟨_, he, hb, by first | rfl | simp⟩
          · intro ev wy hp hl hk hd
            have e35 : ev (.tmp 35) = .string ⟨X.toArray⟩ := hk 35 (by decide)
            have e39 : ev (.tmp 39) = .string ⟨D.toArray⟩ := hk 39 (by decide)
            clear hk
            clear hd
            exact Yield.op (w' := wy) (by simp [execOp, go_sem, e35, e39]; rw [if_neg (by omega), mk_append, HY.out]) ⟨Ext.refl _, rfl⟩
          · intro ev wy hp hl hk hd
            have e1 : ev (.tmp 1) = .pointer (some ⟨q, 0, none⟩) := hk 1 (by decide)
            clear hk
            clear hd
            exact Yield.op (v := .pointer (some ⟨q, 4, none⟩)) (w' := wy) (by simp [execOp, go_sem, e1]) ⟨Ext.refl _, rfl⟩
          · intro ev wy hp hl hk hd
            have e41 : ev (.tmp 41) = .pointer (some ⟨q, 4, none⟩) := hk 41 (by decide)
            clear hk
            clear hd
            exact Yield.op (v := .pointer (some ⟨q, 5, none⟩)) (w' := wy) (by simp [execOp, go_sem, e41]) ⟨Ext.refl _, rfl⟩
          · intro ev wy hp hl hk hd
            have e42 : ev (.tmp 42) = .pointer (some ⟨q, 5, none⟩) := hk 42 (by decide)
            clear hk
            clear hd
            exact Yield.load rfl e42 (ldInt (a2.out.ext hl).cells.2.2.2.2.2) ⟨Ext.refl _, rfl⟩
          · intro ev wy hp hl hk hd
            have e43 : ev (.tmp 43) = .int .i64 p := hk 43 (by decide)
            clear hk
            clear hd
            refine Yield.call rfl hp Try.func33 rfl (by kernel_rfl) ?_
            simp only [List.map_toArray, List.map_cons, List.map_nil, e43]
            exact ((HO5.out ▸ numRef_any p wy)).mono fun _ _ ⟨he, hb⟩ => ⟨_, he, hb, by first | rfl | simp⟩
          · intro ev wy hp hl hk hd
            have e40 : ev (.tmp 40) = .string ⟨Y.toArray⟩ := hk 40 (by decide)
            have e44 : ev (.tmp 44) = .string ⟨F.toArray⟩ := hk 44 (by decide)
            clear hk
            clear hd
            exact Yield.op (w' := wy) (by simp [execOp, go_sem, e40, e44]; rw [if_neg (by omega), mk_append, HZ.out]) ⟨Ext.refl _, rfl⟩
          · intro ev wy hp hl hk hd
            have e45 : ev (.tmp 45) = .string ⟨Z.toArray⟩ := hk 45 (by decide)
            clear hk
            clear hd
            exact Yield.as rfl ⟨Ext.refl _, e45⟩
        · intro vals wz hz hv
          have g31 : vals 0 = .string ⟨AB.toArray⟩ := hv 0 (by decide)
          have g32 : vals 1 = .pointer (some ⟨q, 3, none⟩) := hv 1 (by decide)
          have g33 : vals 2 = .int .i64 t := hv 2 (by decide)
          have g34 : vals 3 = .string ⟨C.toArray⟩ := hv 3 (by decide)
          have g35 : vals 4 = .string ⟨X.toArray⟩ := hv 4 (by decide)
          have g36 : vals 5 = .pointer (some ⟨q, 4, none⟩) := hv 5 (by decide)
          have g37 : vals 6 = .pointer (some ⟨q, 4, none⟩) := hv 6 (by decide)
          have g38 : vals 7 = .int .i64 m := hv 7 (by decide)
          have g39 : vals 8 = .string ⟨D.toArray⟩ := hv 8 (by decide)
          have g40 : vals 9 = .string ⟨Y.toArray⟩ := hv 9 (by decide)
          have g41 : vals 10 = .pointer (some ⟨q, 4, none⟩) := hv 10 (by decide)
          have g42 : vals 11 = .pointer (some ⟨q, 5, none⟩) := hv 11 (by decide)
          have g43 : vals 12 = .int .i64 p := hv 12 (by decide)
          have g44 : vals 13 = .string ⟨F.toArray⟩ := hv 13 (by decide)
          have g45 : vals 14 = .string ⟨Z.toArray⟩ := hv 14 (by decide)
          have g4 : vals 15 = .string ⟨Z.toArray⟩ := hv 15 (by decide)
          clear hv
          simp only [putAll, Act.put, List.setIfInBounds_toArray, List.set_cons_zero, List.set_cons_succ, g31, g32, g33, g34, g35, g36, g37, g38, g39, g40, g41, g42, g43, g44, g45, g4]
          clear g31
          clear g32
          clear g33
          clear g34
          clear g35
          clear g36
          clear g37
          clear g38
          clear g39
          clear g40
          clear g41
          clear g42
          clear g43
          clear g44
          clear g45
          clear g4
          have e3 := e2.trans hz
          have hcv := run_conv wz Z
          have hby := Lib.hid (bytes_of_str wz Z 5 (by unfold maxLen; omega))
          go_wp2_with fail
          refine (put_ref _ Z _ hby.out (by omega)).mono ?_
          rintro e w5 ⟨v5, rfl, hb5, hE5⟩
          have e5 := (e3.trans (ext_bytesWorld _ _ _)).trans hE5
          go_wp2_with fail
          go_ret2
          refine ⟨_, rfl, ?_, e5⟩
          show Bytes w5 v5 (Ent.enc _)
          unfold Ent.enc
          rw [hfin.out]
          exact hb5
end Go.Proofs.Ytboopfbflfimlaa
